import PyProof.Rows.All
import Wide.All
import OpenK.AllK
import Wide.FinOn
import PyProof.EqAt
import PyProof.EqKinds
import PyProof.TupleCall
import PyProof.CompFree
import PyProof.EvalArms
import KE.BitLaws
import OpenK.KOwn
import KE.KIsAll
import PyProof.ExcArgsOwn
import PyProof.IsiH_list
import PyProof.NsDelKeeps
import PyProof.ExcAttrAll.ValueError
import PyProof.ExcBaseAll.ValueError
import PyProof.ZipIter
import PyProof.Rows.SumAny
import KE.LcSums
import PyProof.SetRoads
import PyProof.Rows.SetFrom
import KE.KSetDisp
import PyProof.DictIter
import PyProof.DictRoadsH
import PyProof.Rows.TupDisplay
import PyProof.FString
import PyProof.SetKind
import PyProof.TupleKey
import PyProof.IsRules
import KE.KDictSum
import PyProof.SetNew
import PyProof.FactsAll.list_1
import PyProof.CollectWalk
import PyProof.StrWalks
import PyProof.StrLawsTight
import PyProof.StrLawsChain
import PyProof.StrLawsIn
import PyProof.StrCalls2
import PyProof.StrBlockG
import PyProof.SliceStr2
import KE.KIntText
import PyProof.CollectIter
import PyProof.Walks
import PyProof.StrOps2
import PyProof.Rows.Range3
import PyProof.DictCompW
import PyProof.DictItems
import KE.KPairComp
import PyProof.Rows.SeqMore
import PySem.Challenge.RW_turnline_k32_markings_looked_at
set_option Elab.async false
set_option linter.all false
set_option maxRecDepth 100000
namespace L2
open PySem PySem.Spec PyProof.Rows
abbrev Key := Sum Int Str
def keyIs : Key → Value → Bool
 | .inl k, v => Value.isInt k v
 | .inr x, v => Value.isStrOf x v
def keyH (w : World) : Key → Int
 | .inl k => hashInt k
 | .inr x => hashStr w x
theorem keyIs_shape : ∀ {k : Key} {v : Value}, keyIs k v = true → (∃ i t, k = Sum.inl i ∧ v = Value.int i t) ∨ (∃ x t, k = Sum.inr x ∧ v = Value.str x t)
 | .inl i, v, h => by
  obtain ⟨t, e⟩ := Value.isInt_shape (k := i) (v := v) h
  exact .inl ⟨i, t, rfl, e⟩
 | .inr x, v, h => by
  obtain ⟨t, e⟩ := Value.isStrOf_shape (x := x) (v := v) h
  exact .inr ⟨x, t, rfl, e⟩
theorem keyIs_int (i : Int) (t : Tok) : keyIs (.inl i) (.int i t) = true := by simp [keyIs, Value.isInt]
theorem keyIs_str (x : Str) (t : Tok) : keyIs (.inr x) (.str x t) = true := by simp [keyIs, Value.isStrOf]
theorem key_ll (a b : Int) : decide ((Sum.inl a : Key) = Sum.inl b) = (a == b) := by
 by_cases e : a = b
 ·subst e; simp
 ·have h : ¬ (Sum.inl a : Key) = Sum.inl b := fun q => e (Sum.inl.inj q)
  rw [decide_eq_false h]
  exact (beq_eq_false_iff_ne.mpr e).symm
theorem key_rr (a b : Str) : decide ((Sum.inr a : Key) = Sum.inr b) = decide (a = b) := by
 by_cases e : a = b
 ·subst e; simp
 ·have h : ¬ (Sum.inr a : Key) = Sum.inr b := fun q => e (Sum.inr.inj q)
  rw [decide_eq_false h, decide_eq_false e]
theorem key_lr (a : Int) (b : Str) : decide ((Sum.inl a : Key) = Sum.inr b) = false := decide_eq_false (fun q => nomatch q)
theorem key_rl (a : Str) (b : Int) : decide ((Sum.inr a : Key) = Sum.inl b) = false := decide_eq_false (fun q => nomatch q)
def mixKind (prog : Program) (w : World) : PySem.KeyKind prog w Key where
 is := keyIs
 hash := keyH w
 inj := fun v a b ha hb => by
  rcases keyIs_shape ha with ⟨i, t, rfl, rfl⟩ | ⟨x, t, rfl, rfl⟩
  ·rcases keyIs_shape hb with ⟨j, u, rfl, e⟩ | ⟨y, u, rfl, e⟩
   ·injection e with e1 _; rw [e1]
   ·exact nomatch e
  ·rcases keyIs_shape hb with ⟨j, u, rfl, e⟩ | ⟨y, u, rfl, e⟩
   ·exact nomatch e
   ·injection e with e1 _; rw [e1]
 byValue := fun k v h => by
  rcases keyIs_shape h with ⟨i, t, rfl, rfl⟩ | ⟨x, t, rfl, rfl⟩ <;> rfl
 pyHash := fun hv h => by
  rcases keyIs_shape hv with ⟨i, t, rfl, rfl⟩ | ⟨x, t, rfl, rfl⟩
  ·exact wpAny_pyHash_int h
  ·exact wpAny_pyHash_str h
 eqBool := fun hu hv h => by
  rcases keyIs_shape hu with ⟨i, t, rfl, rfl⟩ | ⟨x, t, rfl, rfl⟩
  ·rcases keyIs_shape hv with ⟨j, u, rfl, rfl⟩ | ⟨y, u, rfl, rfl⟩
   ·rw [key_ll] at h; exact wpAny_eqBool_int h
   ·rw [key_lr] at h; exact SeqAt.EqAt.int_str i t y u _ _ _ _ h
  ·rcases keyIs_shape hv with ⟨j, u, rfl, rfl⟩ | ⟨y, u, rfl, rfl⟩
   ·rw [key_rl] at h; exact SeqAt.EqAt.str_int x t j u _ _ _ _ h
   ·rw [key_rr] at h; exact wpAny_eqBool_str h
 «strs» := fun k x t v h => by
  rcases keyIs_shape h with ⟨i, u, rfl, e⟩ | ⟨y, u, rfl, e⟩
  ·exact nomatch e
  ·injection e with e1 _
   subst e1
   cases v <;> rfl
theorem mixKind_int (prog : Program) (w : World) (i : Int) (t : Tok) : (mixKind prog w).is (.inl i) (.int i t) = true := keyIs_int i t
theorem mixKind_str (prog : Program) (w : World) (x : Str) (t : Tok) : (mixKind prog w).is (.inr x) (.str x t) = true := keyIs_str x t
end L2
namespace L2
open PySem PySem.Spec PyProof.Rows
inductive V where
 | non | bl (b : Bool) | int (i : Int) | str (x : Str) | byt (b : Array UInt8) | flt (b : UInt64) | ref (a : Addr) | ty (n : String)
 deriving DecidableEq
def RelV : V → Value → Prop
 | .non, u => u = Value.none
 | .bl b, u => u = Value.bool b
 | .int i, u => ∃ t, u = Value.int i t
 | .str x, u => ∃ t, u = Value.str x t
 | .byt b, u => ∃ t, u = Value.bytes b t
 | .flt b, u => ∃ t, u = Value.float b t
 | .ref a, u => u = Value.ref a
 | .ty n, u => u = Value.type n
abbrev Vals : List V → List Value → Prop := Paired RelV
theorem Vals.length {xs : List V} {us : List Value} (r : Vals xs us) : xs.length = us.length := Paired.length r
theorem Vals.get : ∀ {xs : List V} {us : List Value} {i : Nat} {x : V}, Vals xs us → xs[i]? = some x → ∃ u, us[i]? = some u ∧ RelV x u
 | _, _, _, _, .nil, e => by simp at e
 | _, _, 0, _, .cons r _, e => by simp at e; subst e; exact ⟨_, rfl, r⟩
 | _, _, i + 1, x, .cons _ t, e => by
  obtain ⟨u, h1, h2⟩ := Vals.get (i := i) (x := x) t (by simpa using e)
  exact ⟨u, by simpa using h1, h2⟩
theorem Vals.set {x : V} {u : Value} (r : RelV x u) : ∀ {xs : List V} {us : List Value} (i : Nat), Vals xs us → Vals (xs.set i x) (us.set i u)
 | _, _, _, .nil => .nil
 | _, _, 0, .cons _ t => .cons r t
 | _, _, i + 1, .cons q t => .cons q (Vals.set r i t)
theorem Vals.append : ∀ {xs ys : List V} {us ws : List Value}, Vals xs us → Vals ys ws → Vals (xs ++ ys) (us ++ ws)
 | _, _, _, _, .nil, s => s
 | _, _, _, _, .cons r t, s => .cons r (Vals.append t s)
theorem Vals.take : ∀ {xs : List V} {us : List Value} (n : Nat), Vals xs us → Vals (xs.take n) (us.take n)
 | _, _, 0, _ => .nil
 | _, _, _ + 1, .nil => .nil
 | _, _, n + 1, .cons r t => .cons r (Vals.take n t)
theorem Vals.drop : ∀ {xs : List V} {us : List Value} (n : Nat), Vals xs us → Vals (xs.drop n) (us.drop n)
 | _, _, 0, r => r
 | _, _, _ + 1, .nil => .nil
 | _, _, n + 1, .cons _ t => Vals.drop n t
def RelO : Option V → Option Value → Prop
 | some v, some u => RelV v u
 | none, none => True
 | _, _ => False
def KV {κ : Type} : List (κ × V) → List (κ × Value) → Prop := Paired fun (p : κ × V) (q : κ × Value) => p.1 = q.1 ∧ RelV p.2 q.2
def kV : Key → V
 | .inl i => .int i
 | .inr x => .str x
inductive HO where
 /-- a list -/
 | lst (xs : List V)
 /-- a tuple (never changes) -/
 | tup (xs : List V)
 /-- a dict whose keys are ints and texts; one whose keys are tuples of ints and texts (the empty one is both) -/
 | dK (kvs : List (Key × V)) | dT (kvs : List (List Key × V))
 /-- a set of ints: its members, its size -/
 | set (S : Int → Bool) (n : Nat)
 /-- an instance of the class at C, its dict at dx, its attributes -/
 | ins (C dx : Addr) (fs : List (Str × V))
 /-- the dict of the instance at x -/
 | own (x : Addr)
 /-- the dict of an exception -/
 | xd (fs : List (Str × V))
 /-- a bound method, f of x -/
 | met (f x : Addr)
 /-- a range object lo, lo + 1, .. below hi -/
 | rng (lo hi : Int)
 /-- a thing that is known to the object (the script; a dict while a loop walks it): read, never written while it is so -/
 | frz (o : Obj) (u : HO)
 /-- a code object's table -/
 | tbl (ps : Array Value)
 /-- any other thing, by what is true of its one object (a def of one's own: SetO a S n := HO.ext fun h => ..) -/
 | ext (φ : Heap → Prop)
abbrev Hp := Addr → Option HO
def upd (H : Hp) (a : Addr) (o : HO) : Hp := fun b => if b = a then some o else H b
theorem upd_same {H : Hp} {a : Addr} {o : HO} : upd H a o a = some o := by unfold upd; rw [if_pos rfl]
theorem upd_ne {H : Hp} {a b : Addr} {o : HO} (h : b ≠ a) : upd H a o b = H b := by unfold upd; rw [if_neg h]
theorem upd_upd {H : Hp} {a : Addr} {o u : HO} : upd (upd H a o) a u = upd H a u := by
 funext b; unfold upd; split <;> rfl
theorem ne_of {H : Hp} {a b : Addr} {o u : HO} (h : H a = some o) (h' : H b = some u) (d : o ≠ u) : a ≠ b := by
 intro e; subst e; rw [h] at h'; exact d (Option.some.inj h')
theorem ne_of_none {H : Hp} {a b : Addr} {o : HO} (h : H a = some o) (h' : H b = none) : a ≠ b := by
 intro e; subst e; rw [h] at h'; cases h'
section
variable (P : Program) (w : World)
def ObjOk (H : Hp) (h : Heap) (a : Addr) : HO → Prop
 | .lst xs => xs.length ≤ sizeLine ∧ ∃ (its : List Value) (n : Nat), Vals xs its ∧ h.get? a = some { cls := .type "list", data := .seq its.toArray n }
 | .tup xs => xs.length ≤ sizeLine ∧ ∃ its : List Value, Vals xs its ∧ IsTup h a its.toArray
 | .dK kvs => kvs.length ≤ sizeLine ∧ (a == sysModules) = false ∧ ∃ vs, KV kvs vs ∧ h.DictOf (mixKind P w) a vs
 | .dT kvs => kvs.length ≤ sizeLine ∧ (a == sysModules) = false ∧ ∃ xs : List (List Key × Addr × Value),
   Paired (fun (p : List Key × V) (q : List Key × Addr × Value) => p.1 = q.1 ∧ H q.2.1 = some (.tup (p.1.map kV)) ∧ RelV p.2 q.2.2) kvs xs ∧
   ∃ o es ep, h.get? a = some o ∧ o.ExactDict ∧ o.data = .dict es ep ∧ es.toList = xs.map (entryOfKey (tupleKind (mixKind P w))) ∧ (xs.map (·.1)).Nodup
 | .set S n => h.SetOf (intKind P w) a S n
 | .ins C dx fs => H dx = some (.own a) ∧ fs.length ≤ 1000 ∧ dx ≠ a ∧ h.get? a = some (PySem.W.instObj C dx) ∧
   ∃ mA, h.Ns1 dx mA ∧ (∀ f, RelO (fs.lookup f) (mA f)) ∧ PySem.Within mA (fs.map (·.1))
 | .own _ => ∃ o, h.get? a = some o
 | .xd fs => ∃ mA, h.Ns1 a mA ∧ ∀ f, RelO (fs.lookup f) (mA f)
 | .rng lo hi => ∃ t u v, h.get? a = some { cls := .type "range", data := .fields #[.int lo t, .int hi u, .int 1 v] }
 | .frz o u => h.get? a = some o ∧ ObjOk H h a u
 | .tbl ps => h.get? a = some { cls := .none, data := .fields ps }
 | .met f x => h.get? a = some (PySem.W.methodObj (.ref f) (.ref x))
 | .ext φ => φ h ∧ (∃ o, h.get? a = some o) ∧ ∀ h1 h2 : Heap, φ h1 → (∀ o, h1.get? a = some o → h2.get? a = some o) → φ h2
def HOk (H : Hp) (h : Heap) : Prop := ∀ a o, H a = some o → ObjOk P w H h a o
end
section
variable {P : Program} {w : World} {H H' : Hp} {h h' : Heap} {a : Addr} {o : HO}
theorem ObjOk.lt (x : ObjOk P w H h a o) : a < h.objs.size := by
 cases o with
 | lst xs => obtain ⟨_, _, _, _, e⟩ := x; exact Heap.lt_size e
 | tup xs => obtain ⟨_, _, _, p⟩ := x; exact p.lt
 | dK kvs => obtain ⟨_, _, _, _, o, _, _, e, _⟩ := x; exact Heap.lt_size e
 | dT kvs => obtain ⟨_, _, _, _, o, _, _, e, _⟩ := x; exact Heap.lt_size e
 | set S n => obtain ⟨o, _, _, _, e, _⟩ := x; exact Heap.lt_size e
 | ins C dx fs => obtain ⟨_, _, _, e, _⟩ := x; exact Heap.lt_size e
 | own y => obtain ⟨_, e⟩ := x; exact Heap.lt_size e
 | xd fs => obtain ⟨_, ⟨_, _, _, e, _⟩, _⟩ := x; exact Heap.lt_size e
 | rng lo hi => obtain ⟨_, _, _, e⟩ := x; exact Heap.lt_size e
 | frz ob u => obtain ⟨e, _⟩ := x; exact Heap.lt_size e
 | tbl ps => exact Heap.lt_size (show h.get? a = some _ from x)
 | met f y => exact Heap.lt_size (show h.get? a = some _ from x)
 | ext φ => obtain ⟨_, ⟨_, e⟩, _⟩ := x; exact Heap.lt_size e
theorem Paired.mapP {α β : Type} {F G : α → β → Prop} : ∀ {l₁ : List α} {l₂ : List β}, Paired F l₁ l₂ → (∀ a b, F a b → G a b) → Paired G l₁ l₂
 | _, _, .nil, _ => .nil
 | _, _, .cons r t, f => .cons (f _ _ r) (Paired.mapP t f)
theorem ObjOk.stay (x : ObjOk P w H h a o) (k : ∀ b u, (b = a ∨ H b = some (.own a)) → h.get? b = some u → h'.get? b = some u)
  (ho : ∀ b, H b = some (.own a) → H' b = some (.own a)) (ht : ∀ b xs, H b = some (.tup xs) → H' b = some (.tup xs)) : ObjOk P w H' h' a o := by
 induction o with
 | lst xs => obtain ⟨z, its, n, r, e⟩ := x; exact ⟨z, its, n, r, k _ _ (.inl rfl) e⟩
 | tup xs => obtain ⟨z, its, r, ob, e, c⟩ := x; exact ⟨z, its, r, ob, k _ _ (.inl rfl) e, c⟩
 | dK kvs => obtain ⟨z, y, vs, r, ob, es, ep, e, c⟩ := x; exact ⟨z, y, vs, r, ob, es, ep, k _ _ (.inl rfl) e, c⟩
 | dT kvs =>
  obtain ⟨z, y, xs, r, ob, es, ep, e, c⟩ := x
  exact ⟨z, y, xs, Paired.mapP r fun p q z => ⟨z.1, ht _ _ z.2.1, z.2.2⟩, ob, es, ep, k _ _ (.inl rfl) e, c⟩
 | set S n => obtain ⟨ob, es, ep, t, e, c⟩ := x; exact ⟨ob, es, ep, t, k _ _ (.inl rfl) e, c⟩
 | ins C dx fs =>
  obtain ⟨d, z, ne, e, mA, ⟨od, es, ep, e2, c⟩, r⟩ := x
  exact ⟨ho _ d, z, ne, k _ _ (.inl rfl) e, mA, ⟨od, es, ep, k _ _ (.inr d) e2, c⟩, r⟩
 | own y => obtain ⟨ob, e⟩ := x; exact ⟨ob, k _ _ (.inl rfl) e⟩
 | xd fs => obtain ⟨mA, ⟨od, es, ep, e, c⟩, r⟩ := x; exact ⟨mA, ⟨od, es, ep, k _ _ (.inl rfl) e, c⟩, r⟩
 | rng lo hi => obtain ⟨t, u, v, e⟩ := x; exact ⟨t, u, v, k _ _ (.inl rfl) e⟩
 | frz ob u ih => obtain ⟨e, q⟩ := x; exact ⟨k _ _ (.inl rfl) e, ih q⟩
 | tbl ps =>
  have e : h.get? a = some { cls := .none, data := .fields ps } := x
  show h'.get? a = some { cls := .none, data := .fields ps }
  exact k a _ (.inl rfl) e
 | met f y =>
  have e : h.get? a = some (PySem.W.methodObj (.ref f) (.ref y)) := x
  show h'.get? a = some (PySem.W.methodObj (.ref f) (.ref y))
  exact k a _ (.inl rfl) e
 | ext φ => obtain ⟨p, ⟨o, e⟩, st⟩ := x; exact ⟨st _ _ p fun o q => k _ _ (.inl rfl) q, ⟨o, k _ _ (.inl rfl) e⟩, st⟩
theorem HOk.lt (x : HOk P w H h) (e : H a = some o) : a < h.objs.size := (x a o e).lt
theorem HOk.fresh (x : HOk P w H h) (e : h.objs.size ≤ a) : H a = none := by
 cases q : H a with
 | none => rfl
 | some u => exact absurd (Nat.lt_of_lt_of_le (x.lt q) e) (Nat.lt_irrefl _)
theorem HOk.kept (x : HOk P w H h) (k : ∀ b u, h.get? b = some u → h'.get? b = some u) : HOk P w H h' := fun a o e =>
 (x a o e).stay (fun b u _ q => k b u q) (fun _ q => q) fun _ _ q => q
theorem HOk.laid (x : HOk P w H h) (k : ∀ b u, h.get? b = some u → h'.get? b = some u) (hp : h.objs.size ≤ a) (new : ObjOk P w (upd H a o) h' a o) : HOk P w (upd H a o) h' := fun b u e => by
 have hn := x.fresh hp
 by_cases hb : b = a
 ·subst hb; rw [upd_same] at e; cases e; exact new
 ·rw [upd_ne hb] at e
  exact (x b u e).stay (fun c v _ q => k c v q) (fun c q => by rw [upd_ne (ne_of_none q hn)]; exact q) fun c xs q => by rw [upd_ne (ne_of_none q hn)]; exact q
end
def Rd (H : Hp) (a : Addr) (u : HO) : Prop := H a = some u ∨ ∃ o, H a = some (.frz o u)
theorem Rd.ok {P : Program} {w : World} {H : Hp} {h : Heap} {a : Addr} {u : HO} (r : Rd H a u) (x : HOk P w H h) : ObjOk P w H h a u := by
 rcases r with r | ⟨o, r⟩
 ·exact x a u r
 ·obtain ⟨_, q⟩ := x a _ r
  exact q
def Mut : Option HO → Prop
 | some (.lst _) => True
 | some (.dK _) => True
 | some (.dT _) => True
 | some (.set _ _) => True
 | some (.ins _ _ _) => True
 | some (.ext _) => True
 | _ => False
section
variable {P : Program} {w : World} {H : Hp} {h h' : Heap} {x e : Addr} {o' : HO}
theorem HOk.write (ok : HOk P w H h) (mu : Mut (H x)) (he : e = x ∨ H e = some (.own x)) (k : ∀ b u, b ≠ e → h.get? b = some u → h'.get? b = some u) (heo : ∃ u, h'.get? e = some u)
  (new : ObjOk P w (upd H x o') h' x o') : HOk P w (upd H x o') h' := fun b u q => by
 have nown : ∀ c y, H c = some (.own y) → c ≠ x := fun c y r z => by subst z; rw [r] at mu; exact mu
 have ntup : ∀ c xs, H c = some (.tup xs) → c ≠ x := fun c xs r z => by subst z; rw [r] at mu; exact mu
 by_cases hb : b = x
 ·subst hb; rw [upd_same] at q; cases q; exact new
 ·rw [upd_ne hb] at q
  by_cases hbe : b = e
  ·have q' : H b = some (.own x) := by
    rcases he with z | z
    ·exact absurd (hbe.trans z) hb
    ·rw [hbe]; exact z
   rw [q] at q'; cases q'
   obtain ⟨v, hv⟩ := heo
   exact ⟨v, by rw [hbe]; exact hv⟩
  ·refine (ok b u q).stay (fun c v hc r => k c v ?_ r) (fun c r => by rw [upd_ne (nown c b r)]; exact r) fun c xs r => by rw [upd_ne (ntup c xs r)]; exact r
   rcases hc with rfl | hc
   ·exact hbe
   ·rintro rfl
    rcases he with z | z
    ·exact nown c b hc z
    ·rw [hc] at z; cases z; exact hb rfl
end
structure Un (fs ex : List Addr) (H H' : Hp) (h h' : Heap) : Prop where
 keep : ∀ b o, h.get? b = some o → H b = none → b ∉ fs → b ∉ ex → h'.get? b = some o
 slot : ∀ b o, h.get? b = some o → H b = none → b ∈ fs → b ∉ ex → ∃ sl, h'.get? b = some { o with slots := sl }
 free : ∀ b o, h.get? b = some o → H b = none → b ∉ ex → H' b = none
 there : ∀ b o, h.get? b = some o → b ∉ ex → ∃ o', h'.get? b = some o'
 tups : ∀ b xs, H b = some (.tup xs) → H' b = some (.tup xs)
 frzs : ∀ b o u, H b = some (.frz o u) → H' b = some (.frz o u)
 tbls : ∀ b ps, H b = some (.tbl ps) → ∃ more, H' b = some (.tbl (ps ++ more))
section
variable {fs fs' ex ex' : List Addr} {H H1 H2 : Hp} {h h1 h2 h' : Heap} {a x e : Addr} {o : HO}
theorem Un.any (u : Un fs ex H H1 h h1) {b : Addr} {ob : Obj} (q : h.get? b = some ob) (n : H b = none) (hx : b ∉ ex) : ∃ sl, h1.get? b = some { ob with slots := sl } := by
 by_cases hb : b ∈ fs
 ·exact u.slot b ob q n hb hx
 ·exact ⟨ob.slots, u.keep b ob q n hb hx⟩
theorem Un.kept (k : ∀ b u, h.get? b = some u → h'.get? b = some u) : Un fs ex H H h h' :=
 ⟨fun b ob q _ _ _ => k b ob q, fun b ob q _ _ _ => ⟨ob.slots, k b ob q⟩, fun _ _ _ n _ => n, fun b ob q _ => ⟨ob, k b ob q⟩, fun _ _ q => q, fun _ _ _ q => q, fun _ ps q => ⟨#[], by rw [q]; simp⟩⟩
theorem Un.refl : Un fs ex H H h h := Un.kept fun _ _ q => q
theorem Un.laid (k : ∀ b u, h.get? b = some u → h'.get? b = some u) (hp : h.objs.size ≤ a) (hn : H a = none) : Un fs ex H (upd H a o) h h' where
 keep := fun b u q _ _ _ => k b u q
 slot := fun b u q _ _ _ => ⟨u.slots, k b u q⟩
 free := fun b u q n _ => by rw [upd_ne (Nat.ne_of_lt (Nat.lt_of_lt_of_le (Heap.lt_size q) hp))]; exact n
 there := fun b u q _ => ⟨u, k b u q⟩
 tups := fun b xs q => by rw [upd_ne (ne_of_none q hn)]; exact q
 frzs := fun b u xs q => by rw [upd_ne (ne_of_none q hn)]; exact q
 tbls := fun b ps q => ⟨#[], by rw [upd_ne (ne_of_none q hn), q]; simp⟩
theorem Un.write (mu : Mut (H x)) (he : e = x ∨ H e = some (.own x)) (k : ∀ b u, b ≠ e → h.get? b = some u → h'.get? b = some u) (heo : ∃ u, h'.get? e = some u) : Un fs ex H (upd H x o) h h' := by
 have hx : ∀ b, H b = none → b ≠ x := fun b n z => by subst z; rw [n] at mu; exact mu
 have hb : ∀ b, H b = none → b ≠ e := fun b n z => by
  subst z
  rcases he with r | r
  ·exact hx b n r
  ·rw [n] at r; cases r
 have hm : ∀ b u, H b = some u → ¬ Mut (some u) → b ≠ x := fun b u q nm z => by subst z; rw [q] at mu; exact nm mu
 refine ⟨fun b u q n _ _ => k b u (hb b n) q, fun b u q n _ _ => ⟨u.slots, k b u (hb b n) q⟩, fun b u q n _ => by rw [upd_ne (hx b n)]; exact n, fun b u q _ => ?_,
  fun b xs q => by rw [upd_ne (hm b _ q fun z => z)]; exact q, fun b u xs q => by rw [upd_ne (hm b _ q fun z => z)]; exact q, fun b ps q => ⟨#[], by rw [upd_ne (hm b _ q fun z => z), q]; simp⟩⟩
 by_cases hbe : b = e
 ·subst hbe; exact heo
 ·exact ⟨u, k b u hbe q⟩
end
def trk (h : Heap) (H : Hp) : List Addr := (List.range h.objs.size).filter fun a => (H a).isSome
def hidT (h : Heap) (H : Hp) : Heap := PySem.W.hideAll h (trk h H)
theorem hidT_size (h : Heap) (H : Hp) : (hidT h H).objs.size = h.objs.size := PySem.W.hideAll_size _ _
theorem hidT_get {h : Heap} {H : Hp} {b : Addr} {o : Obj} (e : h.get? b = some o) (n : H b = none) : (hidT h H).get? b = some o :=
 PySem.W.hideAll_get _ e fun hm => by
  have q : (H b).isSome = true := (List.mem_filter.mp hm).2
  rw [n] at q; simp at q
theorem of_hidT {h : Heap} {H : Hp} {b : Addr} {o : Obj} (e : (hidT h H).get? b = some o) : h.get? b = some o ∧ H b = none := by
 have e' : h.get? b = some o := PySem.W.of_hideAll (trk h H) e
 refine ⟨e', ?_⟩
 cases q : H b with
 | none => rfl
 | some x =>
  have hm : b ∈ trk h H := List.mem_filter.mpr ⟨List.mem_range.mpr (Heap.lt_size e'), by simp [q]⟩
  have z : (hidT h H).get? b = none := PySem.W.hideAll_none (trk h H) hm
  rw [z] at e; cases e
end L2
namespace L2
open PySem PySem.Spec PyProof.Rows
structure Mod (K : PySem.W.Frag) (mg : Str → Option Value) (base : Heap) : Prop where
 kin : K.In base
 glob : base.Ns mainGlobals mg
 blt : ∃ mb, base.Ns builtinsNs mb ∧ ∀ x : Str, x ≠ "__name__" → mb x = bootBuiltins x
 nolimit : base.NoLimit
structure Cx where
 prog : Program
 w : World
 K : PySem.W.Frag
 mg : Str → Option Value
 base : Heap
 A : Around
 N : List Str
 s₀ : Shared
 H₀ : Hp
 env : Env
 outer : List Env
 stack : List Env
 ex : List Addr
 fn : Str → Bool
 calm : Bool
 pn : List (Addr × Obj)
 xe : Value → Shared → Prop
def frs (l : List Env) : List Addr := l.filterMap (·.frame)
abbrev Cx.fs (X : Cx) : List Addr := frs X.outer
def Vis (sc : Scope) (x : Str) : Prop := sc.names.lookup x = some .local ∨ sc.names.lookup x = some .cell ∨ sc.names.lookup x = some .free
def Loc (sc : Scope) (x : Str) : Prop := sc.names.lookup x = some .local ∨ sc.names.lookup x = some .cell
def Look (env : Env) (h : Heap) (m : Str → Option Value) (x : Str) (u : Value) : Prop :=
 (env.kindOf x = some .local ∧ m x = some u) ∨ ((env.kindOf x = some .cell ∨ env.kindOf x = some .free) ∧ ∃ c, env.cells.lookup x = some c ∧ h.IsCell c (some u))
structure Cx.Ok (X : Cx) : Prop where
 mod : Mod X.K X.mg X.base
 kind : X.env.scope.kind = .function
 glob : X.env.globals = mainGlobals
 blt : X.env.builtins = builtinsNs
 above : X.s₀.heap.objs.size ≤ X.env.locals
 inj : ∀ x y c, X.env.cells.lookup x = some c → X.env.cells.lookup y = some c → x = y
 has : ∀ x, (X.env.kindOf x = some .cell ∨ X.env.kindOf x = some .free) → ∃ c, X.env.cells.lookup x = some c
 cab : ∀ x c, X.fn x = true → X.env.cells.lookup x = some c → X.s₀.heap.objs.size ≤ c
 hd : X.calm = true → X.A.handled = none
 frames : X.A.frames = some X.stack
 stk : X.stack = X.outer ∨ (X.stack = X.env :: X.outer ∧ X.env.frame = some X.env.locals)
 exf : ∀ b ∈ X.ex, b ≠ X.env.locals ∧ ∀ x c, X.env.cells.lookup x = some c → c ≠ b
 bs : ∀ b o, X.base.get? b = some o → X.s₀.heap.get? b = some o ∧ X.H₀ b = none
 bsz : X.base.objs.size ≤ X.s₀.heap.objs.size
 noex : ∀ b o, X.base.get? b = some o → b ∉ X.ex
 exfs : ∀ b ∈ X.ex, b ∉ X.fs
 funs : X.s₀.heap.FunFrames X.base X.outer
 frf : ∀ b ∈ X.fs, X.H₀ b = none
structure Inv (X : Cx) (pins : List (Addr × Obj)) (σ : List (Option V)) (H : Hp) (s : Shared) : Prop where
 ok : X.Ok
 os : s.os = X.s₀.os
 bare : AllBare s.gens
 base : Un X.fs X.ex X.H₀ H X.s₀.heap s.heap
 loc : ∃ m, s.heap.Ns X.env.locals m ∧ ∀ (i : Nat) (x : Str) (v : V), X.N[i]? = some x → σ[i]? = some (some v) → Vis X.env.scope x → ∃ u, RelV v u ∧ Look X.env s.heap m x u
 cell : ∀ x c, X.env.cells.lookup x = some c → ∃ v, s.heap.IsCell c v
 free : H X.env.locals = none
 freeC : ∀ x c, X.env.cells.lookup x = some c → H c = none
 pin : ∀ p ∈ X.pn ++ pins, s.heap.get? p.1 = some p.2 ∧ H p.1 = none ∧ p.1 ≠ X.env.locals ∧ p.1 ∉ X.fs ∧ ∀ v, p.2.data ≠ .cell v
 hok : HOk X.prog X.w H s.heap
 len : σ.length = X.N.length
section
variable {X : Cx} {pins : List (Addr × Obj)} {σ : List (Option V)} {H H' : Hp} {s : Shared} {h' : Heap}
theorem Cx.Ok.nofr (ok : X.Ok) {b : Addr} {o : Obj} (e : X.base.get? b = some o) : b ∉ X.fs := fun hb => by
 have := (ok.funs.mem hb).1
 rw [e] at this; cases this
theorem Inv.bs (I : Inv X pins σ H s) : ∀ b o, X.base.get? b = some o → s.heap.get? b = some o ∧ H b = none := fun b o e =>
 ⟨I.base.keep b o (I.ok.bs b o e).1 (I.ok.bs b o e).2 (I.ok.nofr e) (I.ok.noex b o e), I.base.free b o (I.ok.bs b o e).1 (I.ok.bs b o e).2 (I.ok.noex b o e)⟩
theorem Inv.bk (I : Inv X pins σ H s) : ∀ b o, X.base.get? b = some o → s.heap.get? b = some o := fun b o e => (I.bs b o e).1
theorem Inv.mod (I : Inv X pins σ H s) : Mod X.K X.mg X.base := I.ok.mod
theorem Inv.kIn (I : Inv X pins σ H s) : X.K.In s.heap := I.ok.mod.kin.keeps I.bk
theorem Inv.lt (I : Inv X pins σ H s) : X.env.locals < s.heap.objs.size := let ⟨_, hn, _⟩ := I.loc; hn.lt
theorem Inv.sz (I : Inv X pins σ H s) : X.s₀.heap.objs.size ≤ s.heap.objs.size := Nat.le_trans I.ok.above (Nat.le_of_lt I.lt)
theorem Inv.nofs (I : Inv X pins σ H s) {a : Addr} (h : s.heap.objs.size ≤ a) : a ∉ X.fs := fun hb => by
 obtain ⟨_, o, ho, _⟩ := I.ok.funs.mem hb
 exact absurd (Nat.lt_of_lt_of_le (Heap.lt_size ho) (Nat.le_trans I.sz h)) (Nat.lt_irrefl _)
theorem Inv.cne (I : Inv X pins σ H s) : ∀ x c, X.env.cells.lookup x = some c → c ≠ X.env.locals := fun x c e z => by
 obtain ⟨v, o, ho, hd⟩ := I.cell x c e
 obtain ⟨m, ⟨o', es, ep, ho', hd', _⟩, _⟩ := I.loc
 rw [z, ho'] at ho; cases ho; rw [hd'] at hd; cases hd
theorem Inv.funs (I : Inv X pins σ H s) : s.heap.FunFrames X.base X.outer := by
 have all : ∀ (l : List Env), (∀ b ∈ frs l, b ∈ X.fs) → X.s₀.heap.FunFrames X.base l → s.heap.FunFrames X.base l := by
  intro l
  induction l with
  | nil => intro _ _; trivial
  | cons env r ih =>
   intro hs hl
   obtain ⟨hk, ⟨L, o, hf, hn, ho, hd⟩, hr⟩ := hl
   have hL : L ∈ X.fs := hs L (by unfold frs; rw [List.filterMap_cons, hf]; exact List.mem_cons_self)
   obtain ⟨sl, e⟩ := I.base.slot L o ho (I.ok.frf L hL) hL fun z => I.ok.exfs L z hL
   exact ⟨hk, ⟨L, _, hf, hn, e, hd⟩, ih (fun b hb => hs b (by unfold frs; rw [List.filterMap_cons, hf]; exact List.mem_cons_of_mem _ hb)) hr⟩
 exact all X.outer (fun _ hb => hb) I.ok.funs
theorem Inv.stack (I : Inv X pins σ H s) : s.heap.FunFrames X.base X.stack := by
 rcases I.ok.stk with e | ⟨e, hf⟩
 ·rw [e]; exact I.funs
 ·rw [e]
  obtain ⟨m, hn, _⟩ := I.loc
  refine .cons (by rw [I.ok.kind]; decide) hf hn ?_ I.funs
  exact Heap.get?_none_of_le (Nat.le_trans I.ok.bsz I.ok.above)
theorem Inv.stkSub (I : Inv X pins σ H s) : ∀ b ∈ frs X.stack, b ∈ X.env.locals :: X.fs := fun b hb => by
 rcases I.ok.stk with e | ⟨e, hf⟩
 ·rw [e] at hb; exact List.mem_cons_of_mem _ hb
 ·rw [e] at hb
  unfold frs at hb
  rw [List.filterMap_cons, hf] at hb
  exact hb
theorem Inv.stkFree (I : Inv X pins σ H s) : ∀ b ∈ frs X.stack, H b = none := fun b hb => by
 rcases List.mem_cons.mp (I.stkSub b hb) with e | hb
 ·rw [e]; exact I.free
 ·obtain ⟨_, o, ho, _⟩ := I.ok.funs.mem hb
  exact I.base.free b o ho (I.ok.frf b hb) fun z => I.ok.exfs b z hb
theorem Inv.step {g' : Array GenState} {t' : Nat} {d' : Drawn} {ch : List Addr} (I : Inv X pins σ H s)
  (hch : ∀ b ∈ ch, (b ∈ X.ex ∨ X.s₀.heap.objs.size ≤ b) ∧ b ≠ X.env.locals ∧ (∀ x c, X.env.cells.lookup x = some c → c ≠ b) ∧ ∀ p ∈ X.pn ++ pins, p.1 ≠ b)
  (keep : ∀ b o, b ≠ X.env.locals → b ∉ X.fs → b ∉ ch → s.heap.get? b = some o → H b = none → h'.get? b = some o)
  (slot : ∀ b o, b ≠ X.env.locals → b ∈ X.fs → b ∉ ch → s.heap.get? b = some o → H b = none → ∃ sl, h'.get? b = some { o with slots := sl }) (free : ∀ b o, b ∉ ch → s.heap.get? b = some o → H b = none → H' b = none)
  (there : ∀ b o, b ∉ ch → s.heap.get? b = some o → ∃ o', h'.get? b = some o')
  (tups : ∀ b xs, H b = some (.tup xs) → H' b = some (.tup xs)) (frzs : ∀ b o u, H b = some (.frz o u) → H' b = some (.frz o u)) (tbls : ∀ b ps, H b = some (.tbl ps) → ∃ more, H' b = some (.tbl (ps ++ more)))
  (ns : ∀ m, s.heap.Ns X.env.locals m → h'.Ns X.env.locals m) (hok : HOk X.prog X.w H' h') (hg : AllBare g') :
  Inv X pins σ H' { s with heap := h', gens := g', drawn := d', toks := t' } := by
 have neL : ∀ b o, X.s₀.heap.get? b = some o → b ≠ X.env.locals := fun b o e => Nat.ne_of_lt (Nat.lt_of_lt_of_le (Heap.lt_size e) I.ok.above)
 have neC : ∀ b o, X.s₀.heap.get? b = some o → b ∉ X.ex → b ∉ ch := fun b o e hx hb => by
  rcases (hch b hb).1 with z | z
  ·exact hx z
  ·exact absurd (Nat.lt_of_lt_of_le (Heap.lt_size e) z) (Nat.lt_irrefl _)
 have cellK : ∀ x c, X.env.cells.lookup x = some c → ∀ v, s.heap.IsCell c v → h'.IsCell c v := fun x c e v ⟨o, ho, hd⟩ => by
  have nch : c ∉ ch := fun z => (hch c z).2.2.1 x c e rfl
  by_cases hc : c ∈ X.fs
  ·obtain ⟨sl, q⟩ := slot c o (I.cne x c e) hc nch ho (I.freeC x c e)
   exact ⟨_, q, hd⟩
  ·exact ⟨o, keep c o (I.cne x c e) hc nch ho (I.freeC x c e), hd⟩
 refine ⟨I.ok, I.os, hg, ⟨fun b o e n hb hx => ?_, fun b o e n hb hx => ?_, fun b o e n hx => ?_, fun b o e hx => ?_, fun b xs e => tups b xs (I.base.tups b xs e), fun b o xs e => frzs b o xs (I.base.frzs b o xs e), fun b ps e => ?_⟩, ?_, fun x c e => ?_, ?_, fun x c e => ?_, fun p hp => ?_, hok, I.len⟩
 ·exact keep b o (neL b o e) hb (neC b o e hx) (I.base.keep b o e n hb hx) (I.base.free b o e n hx)
 ·obtain ⟨sl, e1⟩ := I.base.slot b o e n hb hx
  obtain ⟨sl', e2⟩ := slot b _ (neL b o e) hb (neC b o e hx) e1 (I.base.free b o e n hx)
  exact ⟨sl', e2⟩
 ·obtain ⟨o', e1⟩ := I.base.there b o e hx
  exact free b o' (neC b o e hx) e1 (I.base.free b o e n hx)
 ·obtain ⟨o', e1⟩ := I.base.there b o e hx
  exact there b o' (neC b o e hx) e1
 ·obtain ⟨m1, e1⟩ := I.base.tbls b ps e
  obtain ⟨m2, e2⟩ := tbls b _ e1
  exact ⟨m1 ++ m2, by rw [e2, Array.append_assoc]⟩
 ·obtain ⟨m, hn, hl⟩ := I.loc
  refine ⟨m, ns m hn, fun i x v e1 e2 e3 => ?_⟩
  obtain ⟨u, r, l⟩ := hl i x v e1 e2 e3
  refine ⟨u, r, ?_⟩
  rcases l with l | ⟨k, c, e, z⟩
  ·exact .inl l
  ·exact .inr ⟨k, c, e, cellK x c e _ z⟩
 ·obtain ⟨v, z⟩ := I.cell x c e
  exact ⟨v, cellK x c e v z⟩
 ·obtain ⟨m, ⟨o, _, _, ho, _⟩, _⟩ := I.loc
  exact free _ o (fun z => (hch _ z).2.1 rfl) ho I.free
 ·obtain ⟨v, o, ho, hd⟩ := I.cell x c e
  exact free c o (fun z => (hch c z).2.2.1 x c e rfl) ho (I.freeC x c e)
 ·obtain ⟨e, n, ne, nf, d⟩ := I.pin p hp
  have nch : p.1 ∉ ch := fun z => (hch p.1 z).2.2.2 p hp rfl
  exact ⟨keep p.1 p.2 ne nf nch e n, free p.1 p.2 nch e n, ne, nf, d⟩
theorem Inv.un {t' : Nat} (I : Inv X pins σ H s) (u : Un X.fs [] H H' s.heap h') (hok : HOk X.prog X.w H' h') : Inv X pins σ H' { s with heap := h', toks := t' } := by
 obtain ⟨m, ⟨o, es, ep, ho, r⟩, _⟩ := id I.loc
 obtain ⟨sl, hL⟩ := u.any ho I.free (by simp)
 exact I.step (g' := s.gens) (d' := s.drawn) (ch := []) (fun _ z => nomatch z) (fun b o _ hb _ e n => u.keep b o e n hb (by simp)) (fun b o _ hb _ e n => u.slot b o e n hb (by simp)) (fun b o _ e n => u.free b o e n (by simp)) (fun b o _ e => u.there b o e (by simp)) u.tups u.frzs u.tbls (fun m' hm => by
  obtain ⟨o', es', ep', ho', r'⟩ := hm
  rw [ho] at ho'; cases ho'
  exact ⟨_, es', ep', hL, r'⟩) hok I.bare
theorem Inv.call {g' : Array GenState} {t' : Nat} {d' : Drawn} {ch : List Addr} (I : Inv X pins σ H s) (u : Un (frs X.stack) ch H H' s.heap h') (hok : HOk X.prog X.w H' h') (hg : AllBare g')
  (hch : ∀ b ∈ ch, (b ∈ X.ex ∨ X.s₀.heap.objs.size ≤ b) ∧ b ≠ X.env.locals ∧ (∀ x c, X.env.cells.lookup x = some c → c ≠ b) ∧ ∀ p ∈ X.pn ++ pins, p.1 ≠ b) :
  Inv X pins σ H' { s with heap := h', gens := g', drawn := d', toks := t' } := by
 obtain ⟨m, ⟨o, es, ep, ho, r⟩, _⟩ := id I.loc
 obtain ⟨sl, hL⟩ := u.any ho I.free fun z => (hch _ z).2.1 rfl
 exact I.step (ch := ch) hch (fun b o hL hb hc e n => u.keep b o e n (fun z => (List.mem_cons.mp (I.stkSub b z)).elim hL hb) hc) (fun b o _ _ hc e n => u.any e n hc) (fun b o hc e n => u.free b o e n hc) (fun b o hc e => u.there b o e hc) u.tups u.frzs u.tbls (fun m' hm => by
  obtain ⟨o', es', ep', ho', r'⟩ := hm
  rw [ho] at ho'; cases ho'
  exact ⟨_, es', ep', hL, r'⟩) hok hg
theorem Inv.turned {t' : Nat} {it : Addr} (I : Inv X pins σ H s) (k : ∀ b o, b ≠ it → s.heap.get? b = some o → h'.get? b = some o) (hn : H it = none) (hL : it ≠ X.env.locals)
  (h1 : it ∈ X.ex ∨ X.s₀.heap.objs.size ≤ it) (h2 : ∀ x c, X.env.cells.lookup x = some c → c ≠ it) (h3 : ∀ p ∈ X.pn ++ pins, p.1 ≠ it) : Inv X pins σ H { s with heap := h', toks := t' } := by
 have nit : ∀ b u, H b = some u → b ≠ it := fun b u e z => by rw [z, hn] at e; cases e
 refine I.step (g' := s.gens) (d' := s.drawn) (ch := [it]) (fun b hb => ?_) (fun b o _ _ hc e _ => k b o (fun z => hc (by simp [z])) e) (fun b o _ _ hc e _ => ⟨o.slots, k b o (fun z => hc (by simp [z])) e⟩) (fun _ _ _ _ n => n)
  (fun b o hc e => ⟨o, k b o (fun z => hc (by simp [z])) e⟩) (fun _ _ e => e) (fun _ _ _ e => e) (fun b ps e => ⟨#[], by rw [e]; simp⟩) (fun m hm => ?_) (fun b u e => ?_) I.bare
 ·have e : b = it := by simpa using hb
  subst e
  exact ⟨h1, hL, h2, h3⟩
 ·obtain ⟨o, es, ep, ho, r⟩ := hm
  exact ⟨o, es, ep, k _ o (Ne.symm hL) ho, r⟩
 ·refine (I.hok b u e).stay (fun c v hc q => k c v ?_ q) (fun _ q => q) fun _ _ q => q
  rcases hc with z | z
  ·rw [z]; exact nit b u e
  ·exact nit c _ z
theorem Inv.tok (I : Inv X pins σ H s) (t : Nat) : Inv X pins σ H { s with toks := t } := I.un (h' := s.heap) (t' := t) Un.refl I.hok
theorem Inv.kept {t' : Nat} (I : Inv X pins σ H s) (k : ∀ b u, s.heap.get? b = some u → h'.get? b = some u) : Inv X pins σ H { s with heap := h', toks := t' } := I.un (Un.kept k) (I.hok.kept k)
theorem Inv.laid {a : Addr} {o : HO} {t' : Nat} (I : Inv X pins σ H s) (k : ∀ b u, s.heap.get? b = some u → h'.get? b = some u) (hp : s.heap.objs.size ≤ a) (new : ObjOk X.prog X.w (upd H a o) h' a o) :
  Inv X pins σ (upd H a o) { s with heap := h', toks := t' } := I.un (Un.laid k hp (I.hok.fresh hp)) (I.hok.laid k hp new)
theorem Inv.write {x e : Addr} {o : HO} {t' : Nat} (I : Inv X pins σ H s) (mu : Mut (H x)) (he : e = x ∨ H e = some (.own x)) (k : ∀ b u, b ≠ e → s.heap.get? b = some u → h'.get? b = some u) (heo : ∃ u, h'.get? e = some u)
  (new : ObjOk X.prog X.w (upd H x o) h' x o) : Inv X pins σ (upd H x o) { s with heap := h', toks := t' } := I.un (Un.write mu he k heo) (I.hok.write mu he k heo new)
theorem Inv.weak {σ' : List (Option V)} (I : Inv X pins σ H s) (hl : σ'.length = σ.length) (w : ∀ (i : Nat) v, σ'[i]? = some (some v) → σ[i]? = some (some v)) : Inv X pins σ' H s :=
 ⟨I.ok, I.os, I.bare, I.base, let ⟨m, hn, hl'⟩ := I.loc; ⟨m, hn, fun i x v e1 e2 e3 => hl' i x v e1 (w i v e2) e3⟩, I.cell, I.free, I.freeC, I.pin, I.hok, hl.trans I.len⟩
theorem Inv.pins_of {pins' : List (Addr × Obj)} (I : Inv X pins σ H s) (h : ∀ p ∈ pins', s.heap.get? p.1 = some p.2 ∧ H p.1 = none ∧ p.1 ≠ X.env.locals ∧ p.1 ∉ X.fs ∧ ∀ v, p.2.data ≠ .cell v) : Inv X pins' σ H s :=
 ⟨I.ok, I.os, I.bare, I.base, I.loc, I.cell, I.free, I.freeC, fun p hp => (List.mem_append.mp hp).elim (fun z => I.pin p (List.mem_append_left _ z)) (h p), I.hok, I.len⟩
theorem nodup_ix {N : List Str} (hN : N.Nodup) {i j : Nat} {x : Str} (a : N[i]? = some x) (b : N[j]? = some x) : i = j := by
 obtain ⟨h1, e1⟩ := List.getElem?_eq_some_iff.mp a
 obtain ⟨h2, e2⟩ := List.getElem?_eq_some_iff.mp b
 exact (List.getElem_inj hN).mp (e1.trans e2.symm)
theorem store_ok2 {M : Model} {A : Around} {E : Value → Shared → Prop} {i : Nat} {x : Str} {v : V} {u : Value} {Q : Unit → Shared → Prop} (I : Inv X pins σ H s) (hN : X.N.Nodup) (hi : X.N[i]? = some x) (hx : Loc X.env.scope x) (r : RelV v u)
  (h : ∀ s', Inv X pins (σ.set i (some v)) H s' → (∃ a, Heap.SameBut a s.heap s'.heap ∧ (a = X.env.locals ∨ X.env.cells.lookup x = some a)) → Q () s') (hf : X.fn x = true ∨ X.env.scope.names.lookup x = some .local := by first | exact .inl rfl | exact .inr rfl | assumption) : wpAny M A (storeName X.env x u) Q E s := by
 obtain ⟨m, hn, hl⟩ := id I.loc
 have hcls : (X.env.scope.kind == .class || (X.env.scope.kind == .module && X.env.locals != X.env.globals)) = false := by rw [I.ok.kind]; rfl
 have hiσ : i < σ.length := by rw [I.len]; exact (List.getElem?_eq_some_iff.mp hi).1
 have cne := I.cne
 have tracked : ∀ {a : Addr} {h' : Heap}, (∃ o, s.heap.get? a = some o ∧ H a = none) → Heap.SameBut a s.heap h' → HOk X.prog X.w H h' := fun {a h'} ha hs b ob e => by
  obtain ⟨_, _, hfree⟩ := ha
  refine (I.hok b ob e).stay (fun c w' hc q => (hs.2 c ?_).trans q) (fun _ q => q) fun _ _ q => q
  rintro rfl
  rcases hc with rfl | hc
  ·rw [hfree] at e; cases e
  ·rw [hfree] at hc; cases hc
 rcases hx with hk | hk
 ·refine wpAny_storeName_local hk hn (fun h' hn' hs => ?_) hcls
  obtain ⟨oL, _, _, hoL, _⟩ := id hn
  refine h _ ⟨I.ok, I.os, I.bare, ⟨fun b o e n hb hx => ?_, fun b o e n hb hx => ?_, I.base.free, fun b o e hx => ?_, I.base.tups, I.base.frzs, I.base.tbls⟩, ⟨_, hn', fun j y v' e1 e2 e3 => ?_⟩, fun y c e => ?_, I.free, I.freeC, fun p hp => ?_, tracked ⟨oL, hoL, I.free⟩ hs, by simpa using I.len⟩ ⟨_, hs, .inl rfl⟩
  ·exact (hs.2 b (Nat.ne_of_lt (Nat.lt_of_lt_of_le (Heap.lt_size e) I.ok.above))).trans (I.base.keep b o e n hb hx)
  ·obtain ⟨sl, e1⟩ := I.base.slot b o e n hb hx
   exact ⟨sl, (hs.2 b (Nat.ne_of_lt (Nat.lt_of_lt_of_le (Heap.lt_size e) I.ok.above))).trans e1⟩
  ·obtain ⟨o', e1⟩ := I.base.there b o e hx
   exact ⟨o', (hs.2 b (Nat.ne_of_lt (Nat.lt_of_lt_of_le (Heap.lt_size e) I.ok.above))).trans e1⟩
  ·by_cases hj : j = i
   ·subst hj
    rw [hi] at e1; cases e1
    rw [List.getElem?_set_self hiσ] at e2
    cases e2
    exact ⟨u, r, .inl ⟨hk, by simp⟩⟩
   ·rw [List.getElem?_set_ne (Ne.symm hj)] at e2
    obtain ⟨u', r', q⟩ := hl j y v' e1 e2 e3
    refine ⟨u', r', ?_⟩
    rcases q with ⟨k, e⟩ | ⟨k, c, e, z⟩
    ·refine .inl ⟨k, ?_⟩
     have : y ≠ x := fun e => hj (nodup_ix hN e1 (e ▸ hi))
     simp [this, e]
    ·exact .inr ⟨k, c, e, z.sameBut hs (cne y c e)⟩
  ·obtain ⟨w', z⟩ := I.cell y c e
   exact ⟨w', z.sameBut hs (cne y c e)⟩
  ·obtain ⟨e, n, ne, nf, d⟩ := I.pin p hp
   exact ⟨(hs.2 p.1 ne).trans e, n, ne, nf, d⟩
 ·have hfn : X.fn x = true := by
   rcases hf with z | z
   ·exact z
   ·rw [z] at hk; cases hk
  obtain ⟨c, hc⟩ := I.ok.has x (.inl hk)
  obtain ⟨w', z⟩ := I.cell x c hc
  refine wpAny_storeName_cell I.ok.kind hk hc z (fun h' hc' hs => ?_)
  obtain ⟨oc, hoc, hocd⟩ := id z
  refine h { s with heap := h' } ⟨I.ok, I.os, I.bare, ⟨fun b o e n hb hx => ?_, fun b o e n hb hx => ?_, I.base.free, fun b o e hx => ?_, I.base.tups, I.base.frzs, I.base.tbls⟩, ⟨m, hn.sameBut hs (Ne.symm (cne x c hc)), fun j y v' e1 e2 e3 => ?_⟩, fun y c' e => ?_, I.free, I.freeC, fun p hp => ?_, tracked ⟨oc, hoc, I.freeC x c hc⟩ hs, by simpa using I.len⟩ ⟨c, hs, .inr hc⟩
  ·exact (hs.2 b (Nat.ne_of_lt (Nat.lt_of_lt_of_le (Heap.lt_size e) (I.ok.cab x c hfn hc)))).trans (I.base.keep b o e n hb hx)
  ·obtain ⟨sl, e1⟩ := I.base.slot b o e n hb hx
   exact ⟨sl, (hs.2 b (Nat.ne_of_lt (Nat.lt_of_lt_of_le (Heap.lt_size e) (I.ok.cab x c hfn hc)))).trans e1⟩
  ·obtain ⟨o', e1⟩ := I.base.there b o e hx
   exact ⟨o', (hs.2 b (Nat.ne_of_lt (Nat.lt_of_lt_of_le (Heap.lt_size e) (I.ok.cab x c hfn hc)))).trans e1⟩
  ·by_cases hj : j = i
   ·subst hj
    rw [hi] at e1; cases e1
    rw [List.getElem?_set_self hiσ] at e2
    cases e2
    exact ⟨u, r, .inr ⟨.inl hk, c, hc, hc'⟩⟩
   ·rw [List.getElem?_set_ne (Ne.symm hj)] at e2
    obtain ⟨u', r', q⟩ := hl j y v' e1 e2 e3
    refine ⟨u', r', ?_⟩
    rcases q with q | ⟨k, c', e, z'⟩
    ·exact .inl q
    ·refine .inr ⟨k, c', e, z'.sameBut hs ?_⟩
     rintro rfl
     exact hj (nodup_ix hN e1 (I.ok.inj _ _ _ e hc ▸ hi))
  ·by_cases hcc : c' = c
   ·subst hcc; exact ⟨_, hc'⟩
   ·obtain ⟨w2, z2⟩ := I.cell y c' e
    exact ⟨w2, z2.sameBut hs hcc⟩
  ·obtain ⟨e, n, ne, nf, d⟩ := I.pin p hp
   refine ⟨(hs.2 p.1 ?_).trans e, n, ne, nf, d⟩
   intro q
   rw [q, hoc] at e
   have q' : oc = p.2 := Option.some.inj e
   exact d w' (by rw [← q']; exact hocd)
theorem store_ok {M : Model} {A : Around} {E : Value → Shared → Prop} {i : Nat} {x : Str} {v : V} {u : Value} {Q : Unit → Shared → Prop} (I : Inv X pins σ H s) (hN : X.N.Nodup) (hi : X.N[i]? = some x) (hx : Loc X.env.scope x) (r : RelV v u)
  (h : ∀ s', Inv X pins (σ.set i (some v)) H s' → Q () s') (hf : X.fn x = true ∨ X.env.scope.names.lookup x = some .local := by first | exact .inl rfl | exact .inr rfl | assumption) : wpAny M A (storeName X.env x u) Q E s :=
 store_ok2 I hN hi hx r (fun s' I' _ => h s' I') hf
theorem Inv.call' {s' : Shared} {ch : List Addr} (I : Inv X pins σ H s) (ho : s'.os = s.os) (u : Un (frs X.stack) ch H H' s.heap s'.heap) (hok : HOk X.prog X.w H' s'.heap) (hg : AllBare s'.gens)
  (hch : ∀ b ∈ ch, (b ∈ X.ex ∨ X.s₀.heap.objs.size ≤ b) ∧ b ≠ X.env.locals ∧ (∀ x c, X.env.cells.lookup x = some c → c ≠ b) ∧ ∀ p ∈ X.pn ++ pins, p.1 ≠ b) : Inv X pins σ H' s' := by
 obtain ⟨h', g', d', t', o'⟩ := s'
 have e : o' = s.os := ho
 subst e
 exact I.call (g' := g') (t' := t') (d' := d') u hok hg hch
end
abbrev XK := Value → Option Addr → Hp → Prop
abbrev St := List (Option V)
abbrev VK := V → Hp → Prop
abbrev TE := St → Hp → VK → Prop
abbrev TT := St → Hp → (Bool → Hp → Prop) → Prop
abbrev TA := St → Hp → (List V → Hp → Prop) → Prop
structure Ends where
 nx : St → Hp → Prop
 rt : VK
 bk : St → Hp → Prop := fun _ _ => False
 ct : St → Hp → Prop := fun _ _ => False
abbrev TS := Ends → St → Hp → Prop
def EP (X : Cx) (pins : List (Addr × Obj)) (σ : St) (Q : VK) (u : Value) (s' : Shared) : Prop := ∃ v H', Inv X pins σ H' s' ∧ RelV v u ∧ Q v H'
def TP (X : Cx) (pins : List (Addr × Obj)) (σ : St) (Q : Bool → Hp → Prop) (b : Bool) (s' : Shared) : Prop := ∃ H', Inv X pins σ H' s' ∧ Q b H'
def AP (X : Cx) (pins : List (Addr × Obj)) (σ : St) (Q : List V → Hp → Prop) (us : List Value) (s' : Shared) : Prop := ∃ vs H', Inv X pins σ H' s' ∧ Vals vs us ∧ Q vs H'
def SP (X : Cx) (pins : List (Addr × Obj)) (D : Ends) (f : Flow) (s' : Shared) : Prop :=
 match f with
 | .next => ∃ σ' H', Inv X pins σ' H' s' ∧ D.nx σ' H'
 | .brk => ∃ σ' H', Inv X pins σ' H' s' ∧ D.bk σ' H'
 | .cont => ∃ σ' H', Inv X pins σ' H' s' ∧ D.ct σ' H'
 | .ret u => ∃ v σ' H', Inv X pins σ' H' s' ∧ RelV v u ∧ D.rt v H'
def PE (X : Cx) (e : Expr) (t : TE) : Prop :=
 ∀ (pins : List (Addr × Obj)) (s : Shared) (σ : St) (H : Hp) (Q : VK), Inv X pins σ H s → t σ H Q → wpAny (model X.prog X.w) X.A (eval e X.env) (EP X pins σ Q) X.xe s
def PT (X : Cx) (e : Expr) (t : TT) : Prop :=
 ∀ (pins : List (Addr × Obj)) (s : Shared) (σ : St) (H : Hp) (Q : Bool → Hp → Prop), Inv X pins σ H s → t σ H Q → wpAny (model X.prog X.w) X.A (isTrue e X.env (eval e X.env)) (TP X pins σ Q) X.xe s
def PW (X : Cx) (e : Expr) (t : TT) : Prop :=
 ∀ (whole : Sem Value) (pins : List (Addr × Obj)) (s : Shared) (σ : St) (H : Hp) (Q : Bool → Hp → Prop), Inv X pins σ H s → t σ H Q → wpAny (model X.prog X.w) X.A (isTrue e X.env whole) (TP X pins σ Q) X.xe s
theorem PW.pt {X : Cx} {e : Expr} {t : TT} (h : PW X e t) : PT X e t := h _
def PA (X : Cx) (es : List Expr) (t : TA) : Prop :=
 ∀ (pos : Pos) (pins : List (Addr × Obj)) (s : Shared) (σ : St) (H : Hp) (Q : List V → Hp → Prop), Inv X pins σ H s → t σ H Q → wpAny (model X.prog X.w) X.A (spliced (backTo pos (starEach es X.env))) (AP X pins σ Q) X.xe s
def PS (X : Cx) (st : Stmt) (t : TS) : Prop :=
 ∀ (pins : List (Addr × Obj)) (s : Shared) (σ : St) (H : Hp) (D : Ends), Inv X pins σ H s → t D σ H → wpAny (model X.prog X.w) X.A (exec st X.env) (SP X pins D) X.xe s
def PSs (X : Cx) (st : List Stmt) (t : TS) : Prop :=
 ∀ (pins : List (Addr × Obj)) (s : Shared) (σ : St) (H : Hp) (D : Ends), Inv X pins σ H s → t D σ H → wpAny (model X.prog X.w) X.A (execs st X.env) (SP X pins D) X.xe s
theorem thn {α : Type} {t : Sem α} {Q Q' : α → Shared → Prop} {M : Model} {A : Around} {E : Value → Shared → Prop} {s : Shared} (h : wpAny M A t Q E s) (hQ : ∀ a s, Q a s → Q' a s) : wpAny M A t Q' E s := wpAny_mono h hQ fun _ _ x => x
end L2
namespace L2
open PySem PySem.Spec PyProof.Rows
section
variable {X : Cx}
theorem bin {a b : Expr} {ta tb : TE} (ha : PE X a ta) (hb : PE X b tb) {pins : List (Addr × Obj)} {s : Shared} {σ : St} {H : Hp} {R : V → V → Hp → Prop} (I : Inv X pins σ H s) (h : ta σ H fun x H1 => tb σ H1 fun y H2 => R x y H2)
  {α : Type} {Q : α → Shared → Prop} {f : Value → Value → Sem α}
  (hf : ∀ v u s2 x y H2, Inv X pins σ H2 s2 → RelV x v → RelV y u → R x y H2 → wpAny (model X.prog X.w) X.A (f v u) Q X.xe s2) :
  wpAny (model X.prog X.w) X.A (eval a X.env) (fun v s₁ => wpAny (model X.prog X.w) X.A (eval b X.env) (fun u s₂ => wpAny (model X.prog X.w) X.A (f v u) Q X.xe s₂) X.xe s₁) X.xe s := by
 refine thn (ha pins s σ H _ I h) fun v s1 ⟨x, H1, I1, r1, q1⟩ => ?_
 refine thn (hb pins s1 σ H1 _ I1 q1) fun u s2 ⟨y, H2, I2, r2, q2⟩ => ?_
 exact hf v u s2 x y H2 I2 r1 r2 q2
def tVar (i : Nat) : TE := fun σ H Q => ∃ v, σ[i]? = some (some v) ∧ Q v H
def tC (v : V) : TE := fun _ H Q => Q v H
theorem pe_var {i : Nat} {x : Str} {pos : Pos} (hN : X.N[i]? = some x) (hv : Vis X.env.scope x) (hd : (x == ("__debug__" : Str)) = false := by decide) (hcd : (x == ("__classdict__" : Str)) = false := by decide) : PE X (.Name x pos) (tVar i) := by
 intro pins s σ H Q I h
 obtain ⟨v, e, h⟩ := h
 obtain ⟨m, hn, hl⟩ := I.loc
 obtain ⟨u, r, l⟩ := hl i x v hN e hv
 have fin : EP X pins σ Q u s := ⟨v, H, I, r, h⟩
 rcases l with ⟨hk, hm⟩ | ⟨hk, c, hc, hcell⟩
 ·exact wpAny_Name (wpAny_loadName_local I.ok.kind hk hn hm fin) hd
 ·rcases hk with hk | hk
  ·exact wpAny_Name (wpAny_loadName_cell I.ok.kind hk hc hcell fin) hd
  ·exact wpAny_Name (wpAny_loadName_free I.ok.kind hk hc hcell fin hcd) hd
theorem pe_int {i j pos} : PE X (.Constant (.int i) j pos) (tC (.int i)) := fun _ _ _ H _ I h => wpAny_Constant_int ⟨.int i, H, I.tok _, ⟨_, rfl⟩, h⟩
theorem pe_bl {b j pos} : PE X (.Constant (.bool b) j pos) (tC (.bl b)) := fun _ _ _ H _ I h => Constant_bool ⟨.bl b, H, I, rfl, h⟩
def Gl (X : Cx) (x : Str) : Prop := X.env.kindOf x = some .globalImplicit
theorem ld_glob {E : Value → Shared → Prop} {pins : List (Addr × Obj)} {s : Shared} {σ : St} {H : Hp} {x : Str} {u : Value} {pos : Pos} {Q : Value → Shared → Prop} (I : Inv X pins σ H s) (hg : Gl X x) (hm : X.mg x = some u) (h : Q u s)
  (hd : (x == ("__debug__" : Str)) = false := by decide) : wpAny (model X.prog X.w) X.A (eval (.Name x pos) X.env) Q E s :=
 Calls.Name_function_global I.ok.kind hg (Calls.loadGlobal_global (by rw [I.ok.glob]; exact I.mod.glob.keeps I.bk) hm h) hd
theorem ld_blt {E : Value → Shared → Prop} {pins : List (Addr × Obj)} {s : Shared} {σ : St} {H : Hp} {x : Str} {u : Value} {pos : Pos} {Q : Value → Shared → Prop} (I : Inv X pins σ H s) (hg : Gl X x) (hm : X.mg x = none) (hv : bootBuiltins x = some u) (h : Q u s)
  (hn : x ≠ "__name__" := by decide) (hd : (x == ("__debug__" : Str)) = false := by decide) : wpAny (model X.prog X.w) X.A (eval (.Name x pos) X.env) Q E s := by
 obtain ⟨mb, h1, h2⟩ := I.mod.blt
 exact Calls.Name_function_global I.ok.kind hg (Calls.loadGlobal_builtin (by rw [I.ok.glob]; exact I.mod.glob.keeps I.bk) hm (by rw [I.ok.blt]; exact h1.keeps I.bk) ((h2 x hn).trans hv) h) hd
theorem pe_bltn {x : Str} {v : V} {u : Value} {pos : Pos} (hg : Gl X x) (hm : X.mg x = none) (hv : bootBuiltins x = some u) (r : RelV v u) (hn : x ≠ "__name__" := by decide) (hd : (x == ("__debug__" : Str)) = false := by decide) : PE X (.Name x pos) (tC v) :=
 fun _ _ _ H _ I h => ld_blt I hg hm hv ⟨v, H, I, r, h⟩ hn hd
def t2I (ta tb : TE) (k : Int → Int → Hp → Prop) : St → Hp → Prop := fun σ H => ta σ H fun x H1 => tb σ H1 fun y H2 => ∃ i j, x = .int i ∧ y = .int j ∧ k i j H2
variable {a b : Expr} {ta tb : TE} {pos : Pos}
def PC (X : Cx) (op : CmpOp) (a b : Expr) (t : TE) : Prop :=
 ∀ (pins : List (Addr × Obj)) (s : Shared) (σ : St) (H : Hp) (Q : VK), Inv X pins σ H s → t σ H Q →
  wpAny (model X.prog X.w) X.A (eval a X.env) (fun v s₁ => wpAny (model X.prog X.w) X.A (eval b X.env) (fun u s₂ => wpAny (model X.prog X.w) X.A (compareOp op v u) (EP X pins σ Q) X.xe s₂) X.xe s₁) X.xe s
theorem nobehind (b : Expr) {op : CmpOp} (h : op ≠ .In) (h2 : op ≠ .NotIn) : behindInMarks op b = false := by
 have e1 : (op == CmpOp.In) = false := by cases op <;> first | rfl | exact absurd rfl h
 have e2 : (op == CmpOp.NotIn) = false := by cases op <;> first | rfl | exact absurd rfl h2
 cases b <;> simp [behindInMarks, e1, e2]
def tCmp (p : Int → Int → Bool) (ta tb : TE) : TE := fun σ H Q => t2I ta tb (fun i j H2 => Q (.bl (p i j)) H2) σ H
abbrev tLt : TE → TE → TE := tCmp fun i j => decide (i < j)
abbrev tLe : TE → TE → TE := tCmp fun i j => decide (i ≤ j)
abbrev tGt : TE → TE → TE := tCmp fun i j => decide (j < i)
abbrev tGe : TE → TE → TE := tCmp fun i j => decide (j ≤ i)
abbrev tEqI : TE → TE → TE := tCmp fun i j => decide (i = j)
abbrev tNeI : TE → TE → TE := tCmp fun i j => !decide (i = j)
theorem pc_int {op : CmpOp} {p : Int → Int → Bool} (ha : PE X a ta) (hb : PE X b tb)
  (rule : ∀ (i j : Int) (t u : Tok) (Q : Value → Shared → Prop) (s : Shared), Q (.bool (p i j)) s → wpAny (model X.prog X.w) X.A (compareOp op (.int i t) (.int j u)) Q X.xe s) : PC X op a b (tCmp p ta tb) := by
 intro pins s σ H Q I h
 refine bin ha hb I h fun v u s2 x y H2 I2 rx ry q => ?_
 obtain ⟨i, j, rfl, rfl, q⟩ := q
 obtain ⟨t, rfl⟩ := rx
 obtain ⟨t', rfl⟩ := ry
 exact rule i j t t' _ s2 ⟨.bl _, H2, I2, rfl, q⟩
theorem pc_lt (ha : PE X a ta) (hb : PE X b tb) : PC X .Lt a b (tLt ta tb) := pc_int ha hb fun _ _ _ _ _ _ h => lt_int h
theorem pc_gt (ha : PE X a ta) (hb : PE X b tb) : PC X .Gt a b (tGt ta tb) := pc_int ha hb fun _ _ _ _ _ _ h => gt_int h
theorem pc_ge (ha : PE X a ta) (hb : PE X b tb) : PC X .GtE a b (tGe ta tb) := pc_int ha hb fun _ _ _ _ _ _ h => ge_int h
theorem pc_eqI (ha : PE X a ta) (hb : PE X b tb) : PC X .Eq a b (tEqI ta tb) := pc_int ha hb fun _ _ _ _ _ _ h => eq_int (by rw [Bool.beq_eq_decide_eq]; exact h)
theorem pc_neI (ha : PE X a ta) (hb : PE X b tb) : PC X .NotEq a b (tNeI ta tb) := pc_int ha hb fun _ _ _ _ _ _ h => ne_int (by rw [bne, Bool.beq_eq_decide_eq]; exact h)
def tB (t : TE) : TT := fun σ H Q => t σ H fun x H1 => ∃ c, x = .bl c ∧ Q c H1
theorem pe_cmp {op : CmpOp} {t : TE} (h : PC X op a b t) (h1 : behindInMarks op b = false := by first | exact nobehind _ (by decide) (by decide) | rfl) : PE X (.Compare a [op] [b] pos) t := fun pins s σ H Q I hw => wpAny_Compare1 (h pins s σ H Q I hw) h1
theorem pt_cmp {op : CmpOp} {t : TE} (h : PC X op a b t) (h1 : behindInMarks op b = false := by first | exact nobehind _ (by decide) (by decide) | rfl) : PT X (.Compare a [op] [b] pos) (tB t) := by
 intro pins s σ H Q I hw
 refine wpAny_isTrue_Compare1 (thn (h pins s σ H _ I hw) fun v s1 h1 => thn h1 fun u s2 h2 => thn h2 fun c s3 ⟨x, H1, I1, r1, q1⟩ => ?_) h1
 obtain ⟨d, rfl, q⟩ := q1
 cases r1
 exact wpAny_truthy_bool ⟨H1, I1, q⟩
theorem pt_val {e : Expr} {t : TE} (h : PE X e t) (he : ∀ whole, isTrue e X.env whole = (do let v ← whole; standAt e.pos; holding [v] (truthy v)) := by intro _; rfl) : PT X e (tB t) := by
 intro pins s σ H Q I hw
 refine isTrue_plain (thn (h pins s σ H _ I hw) fun v s1 ⟨x, H1, I1, r1, q1⟩ => ?_) (he _)
 obtain ⟨d, rfl, q⟩ := q1
 cases r1
 exact wpAny_truthy_bool ⟨H1, I1, q⟩
variable {tA tB' : TT} {rest : List Expr}
def tAnd (t u : TT) : TT := fun σ H Q => t σ H fun c H1 => if c = true then u σ H1 Q else Q false H1
def tNot (t : TT) : TT := fun σ H Q => t σ H fun c H1 => Q (!c) H1
theorem pw_and1 (ha : PT X a tA) : PW X (.BoolOp .And [a] pos) tA := by
 intro wh pins s σ H Q I h
 refine isTrue_and (thn (ha pins s σ H Q I h) fun c s1 e => ?_)
 cases c with
 | true => exact isTrue_and_nil e
 | false => exact e
theorem pw_and (ha : PT X a tA) (hb : PW X (.BoolOp .And (b :: rest) pos) tB') : PW X (.BoolOp .And (a :: b :: rest) pos) (tAnd tA tB') := by
 intro wh pins s σ H Q I h
 refine isTrue_and (thn (ha pins s σ H _ I h) fun c s1 ⟨H1, I1, q1⟩ => ?_)
 cases c with
 | true => exact hb wh pins s1 σ H1 Q I1 q1
 | false => exact ⟨H1, I1, q1⟩
theorem pt_not (ha : PT X a tA) : PT X (.UnaryOp .Not a pos) (tNot tA) := by
 intro pins s σ H Q I h
 exact isTrue_not (ha pins s σ H (fun c H1 => Q (!c) H1) I h)
def tAndV (ta tb : TE) : TE := fun σ H Q => ta σ H fun x H1 => ∃ c, x = .bl c ∧ if c = true then tb σ H1 Q else Q (.bl false) H1
theorem pe_one {op} {t : TE} (h : PE X a t) : PE X (.BoolOp op [a] pos) t := fun pins s σ H Q I hw => BoolOp_one (h pins s σ H Q I hw)
theorem pe_and (ha : PE X a ta) (hb : PE X (.BoolOp .And (b :: rest) pos) tb) : PE X (.BoolOp .And (a :: b :: rest) pos) (tAndV ta tb) := by
 intro pins s σ H Q I h
 refine BoolOp_and (thn (ha pins s σ H _ I h) fun v s1 ⟨x, H1, I1, r1, q1⟩ => ?_)
 obtain ⟨c, rfl, q1⟩ := q1
 cases r1
 refine wpAny_truthy_bool ?_
 cases c with
 | true => exact hb pins s1 σ H1 Q I1 q1
 | false => exact ⟨.bl false, H1, I1, rfl, q1⟩
end
end L2
namespace L2
open PySem PySem.Spec PyProof.Rows
def SqL (K : PySem.W.Frag) (H : Hp) (a : Addr) (xs : List V) : Prop :=
 Rd H a (.lst xs) ∨
  ∃ (o : Obj) (its : Array Value) (n : Nat), K.lookup a = some o ∧ o.cls = .type "list" ∧ o.dict = none ∧ o.data = .seq its n ∧ its.size ≤ sizeLine ∧ Vals xs its.toList
def SqT (K : PySem.W.Frag) (H : Hp) (a : Addr) (xs : List V) : Prop :=
 Rd H a (.tup xs) ∨
  ∃ (o : Obj) (its : Array Value) (n : Nat), K.lookup a = some o ∧ o.cls = .type "tuple" ∧ o.data = .seq its n ∧ its.size ≤ sizeLine ∧ Vals xs its.toList
def absV : Value → Option V
 | .none => some .non
 | .bool b => some (.bl b)
 | .int i _ => some (.int i)
 | .str x _ => some (.str x)
 | .bytes b _ => some (.byt b)
 | .float b _ => some (.flt b)
 | .ref a => some (.ref a)
 | .type n => some (.ty n)
 | _ => none
theorem RelV.abs {x : V} {u : Value} (r : RelV x u) : absV u = some x := by
 cases x with
 | non => cases r; rfl
 | bl _ => cases r; rfl
 | int _ => obtain ⟨t, rfl⟩ := r; rfl
 | str _ => obtain ⟨t, rfl⟩ := r; rfl
 | byt _ => obtain ⟨t, rfl⟩ := r; rfl
 | flt _ => obtain ⟨t, rfl⟩ := r; rfl
 | ref _ => cases r; rfl
 | ty _ => cases r; rfl
theorem RelV.inj {x y : V} {u : Value} (r : RelV x u) (q : RelV y u) : x = y := Option.some.inj (r.abs.symm.trans q.abs)
theorem Vals.inj : ∀ {xs ys : List V} {us : List Value}, Vals xs us → Vals ys us → xs = ys
 | _, _, _, .nil, .nil => rfl
 | _, _, _, .cons r t, .cons r' t' => by rw [r.inj r', Vals.inj t t']
section
variable {X : Cx} {pins : List (Addr × Obj)} {σ : St} {H : Hp} {s : Shared} {a : Addr} {xs ys : List V}
theorem SqL.of {K : PySem.W.Frag} (h : H a = some (.lst xs)) : SqL K H a xs := .inl (.inl h)
theorem SqT.of {K : PySem.W.Frag} (h : H a = some (.tup xs)) : SqT K H a xs := .inl (.inl h)
theorem Inv.list (I : Inv X pins σ H s) (h : SqL X.K H a xs) : ∃ its : List Value, Vals xs its ∧ PlainL s.heap a its.toArray ∧ xs.length ≤ sizeLine := by
 rcases h with h | ⟨o, its, n, hk, hc, hd, hs, hz, r⟩
 ·obtain ⟨z, its, n, r, e⟩ := h.ok I.hok
  exact ⟨its, r, ⟨_, n, e, rfl, rfl, rfl⟩, z⟩
 ·refine ⟨its.toList, r, ⟨o, n, I.kIn a o hk, hc, hd, by simpa using hs⟩, ?_⟩
  have e := r.length
  simp only [Array.length_toList] at e
  omega
theorem Inv.tuple (I : Inv X pins σ H s) (h : SqT X.K H a xs) : ∃ its : List Value, Vals xs its ∧ IsTup s.heap a its.toArray ∧ xs.length ≤ sizeLine := by
 rcases h with h | ⟨o, its, n, hk, hc, hs, hz, r⟩
 ·obtain ⟨z, its, r, p⟩ := h.ok I.hok
  exact ⟨its, r, p, z⟩
 ·refine ⟨its.toList, r, ⟨o, I.kIn a o hk, hc, n, by simpa using hs⟩, ?_⟩
  have e := r.length
  simp only [Array.length_toList] at e
  omega
theorem Inv.list_inj (I : Inv X pins σ H s) (h : SqL X.K H a xs) (h' : SqL X.K H a ys) : xs = ys := by
 obtain ⟨its, r, ⟨o, n, e, _, _, d⟩, _⟩ := I.list h
 obtain ⟨its', r', ⟨o', n', e', _, _, d'⟩, _⟩ := I.list h'
 rw [e] at e'; cases e'
 rw [d] at d'
 injection d' with d1 _
 have : its = its' := by simpa using congrArg Array.toList d1
 subst this
 exact r.inj r'
end
abbrev Cx.wish (X : Cx) (E : Value → Shared → Prop) : Cx := { X with xe := E }
abbrev Cx.nox (X : Cx) : Cx := X.wish fun _ _ => False
theorem Cx.Ok.wish {X : Cx} (ok : X.Ok) (E : Value → Shared → Prop) : (X.wish E).Ok :=
 ⟨ok.mod, ok.kind, ok.glob, ok.blt, ok.above, ok.inj, ok.has, ok.cab, ok.hd, ok.frames, ok.stk, ok.exf, ok.bs, ok.bsz, ok.noex, ok.exfs, ok.funs, ok.frf⟩
theorem Cx.Ok.unwish {X : Cx} {E : Value → Shared → Prop} (ok : (X.wish E).Ok) : X.Ok :=
 ⟨ok.mod, ok.kind, ok.glob, ok.blt, ok.above, ok.inj, ok.has, ok.cab, ok.hd, ok.frames, ok.stk, ok.exf, ok.bs, ok.bsz, ok.noex, ok.exfs, ok.funs, ok.frf⟩
section
variable {X : Cx} {pins : List (Addr × Obj)} {σ : St} {H : Hp} {s : Shared} {E : Value → Shared → Prop}
theorem Inv.wish (I : Inv X pins σ H s) (E : Value → Shared → Prop) : Inv (X.wish E) pins σ H s := ⟨I.ok.wish E, I.os, I.bare, I.base, I.loc, I.cell, I.free, I.freeC, I.pin, I.hok, I.len⟩
theorem Inv.unwish (I : Inv (X.wish E) pins σ H s) : Inv X pins σ H s := ⟨I.ok.unwish, I.os, I.bare, I.base, I.loc, I.cell, I.free, I.freeC, I.pin, I.hok, I.len⟩
theorem SP.unwish {D : Ends} {f : Flow} {s' : Shared} (h : SP (X.wish E) pins D f s') : SP X pins D f s' := by
 cases f with
 | next => obtain ⟨σ', H', I, q⟩ := h; exact ⟨σ', H', I.unwish, q⟩
 | brk => obtain ⟨σ', H', I, q⟩ := h; exact ⟨σ', H', I.unwish, q⟩
 | cont => obtain ⟨σ', H', I, q⟩ := h; exact ⟨σ', H', I.unwish, q⟩
 | ret u => obtain ⟨v, σ', H', I, r, q⟩ := h; exact ⟨v, σ', H', I.unwish, r, q⟩
theorem PSs.nox {st : List Stmt} {t : TS} (h : PSs X.nox st t) : PSs X st t := fun pins s σ H D I hw =>
 wpAny_mono (h pins s σ H D (I.wish _) hw) (fun _ _ q => q.unwish) fun _ _ z => False.elim z
end
section
variable {X : Cx} {st : Stmt} {rest : List Stmt} {t u : TS} {e : Expr} {te : TE} {pos : Pos}
def tNext : TS := fun D σ H => D.nx σ H
def tSeq (t u : TS) : TS := fun D σ H => t { D with nx := u D } σ H
theorem pss_nil : PSs X [] tNext := fun _ _ σ H _ I h => wpAny_execs_nil ⟨σ, H, I, h⟩
theorem pss_cons (h1 : PS X st t) (h2 : PSs X rest u) : PSs X (st :: rest) (tSeq t u) := by
 intro pins s σ H D I h
 refine wpAny_execs_cons (thn (h1 pins s σ H { D with nx := u D } I h) fun f s1 q => ?_)
 cases f with
 | next =>
  obtain ⟨σ', H', I', q⟩ := q
  exact h2 pins s1 σ' H' D I' q
 | ret v => exact q
 | brk => exact q
 | cont => exact q
theorem pss_one (h1 : PS X st t) : PSs X [st] t := by
 intro pins s σ H D I h
 refine wpAny_execs_cons (thn (h1 pins s σ H D I h) fun f s1 q => ?_)
 cases f with
 | next => exact wpAny_execs_nil q
 | ret v => exact q
 | brk => exact q
 | cont => exact q
theorem Inv.quiet {pins : List (Addr × Obj)} {σ : St} {H : Hp} {s : Shared} (I : Inv X pins σ H s) : interactive X.env = false := by simp [interactive, I.ok.kind]
def tDrop (te : TE) : TS := fun D σ H => te σ H fun _ H1 => D.nx σ H1
theorem ps_expr (he : PE X e te) (hs : swapsWith e none pos.line X.env = pure false := by rfl) : PS X (.Expr e pos) (tDrop te) := by
 intro pins s σ H D I h
 exact wpAny_Expr_any (thn (he pins s σ H _ I h) fun v s1 ⟨x, H1, I1, r1, q1⟩ => ⟨σ, H1, I1, q1⟩) I.quiet hs
def tRet (te : TE) : TS := fun D σ H => te σ H D.rt
theorem ps_ret (he : PE X e te) : PS X (.Return (some e) pos) (tRet te) := by
 intro pins s σ H D I h
 exact wpAny_Return_some (thn (he pins s σ H _ I h) fun v s1 ⟨x, H1, I1, r1, q1⟩ => ⟨x, σ, H1, I1, r1, q1⟩)
def tIfS (c : TT) (t u : TS) : TS := fun D σ H => c σ H fun b H1 => if b = true then t D σ H1 else u D σ H1
theorem ps_if {c : Expr} {a b : List Stmt} {tc : TT} (hc : PT X c tc) (ha : PSs X a t) (hb : PSs X b u) : PS X (.If c a b pos) (tIfS tc t u) := by
 intro pins s σ H D I h
 refine wpAny_If (thn (hc pins s σ H _ I h) fun d s1 ⟨H1, I1, q1⟩ => ?_)
 cases d with
 | true => exact ha pins s1 σ H1 D I1 q1
 | false => exact hb pins s1 σ H1 D I1 q1
end
abbrev TG := V → St → Hp → (St → Hp → Prop) → Prop
abbrev TGs := List V → St → Hp → (St → Hp → Prop) → Prop
def PG (X : Cx) (target : Expr) (t : TG) : Prop :=
 ∀ (pins : List (Addr × Obj)) (s : Shared) (σ : St) (H : Hp) (v : V) (u : Value) (Q : St → Hp → Prop), Inv X pins σ H s → RelV v u → t v σ H Q →
  wpAny (model X.prog X.w) X.A (assign target X.env u) (fun _ s' => ∃ σ' H', Inv X pins σ' H' s' ∧ Q σ' H') X.xe s
def PGs (X : Cx) (ts : List Expr) (t : TGs) : Prop :=
 ∀ (pins : List (Addr × Obj)) (s : Shared) (σ : St) (H : Hp) (vs : List V) (us : List Value) (Q : St → Hp → Prop), Inv X pins σ H s → Vals vs us → t vs σ H Q →
  wpAny (model X.prog X.w) X.A (assignInOrder ((assignEach ts X.env).map (·.2)) us) (fun _ s' => ∃ σ' H', Inv X pins σ' H' s' ∧ Q σ' H') X.xe s
abbrev TSet := V → V → V → Hp → (Hp → Prop) → Prop
def PSet (X : Cx) (t : TSet) : Prop :=
 ∀ (pins : List (Addr × Obj)) (s : Shared) (σ : St) (H : Hp) (o i v : V) (ov iv u : Value) (Q : Hp → Prop), Inv X pins σ H s → RelV o ov → RelV i iv → RelV v u → t o i v H Q →
  wpAny (model X.prog X.w) X.A (setItem ov iv u) (fun _ s' => ∃ H', Inv X pins σ H' s' ∧ Q H') X.xe s
abbrev TIp := V → V → Hp → VK → Prop
section
variable {X : Cx} {pos : Pos}
def gName (i : Nat) : TG := fun v σ H Q => Q (σ.set i (some v)) H
theorem pg_name {i : Nat} {x : Str} (hN : X.N.Nodup) (hi : X.N[i]? = some x) (hx : Loc X.env.scope x) (hf : X.fn x = true ∨ X.env.scope.names.lookup x = some .local := by first | exact .inl rfl | exact .inr rfl | assumption) : PG X (.Name x pos) (gName i) := by
 intro pins s σ H v u Q I r h
 exact wpAny_assign_Name (store_ok I hN hi hx r (fun s' I' => ⟨_, H, I', h⟩) hf)
def gNil : TGs := fun vs σ H Q => vs = [] ∧ Q σ H
def gCons (t : TG) (u : TGs) : TGs := fun vs σ H Q => ∃ v r, vs = v :: r ∧ t v σ H fun σ' H' => u r σ' H' Q
theorem pgs_nil : PGs X [] gNil := by
 intro pins s σ H vs us Q I r h
 obtain ⟨e, h⟩ := h
 subst e
 cases r
 exact assignInOrder_nil ⟨σ, H, I, h⟩
theorem pgs_cons {e : Expr} {es : List Expr} {t : TG} {u : TGs} (h1 : PG X e t) (h2 : PGs X es u)
  (hs : (assignEach (e :: es) X.env).map (·.2) = assign e X.env :: (assignEach es X.env).map (·.2) := by rfl) : PGs X (e :: es) (gCons t u) := by
 intro pins s σ H vs us Q I r h
 obtain ⟨v, vr, e1, h⟩ := h
 subst e1
 cases r with
 | cons r rr =>
  rw [hs]
  refine assignInOrder_cons (thn (h1 pins s σ H _ _ _ I r h) fun _ s1 ⟨σ1, H1, I1, q1⟩ => ?_)
  exact h2 pins s1 σ1 H1 _ _ Q I1 rr q1
def gTup (K : PySem.W.Frag) (n : Nat) (t : TGs) : TG := fun v σ H Q => ∃ a xs, v = .ref a ∧ SqT K H a xs ∧ xs.length = n ∧ t xs σ H Q
theorem pg_tup {es : List Expr} {k : Nat} {t : TGs} {n : Nat} (hc : X.calm = true) (h : PGs X es t)
  (hn : (assignEach es X.env).length = n := by rfl) (hst : (assignEach es X.env).findIdx? (·.1) = none := by rfl) : PG X (.Tuple es k pos) (gTup X.K n t) := by
 intro pins s σ H v u Q I r hw
 obtain ⟨a, xs, e1, hq, hl, hw⟩ := hw
 subst e1
 cases r
 obtain ⟨its, rv, ht, hz⟩ := I.tuple hq
 refine assign_Tuple_tuple (I.ok.hd hc) ht (by simp [hn, ← hl, rv.length]) hst fun h' hx => ?_
 have I1 : Inv X pins σ H { s with heap := h' } := I.kept (t' := s.toks) fun b o e => hx b o (Nat.ne_of_lt (Heap.lt_size e)) e
 exact h pins _ σ H xs _ Q I1 (by simpa using rv) hw
def gSub (to ti : TE) (t : TSet) : TG := fun v σ H Q => to σ H fun o H1 => ti σ H1 fun i H2 => t o i v H2 fun H3 => Q σ H3
theorem pg_sub {o i : Expr} {to ti : TE} {t : TSet} (ho : PE X o to) (hi : PE X i ti) (hs : PSet X t)
  (ha : ∀ v, assign (.Subscript o i pos) X.env v = (do
   let ov ← holding [v] (eval o X.env)
   let iv ← holding [v, ov] (eval i X.env)
   standAt pos
   holding [v, ov, iv] (setItem ov iv v)
   release [v, ov, iv] []) := by intro _; rfl) : PG X (.Subscript o i pos) (gSub to ti t) := by
 intro pins s σ H v u Q I r h
 rw [ha]
 refine wpAny_bind (wpAny_holding (thn (ho pins s σ H _ I h) fun ov s1 ⟨x, H1, I1, r1, q1⟩ => ?_))
 refine wpAny_bind (wpAny_holding (thn (hi pins s1 σ H1 _ I1 q1) fun iv s2 ⟨y, H2, I2, r2, q2⟩ => ?_))
 refine wpAny_bind (wpAny_standAt (wpAny_bind (wpAny_holding (thn (hs pins s2 σ H2 x y v ov iv u _ I2 r1 r2 r q2) fun _ s3 ⟨H3, I3, q3⟩ => ?_))))
 exact wpAny_release ⟨σ, H3, I3, q3⟩
def tAsg (te : TE) (g : TG) : TS := fun D σ H => te σ H fun x H1 => g x σ H1 D.nx
theorem ps_asg {tg e : Expr} {te : TE} {g : TG} (he : PE X e te) (hg : PG X tg g) (hs : swapsWithSole [tg] e pos.line X.env = pure false := by rfl) (hw : swappedStores [tg] e X.env = pure none := by rfl)
  (h1 : (assignEach [tg] X.env).map (·.2) = [assign tg X.env] := by rfl) : PS X (.Assign [tg] e pos) (tAsg te g) := by
 intro pins s σ H D I h
 refine wpAny_Assign_stores (thn (he pins s σ H _ I h) fun v s1 ⟨x, H1, I1, r1, q1⟩ => ?_) hs hw
 rw [h1]
 exact thn (hg pins s1 σ H1 x v _ I1 r1 q1) fun _ s2 q => q
theorem ps_set {i : Nat} {x : Str} {e : Expr} {te : TE} {pos' : Pos} (hN : X.N.Nodup) (hi : X.N[i]? = some x) (hx : Loc X.env.scope x) (he : PE X e te) (hs : swapsWith e (some (.Name x pos')) pos.line X.env = pure false := by rfl) (hf : X.fn x = true ∨ X.env.scope.names.lookup x = some .local := by first | exact .inl rfl | exact .inr rfl | assumption) :
  PS X (.Assign [.Name x pos'] e pos) (tAsg te (gName i)) := by
 intro pins s σ H D I h
 refine wpAny_Assign_Name (thn (he pins s σ H _ I h) fun v s1 ⟨y, H1, I1, r1, q1⟩ => ?_) hs
 exact store_ok I1 hN hi hx r1 (fun s2 I2 => ⟨_, H1, I2, q1⟩) hf
end
section
variable {X : Cx} {pos : Pos}
def tWhile (c : TT) (tb : TS) : TS := fun D σ H => ∃ W : Nat → St → Hp → Prop, (∃ m, W m σ H) ∧ ∀ m σ H, W m σ H →
 c σ H fun b H1 => if b = true then ∃ N : St → Hp → Prop, (∀ σ' H', N σ' H' → ∃ m', m' < m ∧ W m' σ' H') ∧ tb { D with nx := N, ct := N, bk := D.nx } σ H1 else D.nx σ H1
theorem ps_while {c : Expr} {body : List Stmt} {tc : TT} {tb : TS} (hp : PassesOwn (model X.prog X.w) X.A X.env X.xe) (hc : PT X c tc) (hb : PSs X body tb) : PS X (.While c body [] pos) (tWhile tc tb) := by
 intro pins s σ H D I h
 obtain ⟨W, ⟨m0, w0⟩, turn⟩ := h
 refine wpAny_While (codeAny_whileLoop (fun n s' => ∃ σ' H', Inv X pins σ' H' s' ∧ W n σ' H') ?_ m0 ⟨σ, H, I, w0⟩)
 rintro n s1 ⟨σ1, H1, I1, w1⟩
 refine wpAny_passesOwn hp (thn (hc pins s1 σ1 H1 _ I1 (turn n σ1 H1 w1)) fun b s2 ⟨H2, I2, q2⟩ => ?_)
 cases b with
 | true =>
  obtain ⟨N, hN, q2⟩ := q2
  rw [if_pos rfl]
  refine wpAny_passesOwn hp (thn (hb pins s2 σ1 H2 _ I2 q2) fun f s3 q3 => ?_)
  cases f with
  | next =>
   obtain ⟨σ3, H3, I3, n3⟩ := q3
   obtain ⟨m', hm, w3⟩ := hN σ3 H3 n3
   exact ⟨m', hm, σ3, H3, I3, w3⟩
  | cont =>
   obtain ⟨σ3, H3, I3, n3⟩ := q3
   obtain ⟨m', hm, w3⟩ := hN σ3 H3 n3
   exact ⟨m', hm, σ3, H3, I3, w3⟩
  | brk => exact q3
  | ret v => exact q3
 | false =>
  rw [if_neg Bool.false_ne_true]
  exact wpAny_execs_nil ⟨σ1, H2, I2, q2⟩
end
structure It where
 go : Nat → Hp → Prop
 yld : Nat → Hp → V → Hp → Prop
 stop : Nat → Hp → Prop
def FpOk (X : Cx) (pins : List (Addr × Obj)) (H : Hp) (b : Addr) : Prop :=
 H b = none ∧ b ≠ X.env.locals ∧ b ∉ X.fs ∧ (b ∈ X.ex ∨ X.s₀.heap.objs.size ≤ b) ∧ (∀ x c, X.env.cells.lookup x = some c → c ≠ b) ∧ ∀ p ∈ X.pn ++ pins, p.1 ≠ b
theorem Inv.fpOk {X : Cx} {pins : List (Addr × Obj)} {σ : St} {H H' : Hp} {s : Shared} {b : Addr} (I : Inv X pins σ H s) (hb : s.heap.objs.size ≤ b) (hn : H' b = none) : FpOk X pins H' b := by
 refine ⟨hn, Nat.ne_of_gt (Nat.lt_of_lt_of_le I.lt hb), I.nofs hb, .inr (Nat.le_trans I.sz hb), fun x c e z => ?_, fun p hp z => ?_⟩
 ·obtain ⟨v, q⟩ := I.cell x c e
  exact absurd (Nat.lt_of_lt_of_le q.lt (by rw [z]; exact hb)) (Nat.lt_irrefl _)
 ·exact absurd (Nat.lt_of_lt_of_le (Heap.lt_size (I.pin p hp).1) (by rw [z]; exact hb)) (Nat.lt_irrefl _)
structure Turn (P : Program) (w : World) (K : PySem.W.Frag) (tg : Expr) (J : It) (fp : List Addr) (it : Addr) (tn : Nat → Heap → Prop) : Prop where
 mem : it ∈ fp
 obj : ∀ i h, tn i h → ∀ b ∈ fp, ∃ o, h.get? b = some o ∧ ∀ v, o.data ≠ .cell v
 keep : ∀ i h h', tn i h → (∀ b ∈ fp, ∀ o, h.get? b = some o → h'.get? b = some o) → tn i h'
 item : ∀ (X : Cx), X.prog = P → X.w = w → X.K = K → X.calm = true → ∀ (i : Nat) (pins : List (Addr × Obj)) (s : Shared) (σ : St) (H : Hp) (E : Value → Shared → Prop), Inv X pins σ H s → (∀ b ∈ fp, FpOk X pins H b) → tn i s.heap → J.go i H →
  wpAny (model P w) X.A (pyNext (.ref it)) (fun r s1 => ∃ u, r = some u ∧
   wpAny (model P w) X.A (letOwnedTupleGo tg (.ref it) u) (fun _ s2 => ∃ x H', Inv X pins σ H' s2 ∧ RelV x u ∧ J.yld i H x H' ∧ tn (i + 1) s2.heap ∧ ∀ b ∈ fp, H' b = none) E s1) E s
 done : ∀ (X : Cx), X.prog = P → X.w = w → X.K = K → X.calm = true → ∀ (i : Nat) (pins : List (Addr × Obj)) (s : Shared) (σ : St) (H : Hp) (E : Value → Shared → Prop), Inv X pins σ H s → (∀ b ∈ fp, FpOk X pins H b) → tn i s.heap → J.stop i H →
  wpAny (model P w) X.A (pyNext (.ref it)) (fun r s1 => r = none ∧ Inv X pins σ H s1) E s
 self : ∀ (A : Around) (i : Nat) (s : Shared) (Q : Value → Shared → Prop) (E : Value → Shared → Prop), tn i s.heap → Q (.ref it) s → wpAny (model P w) A (pyIter (.ref it)) Q E s
abbrev TI := St → Hp → (It → Hp → Prop) → Prop
def PIE (X : Cx) (pins : List (Addr × Obj)) (σ : St) (tg : Expr) (R : It → Hp → Prop) (itv : Value) (s2 : Shared) : Prop :=
 ∃ (it : Addr) (fp : List Addr) (tn : Nat → Heap → Prop) (J : It) (H' : Hp), itv = .ref it ∧ Inv X pins σ H' s2 ∧ Turn X.prog X.w X.K tg J fp it tn ∧ tn 0 s2.heap ∧ (∀ b ∈ fp, FpOk X pins H' b) ∧ R J H'
def PI (X : Cx) (tg iter : Expr) (wi : TI) : Prop :=
 ∀ (pins : List (Addr × Obj)) (s : Shared) (σ : St) (H : Hp) (R : It → Hp → Prop), Inv X pins σ H s → wi σ H R →
  wpAny (model X.prog X.w) X.A (eval iter X.env) (fun v s1 => wpAny (model X.prog X.w) X.A (pyIter v) (PIE X pins σ tg R) X.xe s1) X.xe s
theorem go_of {M : Model} {A : Around} {E : Value → Shared → Prop} {s : Shared} {tg : Expr} {it : Addr} {u : Value} {o : Obj} {n : String} {vs : Array Value} {Q : Unit → Shared → Prop} (ho : s.heap.get? it = some o) (hc : o.cls = .type n) (hd : o.data = .fields vs)
    (hn : ["enumerate", "zip", "dict_itemiterator", "dict_reverseitemiterator", "odict_iterator", "itertools.zip_longest", "itertools.pairwise"].contains n = false) (hQ : Q () s) : wpAny M A (letOwnedTupleGo tg (.ref it) u) Q E s := by
  unfold letOwnedTupleGo
  cases tg <;> first
    | exact wpAny_pure hQ
    | (cases u <;> first
        | exact wpAny_pure hQ
        | (refine wpAny_bind (wpAny_load ho ?_)
           rw [hc, hd]
           show wpAny M A (if (["enumerate", "zip", "dict_itemiterator", "dict_reverseitemiterator", "odict_iterator", "itertools.zip_longest", "itertools.pairwise"].contains n && vs[0]? == some (rawInt _)) = true then _ else _) Q E s
           rw [if_neg (by intro h; rw [hn, Bool.false_and] at h; cases h)]
           exact wpAny_pure hQ))
def Itl (K : PySem.W.Frag) (a : Addr) : It :=
 ⟨fun i H => ∃ xs x, SqL K H a xs ∧ xs[i]? = some x, fun i H x H' => H' = H ∧ ∀ xs, SqL K H a xs → xs[i]? = some x, fun i H => ∃ xs, SqL K H a xs ∧ xs.length ≤ i⟩
def Itr (lo : Int) (n : Nat) : It := ⟨fun i _ => i < n, fun i H x H' => H' = H ∧ x = .int (lo + i), fun i _ => n ≤ i⟩
theorem turn_list {P : Program} {w : World} {K : PySem.W.Frag} {tg : Expr} (a it : Addr) : Turn P w K tg (Itl K a) [it] it (fun i h => h.IsListIter it a i) where
 mem := by simp
 obj := fun i h st b hb => by
  have e : b = it := by simpa using hb
  subst e
  obtain ⟨o, e, c, d⟩ := st
  exact ⟨o, e, fun v z => by rw [d] at z; cases z⟩
 keep := fun i h h' st k => st.at fun o e => k it (by simp) o e
 item := by
  intro X hP hw hK hc i pins s σ H E I hf st hg
  subst hP hw hK
  obtain ⟨xs, x, hq, hx⟩ := hg
  obtain ⟨its, rv, p, hz⟩ := I.list hq
  obtain ⟨u, hu, ru⟩ := rv.get hx
  obtain ⟨f0, f1, f2, f3, f4, f5⟩ := hf it (by simp)
  refine wpAny_pyNext_list_item st p.isList (x := u) (by simpa using hu) fun h' st' sb => ?_
  have I1 : Inv X pins σ H { s with heap := h' } := I.turned (t' := s.toks) (fun b o hb e => (sb.2 b hb).trans e) f0 f1 f3 f4 f5
  obtain ⟨o, e, c, d⟩ := id st'
  exact ⟨u, rfl, go_of (s := { s with heap := h' }) e c d (by decide) ⟨x, H, I1, ru, ⟨rfl, fun ys hy => by rw [I.list_inj hy hq]; exact hx⟩, st', fun b hb => (hf b hb).1⟩⟩
 done := by
  intro X hP hw hK hc i pins s σ H E I hf st hg
  subst hP hw hK
  obtain ⟨xs, hq, hx⟩ := hg
  obtain ⟨its, rv, p, hz⟩ := I.list hq
  obtain ⟨f0, f1, f2, f3, f4, f5⟩ := hf it (by simp)
  have hl := rv.length
  exact wpAny_pyNext_list_end (I.ok.hd hc) st p.isList (by simp; omega) fun h' eb => ⟨rfl, I.turned (t' := s.toks) (fun b o hb e => eb b o hb e) f0 f1 f3 f4 f5⟩
 self := fun _ _ _ _ _ st h => wpAny_pyIter_listiter st h
theorem turn_range {P : Program} {w : World} {K : PySem.W.Frag} {tg : Expr} (it : Addr) (lo : Int) (n : Nat) : Turn P w K tg (Itr lo n) [it] it (fun i h => IsRangeIter h it (lo + (i : Nat) * 1) ((n : Int) - (i : Nat)) 1) where
 mem := by simp
 obj := fun i h st b hb => by
  have e : b = it := by simpa using hb
  subst e
  exact ⟨_, st, fun v z => by
   have z' : Data.fields _ = Data.cell v := z
   cases z'⟩
 keep := fun i h h' st k => k it (by simp) _ st
 item := by
  intro X hP hw hK hc i pins s σ H E I hf st hg
  subst hP hw hK
  obtain ⟨f0, f1, f2, f3, f4, f5⟩ := hf it (by simp)
  have W := Walks.range (prog := X.prog) (w := X.w) (I.ok.hd hc) it lo 1 n
  refine W.item i s _ _ hg st fun v h' tk hv st' kk => ?_
  obtain ⟨t, rfl⟩ := hv
  have I1 : Inv X pins σ H { s with heap := h', toks := tk } := I.turned (fun b o hb e => kk b o (by simpa using hb) e) f0 f1 f3 f4 f5
  refine ⟨_, rfl, go_of (s := { s with heap := h', toks := tk }) (n := "range_iterator") st' rfl rfl (by decide) ⟨.int (lo + i), H, I1, ⟨t, ?_⟩, ⟨rfl, rfl⟩, st', fun b hb => (hf b hb).1⟩⟩
  rw [Int.mul_one]
 done := by
  intro X hP hw hK hc i pins s σ H E I hf st hg
  subst hP hw hK
  obtain ⟨f0, f1, f2, f3, f4, f5⟩ := hf it (by simp)
  exact wpAny_pyNext_range_end (I.ok.hd hc) st (by have : n ≤ i := hg; omega) fun h' eb => ⟨rfl, I.turned (t' := s.toks) (fun b o hb e => eb b o hb e) f0 f1 f3 f4 f5⟩
 self := fun _ _ _ _ _ st h => wpAny_pyIter_rangeiter st h
end L2
namespace L2
open PySem PySem.Spec PyProof.Rows
section
variable {X : Cx} {tg : Expr}
def iList (K : PySem.W.Frag) (tl : TE) : TI := fun σ H R => tl σ H fun x H1 => ∃ a, x = .ref a ∧ (∃ xs, SqL K H1 a xs) ∧ R (Itl K a) H1
theorem pi_list {l : Expr} {tl : TE} (hl : PE X l tl) : PI X tg l (iList X.K tl) := by
 intro pins s σ H R I h
 refine thn (hl pins s σ H _ I h) fun v s1 ⟨x, H1, I1, r1, q1⟩ => ?_
 obtain ⟨a, e, ⟨xs, hq⟩, q⟩ := q1
 subst e
 cases r1
 obtain ⟨its, rv, p, hz⟩ := I1.list hq
 refine wpAny_pyIter_list p.isList ?_
 refine ⟨s1.heap.objs.size, [s1.heap.objs.size], _, _, H1, rfl, I1.kept (t' := s1.toks) fun b o e => Heap.get?_push_of_some _ e, turn_list a _, ⟨_, Heap.get?_push_size _ rfl, rfl, rfl⟩, fun b hb => ?_, q⟩
 have e : b = s1.heap.objs.size := by simpa using hb
 subst e
 exact I1.fpOk (Nat.le_refl _) (I1.hok.fresh (Nat.le_refl _))
theorem range_it {pins : List (Addr × Obj)} {σ : St} {H : Hp} {s : Shared} {R : It → Hp → Prop} {E : Value → Shared → Prop} {lo hi : Int} {t u v : Tok} {tk : Nat} (I : Inv X pins σ H s) (h1 : -(2 ^ 62) ≤ lo) (h2 : lo < 2 ^ 62) (h3 : -(2 ^ 62) ≤ hi) (h4 : hi < 2 ^ 62)
  (q : R (Itr lo (hi - lo).toNat) H) : wpAny (model X.prog X.w) X.A (pyIter (.ref s.heap.objs.size)) (PIE X pins σ tg R) E { s with heap := s.heap.push { cls := .type "range", data := .fields #[.int lo t, .int hi u, .int 1 v] }, toks := tk } := by
 refine wpAny_pyIter_range (IsRange.new ..) (small_one h1 h2 h3 h4) ?_
 have I1 : Inv X pins σ H { s with heap := s.heap.push { cls := .type "range", data := .fields #[.int lo t, .int hi u, .int 1 v] }, toks := tk } := I.kept fun b o e => Heap.get?_push_of_some _ e
 refine ⟨(s.heap.push { cls := .type "range", data := .fields #[.int lo t, .int hi u, .int 1 v] }).objs.size, [(s.heap.push { cls := .type "range", data := .fields #[.int lo t, .int hi u, .int 1 v] }).objs.size], _, _, H, rfl,
  I1.kept (t' := tk) fun b o e => Heap.get?_push_of_some _ e, turn_range _ lo (hi - lo).toNat, ?_, fun b hb => ?_, q⟩
 ·have e1 : lo + ((0 : Nat) : Int) * 1 = lo := by simp
  have e2 : (((hi - lo).toNat : Nat) : Int) - ((0 : Nat) : Int) = Builtin.Range.rangeSize lo hi 1 := by rw [rangeSize_one]; split <;> omega
  show IsRangeIter _ _ (lo + ((0 : Nat) : Int) * 1) ((((hi - lo).toNat : Nat) : Int) - ((0 : Nat) : Int)) 1
  rw [e1, e2]
  exact Heap.get?_push_size _ rfl
 ·have e : b = (s.heap.push { cls := .type "range", data := .fields #[.int lo t, .int hi u, .int 1 v] }).objs.size := by simpa using hb
  subst e
  exact I1.fpOk (Nat.le_refl _) (I1.hok.fresh (Nat.le_refl _))
def iRng1 (ta : TA) : TI := fun σ H R => ta σ H fun vs H1 => ∃ j : Int, vs = [.int j] ∧ -(2 ^ 62) ≤ j ∧ j < 2 ^ 62 ∧ R (Itr 0 j.toNat) H1
theorem pi_range1 {a : Expr} {ta : TA} {p pos : Pos} (hg : Gl X "range") (hm : X.mg "range" = none) (ha : PA X [a] ta) (hs : starEach [a] X.env = [(false, eval a X.env)] := by rfl) : PI X tg (.Call (.Name "range" p) [a] [] pos) (iRng1 ta) := by
 intro pins s σ H R I h
 refine Call_ (ld_blt I hg hm boot_range (PyProof.Rows.callWith_type1 (thn (ha pos pins s σ H _ I h) fun us s1 ⟨vs, H1, I1, r1, q1⟩ => ?_) hs rfl))
 obtain ⟨j, e, q1, q2, q⟩ := q1
 subst e
 cases r1 with
 | cons r rr =>
  cases rr
  obtain ⟨t, rfl⟩ := r
  exact call_range_1 (range_it I1 (by omega) (by omega) q1 q2 (by simpa using q))
def tFor (wi : TI) (g : TG) (tb : TS) : TS := fun D σ H => wi σ H fun J H1 => ∃ W : Nat → Nat → St → Hp → Prop, (∃ m, W 0 m σ H1) ∧ ∀ i m σ H, W i m σ H →
 (J.stop i H ∧ D.nx σ H) ∨ (J.go i H ∧ ∃ N : St → Hp → Prop, (∀ σ' H', N σ' H' → ∃ m', m' < m ∧ W (i + 1) m' σ' H') ∧ ∀ x H', J.yld i H x H' → g x σ H' fun σ2 H2 => tb { D with nx := N, ct := N, bk := D.nx } σ2 H2)
def pinsAt (fp : List Addr) (h : Heap) : List (Addr × Obj) := fp.filterMap fun b => (h.get? b).map fun o => (b, o)
theorem mem_pinsAt {fp : List Addr} {h : Heap} {b : Addr} {o : Obj} (hb : b ∈ fp) (e : h.get? b = some o) : (b, o) ∈ pinsAt fp h := List.mem_filterMap.mpr ⟨b, hb, by rw [e]; rfl⟩
theorem of_pinsAt {fp : List Addr} {h : Heap} {p : Addr × Obj} (hp : p ∈ pinsAt fp h) : p.1 ∈ fp ∧ h.get? p.1 = some p.2 := by
 obtain ⟨b, hb, e⟩ := List.mem_filterMap.mp hp
 cases q : h.get? b with
 | none => rw [q] at e; cases e
 | some o =>
  rw [q] at e
  have e' : (b, o) = p := Option.some.inj e
  subst e'
  exact ⟨hb, q⟩
theorem Inv.pinned {pins : List (Addr × Obj)} {σ : St} {H : Hp} {s : Shared} {fp : List Addr} (I : Inv X pins σ H s) (hf : ∀ b ∈ fp, FpOk X pins H b) (ho : ∀ b ∈ fp, ∃ o, s.heap.get? b = some o ∧ ∀ v, o.data ≠ .cell v) : Inv X (pins ++ pinsAt fp s.heap) σ H s :=
 I.pins_of fun p hp => (List.mem_append.mp hp).elim (fun z => I.pin p (List.mem_append_right _ z)) fun z => by
  obtain ⟨hb, e⟩ := of_pinsAt z
  obtain ⟨f0, f1, f2, _⟩ := hf p.1 hb
  obtain ⟨o, e', d⟩ := ho p.1 hb
  rw [e] at e'; cases e'
  exact ⟨e, f0, f1, f2, d⟩
theorem Inv.unpinned {pins pl : List (Addr × Obj)} {σ : St} {H : Hp} {s : Shared} (I : Inv X (pins ++ pl) σ H s) : Inv X pins σ H s := I.pins_of fun p hp => I.pin p (List.mem_append_right _ (List.mem_append_left _ hp))
theorem ps_for {iter : Expr} {body : List Stmt} {wi : TI} {g : TG} {tb : TS} {pos : Pos} (hp : PassesOwn (model X.prog X.w) X.A X.env X.xe) (hc : X.calm = true) (hi : PI X tg iter wi) (hg : PG X tg g) (hb : PSs X body tb)
  (hs : ∀ x, foldedSetIterable iter X.env x = pure x := by intro _; rfl) : PS X (.For tg iter body [] pos) (tFor wi g tb) := by
 intro pins s σ H D I h
 refine wpAny_For (thn (hi pins s σ H _ I h) fun v s1 h1 => thn h1 fun itv s2 h2 => ?_) hs
 obtain ⟨it, fp, tn, J, H2, e, I2, T, st2, f2, W, ⟨m0, w0⟩, turn⟩ := h2
 subst e
 have stat : ∀ {H' : Hp}, (∀ b ∈ fp, H' b = none) → ∀ b ∈ fp, FpOk X pins H' b := fun hn b hb => ⟨hn b hb, (f2 b hb).2⟩
 refine codeAny_forLoop_any (fun n s' => ∃ i σ' H', Inv X pins σ' H' s' ∧ tn i s'.heap ∧ (∀ b ∈ fp, H' b = none) ∧ W i n σ' H') ?_ m0 ⟨0, σ, H2, I2, st2, fun b hb => (f2 b hb).1, w0⟩
 rintro n s3 ⟨i, σ3, H3, I3, st3, fr3, w3⟩
 rcases turn i n σ3 H3 w3 with ⟨stop, qn⟩ | ⟨go, N, hN, step⟩
 ·refine wpAny_passesOwn hp (thn (T.done X rfl rfl rfl hc i pins s3 σ3 H3 X.xe I3 (stat fr3) st3 stop) fun r s4 ⟨hr, I4⟩ => ?_)
  subst hr
  exact wpAny_execs_nil ⟨σ3, H3, I4, qn⟩
 ·refine wpAny_passesOwn hp (thn (T.item X rfl rfl rfl hc i pins s3 σ3 H3 X.xe I3 (stat fr3) st3 go) fun r s4 ⟨u, hr, h4⟩ => ?_)
  subst hr
  refine wpAny_passesOwn hp (thn h4 fun _ s5 ⟨x, H5, I5, r5, y5, st5, fr5⟩ => ?_)
  have I5' := I5.pinned (stat fr5) (T.obj _ _ st5)
  refine wpAny_passesOwn hp (thn (hg _ s5 σ3 H5 x u _ I5' r5 (step x H5 y5)) fun _ s6 ⟨σ6, H6, I6, q6⟩ => ?_)
  refine wpAny_passesOwn hp (thn (hb _ s6 σ6 H6 _ I6 q6) fun f s7 q7 => ?_)
  have again : ∀ {σ7 : St} {H7 : Hp}, Inv X (pins ++ pinsAt fp s5.heap) σ7 H7 s7 → N σ7 H7 → ∃ m, m < n ∧ ∃ i σ' H', Inv X pins σ' H' s7 ∧ tn i s7.heap ∧ (∀ b ∈ fp, H' b = none) ∧ W i m σ' H' := fun {σ7 H7} I7 n7 => by
   obtain ⟨m', hm, w7⟩ := hN σ7 H7 n7
   refine ⟨m', hm, i + 1, σ7, H7, I7.unpinned, T.keep _ _ _ st5 fun b hb o e => (I7.pin (b, o) (List.mem_append_right _ (List.mem_append_right _ (mem_pinsAt hb e)))).1, fun b hb => ?_, w7⟩
   obtain ⟨o, e, d⟩ := T.obj _ _ st5 b hb
   exact (I7.pin (b, o) (List.mem_append_right _ (List.mem_append_right _ (mem_pinsAt hb e)))).2.1
  cases f with
  | next => obtain ⟨σ7, H7, I7, n7⟩ := q7; exact again I7 n7
  | cont => obtain ⟨σ7, H7, I7, n7⟩ := q7; exact again I7 n7
  | brk => obtain ⟨σ7, H7, I7, q7⟩ := q7; exact ⟨σ7, H7, I7.unpinned, q7⟩
  | ret v => obtain ⟨x7, σ7, H7, I7, r7, q7⟩ := q7; exact ⟨x7, σ7, H7, I7.unpinned, r7, q7⟩
end
theorem for_list {K : PySem.W.Frag} {a : Addr} {xs : List V} {g : TG} {tb : TS} {D : Ends} {σ : St} {H : Hp} (Pv : Nat → St → Hp → Prop) (h0 : Pv 0 σ H) (hl : ∀ i σ H, i ≤ xs.length → Pv i σ H → SqL K H a xs)
  (hs : ∀ i x σ H, xs[i]? = some x → Pv i σ H → g x σ H fun σ2 H2 => tb { D with nx := Pv (i + 1), ct := Pv (i + 1), bk := D.nx } σ2 H2) (hd : ∀ σ H, Pv xs.length σ H → D.nx σ H) :
  ∃ W : Nat → Nat → St → Hp → Prop, (∃ m, W 0 m σ H) ∧ ∀ i m σ H, W i m σ H →
   ((Itl K a).stop i H ∧ D.nx σ H) ∨ ((Itl K a).go i H ∧ ∃ N : St → Hp → Prop, (∀ σ' H', N σ' H' → ∃ m', m' < m ∧ W (i + 1) m' σ' H') ∧ ∀ x H', (Itl K a).yld i H x H' → g x σ H' fun σ2 H2 => tb { D with nx := N, ct := N, bk := D.nx } σ2 H2) := by
 refine ⟨fun i m σ H => m = xs.length - i ∧ i ≤ xs.length ∧ Pv i σ H, ⟨xs.length, by simp, Nat.zero_le _, h0⟩, ?_⟩
 rintro i m σ H ⟨rfl, hi, p⟩
 have q := hl i σ H hi p
 by_cases hlt : i < xs.length
 ·refine .inr ⟨⟨xs, xs[i], q, by simp [hlt]⟩, Pv (i + 1), fun σ' H' p' => ⟨xs.length - (i + 1), by omega, rfl, hlt, p'⟩, fun x H' y => ?_⟩
  obtain ⟨e, y⟩ := y
  subst e
  exact hs i x σ _ (y xs q) p
 ·have e : i = xs.length := by omega
  subst e
  exact .inl ⟨⟨xs, q, Nat.le_refl _⟩, hd σ H p⟩
theorem for_range {lo : Int} {n : Nat} {g : TG} {tb : TS} {D : Ends} {σ : St} {H : Hp} (Pv : Nat → St → Hp → Prop) (h0 : Pv 0 σ H)
  (hs : ∀ i σ H, i < n → Pv i σ H → g (.int (lo + i)) σ H fun σ2 H2 => tb { D with nx := Pv (i + 1), ct := Pv (i + 1), bk := D.nx } σ2 H2) (hd : ∀ σ H, Pv n σ H → D.nx σ H) :
  ∃ W : Nat → Nat → St → Hp → Prop, (∃ m, W 0 m σ H) ∧ ∀ i m σ H, W i m σ H →
   ((Itr lo n).stop i H ∧ D.nx σ H) ∨ ((Itr lo n).go i H ∧ ∃ N : St → Hp → Prop, (∀ σ' H', N σ' H' → ∃ m', m' < m ∧ W (i + 1) m' σ' H') ∧ ∀ x H', (Itr lo n).yld i H x H' → g x σ H' fun σ2 H2 => tb { D with nx := N, ct := N, bk := D.nx } σ2 H2) := by
 refine ⟨fun i m σ H => m = n - i ∧ i ≤ n ∧ Pv i σ H, ⟨n, by simp, Nat.zero_le _, h0⟩, ?_⟩
 rintro i m σ H ⟨rfl, hi, p⟩
 by_cases hlt : i < n
 ·refine .inr ⟨hlt, Pv (i + 1), fun σ' H' p' => ⟨n - (i + 1), by omega, rfl, hlt, p'⟩, fun x H' y => ?_⟩
  obtain ⟨e, y⟩ := y
  subst e y
  exact hs i σ _ hlt p
 ·have e : i = n := by omega
  subst e
  exact .inl ⟨Nat.le_refl _, hd σ H p⟩
end L2
namespace L2
open PySem PySem.Spec PyProof.Rows
abbrev R2 := V → V → Hp → VK → Prop
def OpR (X : Cx) (f : Value → Value → Sem Value) (r : R2) : Prop :=
 ∀ (pins : List (Addr × Obj)) (s : Shared) (σ : St) (H : Hp) (x y : V) (v u : Value) (Q : VK), Inv X pins σ H s → RelV x v → RelV y u → r x y H Q →
  wpAny (model X.prog X.w) X.A (f v u) (EP X pins σ Q) X.xe s
def UnR (X : Cx) (f : Value → Sem Value) (r : V → Hp → VK → Prop) : Prop :=
 ∀ (pins : List (Addr × Obj)) (s : Shared) (σ : St) (H : Hp) (x : V) (v : Value) (Q : VK), Inv X pins σ H s → RelV x v → r x H Q →
  wpAny (model X.prog X.w) X.A (f v) (EP X pins σ Q) X.xe s
def CallR (X : Cx) (f : Value) (r : List V → Hp → VK → Prop) : Prop :=
 ∀ (pins : List (Addr × Obj)) (s : Shared) (σ : St) (H : Hp) (xs : List V) (us : List Value) (Q : VK), Inv X pins σ H s → Vals xs us → r xs H Q →
  wpAny (model X.prog X.w) X.A (call f us) (EP X pins σ Q) X.xe s
def TruR (X : Cx) (r : V → Hp → (Bool → Hp → Prop) → Prop) : Prop :=
 ∀ (pins : List (Addr × Obj)) (s : Shared) (σ : St) (H : Hp) (x : V) (v : Value) (Q : Bool → Hp → Prop), Inv X pins σ H s → RelV x v → r x H Q →
  wpAny (model X.prog X.w) X.A (truthy v) (TP X pins σ Q) X.xe s
def tOp (r : R2) (ta tb : TE) : TE := fun σ H Q => ta σ H fun x H1 => tb σ H1 fun y H2 => r x y H2 Q
def tUn (r : V → Hp → VK → Prop) (ta : TE) : TE := fun σ H Q => ta σ H fun x H1 => r x H1 Q
def rI (C : Int → Int → Prop) (g : Int → Int → V) : R2 := fun x y H Q => ∃ i j, x = .int i ∧ y = .int j ∧ C i j ∧ Q (g i j) H
def rI0 (g : Int → Int → V) : R2 := fun x y H Q => ∃ i j, x = .int i ∧ y = .int j ∧ Q (g i j) H
def rU (g : Int → V) : V → Hp → VK → Prop := fun x H Q => ∃ i, x = .int i ∧ Q (g i) H
section
variable {X : Cx} {a b c : Expr} {ta tb tc : TE} {pos : Pos}
theorem binT (ha : PE X a ta) (hb : PE X b tb) {pins : List (Addr × Obj)} {s : Shared} {σ : St} {H : Hp} {R : V → V → Hp → Prop} (I : Inv X pins σ H s)
  (h : ta σ H fun x H1 => tb σ H1 fun y H2 => R x y H2) {Q : Value → Shared → Prop} {f : Value → Value → Sem Value}
  (hf : ∀ v u s2 x y H2, Inv X pins σ H2 s2 → RelV x v → RelV y u → R x y H2 → wpAny (model X.prog X.w) X.A (f v u) Q X.xe s2) :
  wpAny (model X.prog X.w) X.A (eval a X.env) (fun v s₁ => wpAny (model X.prog X.w) X.A (eval b X.env) (fun u s₂ => wpAny (model X.prog X.w) X.A (f v u) Q X.xe s₂) X.xe s₁) X.xe s := by
 refine thn (ha pins s σ H _ I h) fun v s1 ⟨x, H1, I1, r1, q1⟩ => ?_
 refine thn (hb pins s1 σ H1 _ I1 q1) fun u s2 ⟨y, H2, I2, r2, q2⟩ => ?_
 exact hf v u s2 x y H2 I2 r1 r2 q2
theorem pe_op {op : Operator} {r : R2} (ho : OpR X (binaryOp op) r) (ha : PE X a ta) (hb : PE X b tb) : PE X (.BinOp a op b pos) (tOp r ta tb) := by
 intro pins s σ H Q I h
 exact wpAny_BinOp (binT ha hb I h fun v u s2 x y H2 I2 rx ry q => ho pins s2 σ H2 x y v u Q I2 rx ry q)
theorem pe_un {op : UnaryOp} {r : V → Hp → VK → Prop} (ho : UnR X (unaryOp op) r) (ha : PE X a ta) : PE X (.UnaryOp op a pos) (tUn r ta) := by
 intro pins s σ H Q I h
 exact UnaryOp_ (thn (ha pins s σ H _ I h) fun v s1 ⟨x, H1, I1, r1, q1⟩ => ho pins s1 σ H1 x v Q I1 r1 q1)
theorem opI {f : Value → Value → Sem Value} {C : Int → Int → Prop} {g : Int → Int → Int}
  (rule : ∀ (i j : Int) (t u : Tok) (s : Shared) (Q : Value → Shared → Prop) (E : Value → Shared → Prop), C i j → Q (.int (g i j) s.toks) { s with toks := s.toks + 1 } → wpAny (model X.prog X.w) X.A (f (.int i t) (.int j u)) Q E s) :
  OpR X f (rI C fun i j => .int (g i j)) := by
 intro pins s σ H x y v u Q I rx ry h
 obtain ⟨i, j, rfl, rfl, hc, q⟩ := h
 obtain ⟨t, rfl⟩ := rx
 obtain ⟨t', rfl⟩ := ry
 exact rule i j t t' s _ _ hc ⟨.int (g i j), H, I.tok _, ⟨_, rfl⟩, q⟩
theorem opI0 {f : Value → Value → Sem Value} {g : Int → Int → Int}
  (rule : ∀ (i j : Int) (t u : Tok) (s : Shared) (Q : Value → Shared → Prop) (E : Value → Shared → Prop), Q (.int (g i j) s.toks) { s with toks := s.toks + 1 } → wpAny (model X.prog X.w) X.A (f (.int i t) (.int j u)) Q E s) :
  OpR X f (rI0 fun i j => .int (g i j)) := by
 intro pins s σ H x y v u Q I rx ry h
 obtain ⟨i, j, rfl, rfl, q⟩ := h
 obtain ⟨t, rfl⟩ := rx
 obtain ⟨t', rfl⟩ := ry
 exact rule i j t t' s _ _ ⟨.int (g i j), H, I.tok _, ⟨_, rfl⟩, q⟩
def CDiv (i j : Int) : Prop := 0 < j ∧ j < 1073741824
def CPow (i j : Int) : Prop := 0 ≤ j ∧ j ≤ 1000000 ∧ i.natAbs < 2 ^ 64
def CMul (i j : Int) : Prop := (-(2 ^ 64) < i ∧ i < 2 ^ 64) ∨ (-(2 ^ 64) < j ∧ j < 2 ^ 64)
theorem CMul.ok {i j : Int} (h : CMul i j) : IntMulOk i j := by
 rcases h with ⟨h1, h2⟩ | ⟨h1, h2⟩
 ·exact .of_left (intBits_le_64 h1 h2)
 ·exact .of_right (intBits_le_64 h1 h2)
theorem op_add : OpR X (binaryOp .Add) (rI0 fun i j => .int (i + j)) := opI0 fun _ _ _ _ _ _ _ q => add_int q
theorem op_sub : OpR X (binaryOp .Sub) (rI0 fun i j => .int (i - j)) := opI0 fun _ _ _ _ _ _ _ q => sub_int q
theorem op_mul : OpR X (binaryOp .Mult) (rI CMul fun i j => .int (i * j)) := opI fun _ _ _ _ _ _ _ hc q => mul_int q hc.ok
theorem op_fdiv : OpR X (binaryOp .FloorDiv) (rI CDiv fun i j => .int (i / j)) := opI fun i j _ _ _ _ _ hc q => by
 have h1 : (0 : Int) < j := hc.1
 have h2 : j < 1073741824 := hc.2
 exact floordiv_int (by omega) (by rw [Int.fdiv_eq_ediv_of_nonneg i (by omega)]; exact q) (.inl (PyProof.noPylong_small (by omega)))
theorem op_mod : OpR X (binaryOp .Mod) (rI (fun _ j => 0 < j) fun i j => .int (i % j)) := opI fun i j _ _ _ _ _ hc q => by
 have h1 : (0 : Int) < j := hc
 exact mod_int' (by omega) (by rw [Int.fmod_eq_emod_of_nonneg i (by omega)]; exact q)
theorem op_pow : OpR X (binaryOp .Pow) (rI CPow fun i j => .int (i ^ j.toNat)) := opI fun _ _ _ _ _ _ _ hc q => pow_int_small hc.1 hc.2.1 hc.2.2 q
theorem op_xor : OpR X (binaryOp .BitXor) (rI0 fun i j => .int (Builtin.bitXor i j)) := opI0 fun _ _ _ _ _ _ _ q => xor_int q
theorem unI {f : Value → Sem Value} {g : Int → Int}
  (rule : ∀ (i : Int) (t : Tok) (s : Shared) (Q : Value → Shared → Prop) (E : Value → Shared → Prop), Q (.int (g i) s.toks) { s with toks := s.toks + 1 } → wpAny (model X.prog X.w) X.A (f (.int i t)) Q E s) :
  UnR X f (rU fun i => .int (g i)) := by
 intro pins s σ H x v Q I rx h
 obtain ⟨i, rfl, q⟩ := h
 obtain ⟨t, rfl⟩ := rx
 exact rule i t s _ _ ⟨.int (g i), H, I.tok _, ⟨_, rfl⟩, q⟩
theorem un_neg : UnR X (unaryOp .USub) (rU fun i => .int (-i)) := unI fun _ _ _ _ _ q => neg_int q
end
def scal : V → V → Bool
 | .non, .non => true | .non, .int _ => true | .int _, .non => true | .non, .bl _ => true | .bl _, .non => true | .non, .str _ => true | .str _, .non => true
 | .int _, .int _ => true | .bl _, .bl _ => true | .str _, .str _ => true | .byt _, .byt _ => true
 | .int _, .str _ => true | .str _, .int _ => true | .bl _, .str _ => true | .str _, .bl _ => true
 | _, _ => false
def rEq : R2 := fun x y H Q => scal x y = true ∧ Q (.bl (decide (x = y))) H
theorem dec_int {i j : Int} : decide (V.int i = V.int j) = (i == j) := by
 rw [Bool.eq_iff_iff]
 simp
theorem dec_bl {i j : Bool} : decide (V.bl i = V.bl j) = (i == j) := by
 rw [Bool.eq_iff_iff]
 simp
theorem dec_str {i j : Str} : decide (V.str i = V.str j) = (i == j) := by
 rw [Bool.eq_iff_iff]
 simp
theorem dec_byt {i j : Array UInt8} : decide (V.byt i = V.byt j) = (i.toList == j.toList) := by
 rw [Bool.eq_iff_iff]
 cases i
 cases j
 simp
section
variable {X : Cx} {a b c : Expr} {ta tb tc : TE} {pos : Pos}
theorem fin_bl {pins : List (Addr × Obj)} {σ : St} {H : Hp} {s : Shared} {Q : VK} {k k' : Bool} (I : Inv X pins σ H s) (q : Q (.bl k) H) (e : k = k') : EP X pins σ Q (.bool k') s := by
 subst e
 exact ⟨.bl k, H, I, rfl, q⟩
theorem op_eq : OpR X (compareOp .Eq) rEq := by
 intro pins s σ H x y v u Q I rx ry h
 obtain ⟨hs, q⟩ := h
 cases x with
 | non =>
  cases rx
  cases y with
  | non => cases ry; exact PySem.EqNone.eq_none_none (fin_bl I q (by simp))
  | bl j => cases ry; exact PySem.EqNone.eq_none_bool (fin_bl I q (by simp))
  | int j => obtain ⟨t', rfl⟩ := ry; exact PySem.EqNone.eq_none_int (fin_bl I q (by simp))
  | str j => obtain ⟨t', rfl⟩ := ry; exact PySem.EqNone.eq_none_str (fin_bl I q (by simp))
  | _ => exact absurd (show false = true from hs) Bool.false_ne_true
 | bl i =>
  cases rx
  cases y with
  | non => cases ry; exact PySem.EqNone.eq_bool_none (fin_bl I q (by simp))
  | bl j => cases ry; exact eq_bool (fin_bl I q dec_bl)
  | str j => obtain ⟨t', rfl⟩ := ry; exact PySem.EqMixed.eq_bool_str (fin_bl I q (by simp))
  | _ => exact absurd (show false = true from hs) Bool.false_ne_true
 | int i =>
  obtain ⟨t, rfl⟩ := rx
  cases y with
  | non => cases ry; exact PySem.EqNone.eq_int_none (fin_bl I q (by simp))
  | int j => obtain ⟨t', rfl⟩ := ry; exact eq_int (fin_bl I q dec_int)
  | str j => obtain ⟨t', rfl⟩ := ry; exact PySem.EqMixed.eq_int_str (fin_bl I q (by simp))
  | _ => exact absurd (show false = true from hs) Bool.false_ne_true
 | str i =>
  obtain ⟨t, rfl⟩ := rx
  cases y with
  | non => cases ry; exact PySem.EqNone.eq_str_none (fin_bl I q (by simp))
  | bl j => cases ry; exact PySem.EqMixed.eq_str_bool (fin_bl I q (by simp))
  | int j => obtain ⟨t', rfl⟩ := ry; exact PySem.EqMixed.eq_str_int (fin_bl I q (by simp))
  | str j => obtain ⟨t', rfl⟩ := ry; exact eq_str (fin_bl I q dec_str)
  | _ => exact absurd (show false = true from hs) Bool.false_ne_true
 | byt i =>
  obtain ⟨t, rfl⟩ := rx
  cases y with
  | byt j => obtain ⟨t', rfl⟩ := ry; exact PySem.W.eq_bytes (fin_bl I q dec_byt)
  | _ => exact absurd (show false = true from hs) Bool.false_ne_true
 | _ => cases y <;> exact absurd (show false = true from hs) Bool.false_ne_true
theorem nomark (b : Expr) {op : CmpOp} (h : op ≠ .In := by decide) (h2 : op ≠ .NotIn := by decide) : behindInMarks op b = false := by
 have e1 : (op == CmpOp.In) = false := by cases op <;> first | rfl | exact absurd rfl h
 have e2 : (op == CmpOp.NotIn) = false := by cases op <;> first | rfl | exact absurd rfl h2
 cases b <;> simp [behindInMarks, e1, e2]
theorem pe_cmpR {op : CmpOp} {r : R2} (ho : OpR X (compareOp op) r) (ha : PE X a ta) (hb : PE X b tb) (hm : behindInMarks op b = false) : PE X (.Compare a [op] [b] pos) (tOp r ta tb) := by
 intro pins s σ H Q I h
 exact wpAny_Compare1 (binT ha hb I h fun v u s2 x y H2 I2 rx ry q => ho pins s2 σ H2 x y v u Q I2 rx ry q) hm
def tTest (t : TE) : TT := fun σ H Q => t σ H fun x H' => ∃ k, x = .bl k ∧ Q k H'
theorem pt_cmpR {op : CmpOp} {r : R2} (ho : OpR X (compareOp op) r) (ha : PE X a ta) (hb : PE X b tb) (hm : behindInMarks op b = false) : PT X (.Compare a [op] [b] pos) (tTest (tOp r ta tb)) := by
 intro pins s σ H Q I h
 refine wpAny_isTrue_Compare1 (thn (ha pins s σ H _ I h) fun v s1 ⟨x, H1, I1, r1, q1⟩ => thn (hb pins s1 σ H1 _ I1 q1) fun u s2 ⟨y, H2, I2, r2, q2⟩ =>
  thn (ho pins s2 σ H2 x y v u _ I2 r1 r2 q2) fun c s3 ⟨z, H3, I3, r3, k, e, q3⟩ => ?_) hm
 subst e
 cases r3
 exact wpAny_truthy_bool ⟨H3, I3, q3⟩
def TruV (K : PySem.W.Frag) (x : V) (H : Hp) (k : Bool) : Prop :=
 match x with
 | .non => k = false
 | .bl b => k = b
 | .int i => k = (i != 0)
 | .str y => y.length ≤ sizeLine ∧ k = ((y.length : Int) != 0)
 | .byt y => y.size ≤ sizeLine ∧ k = ((y.size : Int) != 0)
 | .ref p => (∃ xs, SqL K H p xs ∧ k = !xs.isEmpty) ∨ (∃ xs, SqT K H p xs ∧ k = !xs.isEmpty) ∨ ∃ kvs, H p = some (.dK kvs) ∧ k = !kvs.isEmpty
 | _ => False
theorem isEmpty_kv {κ : Type} {kvs : List (κ × V)} {vs : List (κ × Value)} (r : KV kvs vs) : (!vs.isEmpty) = !kvs.isEmpty := by
 cases r <;> rfl
theorem isEmpty_of {xs : List V} {its : List Value} (r : Vals xs its) : (!its.toArray.isEmpty) = !xs.isEmpty := by
 cases r <;> simp
theorem line63 : (sizeLine : Nat) < 2 ^ 63 := by rw [sizeLine_eq]; decide
theorem tru_ok : TruR X (fun x H Q => ∃ k, TruV X.K x H k ∧ Q k H) := by
 intro pins s σ H x v Q I rx h
 obtain ⟨k, e, q⟩ := h
 have hl := line63
 have hs : sizeLine = 16777216 := sizeLine_eq
 cases x with
 | non =>
  cases rx
  have e' : k = false := e
  subst e'
  exact truthy_none ⟨H, I, q⟩
 | bl b =>
  cases rx
  have e' : k = b := e
  subst e'
  exact wpAny_truthy_bool ⟨H, I, q⟩
 | int i =>
  obtain ⟨t, rfl⟩ := rx
  have e' : k = (i != 0) := e
  subst e'
  exact PySem.P.truthy_int ⟨H, I, q⟩
 | str y =>
  obtain ⟨t, rfl⟩ := rx
  obtain ⟨hy, e'⟩ : y.length ≤ sizeLine ∧ k = ((y.length : Int) != 0) := e
  subst e'
  exact PySem.P.truthy_str (by omega) ⟨H, I.tok _, q⟩
 | byt y =>
  obtain ⟨t, rfl⟩ := rx
  obtain ⟨hy, e'⟩ : y.size ≤ sizeLine ∧ k = ((y.size : Int) != 0) := e
  subst e'
  exact PySem.W.truthy_bytes (by omega) ⟨H, I.tok _, q⟩
 | ref p =>
  cases rx
  have e' : (∃ xs, SqL X.K H p xs ∧ k = !xs.isEmpty) ∨ (∃ xs, SqT X.K H p xs ∧ k = !xs.isEmpty) ∨ ∃ kvs, H p = some (.dK kvs) ∧ k = !kvs.isEmpty := e
  rcases e' with ⟨xs, hx, e'⟩ | ⟨xs, hx, e'⟩ | ⟨kvs, hx, e'⟩
  ·subst e'
   obtain ⟨its, r, pl, hz⟩ := I.list hx
   have hlen := r.length
   exact wpAny_truthy_list pl.isList (by simp only [List.size_toArray]; omega) ⟨H, I.tok _, by rw [isEmpty_of r]; exact q⟩
  ·subst e'
   obtain ⟨its, r, pl, hz⟩ := I.tuple hx
   have hlen := r.length
   exact truthy_tuple pl (by simp only [List.size_toArray]; omega) ⟨H, I.tok _, by rw [isEmpty_of r]; exact q⟩
  ·subst e'
   obtain ⟨hz, hS, vs, r, m⟩ : kvs.length ≤ sizeLine ∧ (p == sysModules) = false ∧ ∃ vs, KV kvs vs ∧ s.heap.DictOf (mixKind X.prog X.w) p vs := I.hok p _ hx
   have hlen : kvs.length = vs.length := Paired.length r
   exact wpAny_truthy_dict hS m (by omega) ⟨H, I.tok _, by rw [isEmpty_kv r]; exact q⟩
 | _ => exact (show False from e).elim
theorem pt_truth (ha : PE X a ta) (he : ∀ whole, isTrue a X.env whole = (do let v ← whole; standAt a.pos; holding [v] (truthy v))) :
  PT X a (fun σ H Q => ta σ H fun x H' => ∃ k, TruV X.K x H' k ∧ Q k H') := by
 intro pins s σ H Q I h
 exact isTrue_plain (thn (ha pins s σ H _ I h) fun v s1 ⟨x, H1, I1, r1, q1⟩ => tru_ok pins s1 σ H1 x v Q I1 r1 q1) (he _)
theorem vals1 {x : V} {us : List Value} (r : Vals [x] us) : ∃ u, us = [u] ∧ RelV x u := by
 cases r with
 | cons r1 r2 => cases r2; exact ⟨_, rfl, r1⟩
theorem vals2 {x y : V} {us : List Value} (r : Vals [x, y] us) : ∃ u w', us = [u, w'] ∧ RelV x u ∧ RelV y w' := by
 cases r with
 | cons r1 r2 =>
  cases r2 with
  | cons r3 r4 => cases r4; exact ⟨_, _, rfl, r1, r3⟩
theorem call_max2 (hc : X.calm = true) : CallR X (.builtin "max") (fun xs H Q => ∃ i j, xs = [.int i, .int j] ∧ Q (.int (if j > i then j else i)) H) := by
 intro pins s σ H xs us Q I r h
 obtain ⟨i, j, rfl, q⟩ := h
 obtain ⟨u, w', rfl, ⟨t, rfl⟩, ⟨t', rfl⟩⟩ := vals2 r
 refine max_two_ints (I.ok.hd hc) fun h' tk k => ⟨_, H, I.kept k, ?_, q⟩
 by_cases hj : j > i
 ·rw [if_pos hj, if_pos hj]; exact ⟨_, rfl⟩
 ·rw [if_neg hj, if_neg hj]; exact ⟨_, rfl⟩
theorem call_min2 (hc : X.calm = true) : CallR X (.builtin "min") (fun xs H Q => ∃ i j, xs = [.int i, .int j] ∧ Q (.int (if j < i then j else i)) H) := by
 intro pins s σ H xs us Q I r h
 obtain ⟨i, j, rfl, q⟩ := h
 obtain ⟨u, w', rfl, ⟨t, rfl⟩, ⟨t', rfl⟩⟩ := vals2 r
 refine min_two_ints (I.ok.hd hc) fun h' tk k => ⟨_, H, I.kept k, ?_, q⟩
 by_cases hj : j < i
 ·rw [if_pos hj, if_pos hj]; exact ⟨_, rfl⟩
 ·rw [if_neg hj, if_neg hj]; exact ⟨_, rfl⟩
end
end L2
namespace L2
open PySem PySem.Spec PyProof.Rows
structure ObjM (h : Heap) (x dx C : Addr) (mA : Str → Option Value) : Prop where
 obj : h.get? x = some (PySem.W.instObj C dx)
 ns : h.Ns1 dx mA
 ne : dx ≠ x
theorem lookIn_ns {h : Heap} {dx : Addr} {mA : Str → Option Value} (n : h.Ns1 dx mA) : ∃ od, h.get? dx = some od ∧ ∀ name, PySem.W.lookIn name od = some (mA name) := by
 obtain ⟨o, es, ep, ho, hd, hk, _, hm⟩ := n
 refine ⟨o, ho, fun name => ?_⟩
 have e := hm name
 unfold nsFind findBy at e
 rw [← Array.find?_toList] at e
 unfold PySem.W.lookIn
 rw [hd]
 dsimp only
 split
 ·rename_i y q
  rw [q] at e
  exact congrArg some e
 ·rename_i q
  rw [q] at e
  have a : es.toList.any (·.refKey) = false := by
   rw [List.any_eq_false]
   intro y hy
   obtain ⟨z, t, hkey⟩ := hk y (Array.mem_toList_iff.mp hy)
   simp [DictEntry.refKey, hkey]
  have a' : ¬ es.toList.any (·.refKey) = true := by rw [a]; exact Bool.false_ne_true
  rw [if_neg a']
  exact congrArg some e
theorem ObjM.look {h : Heap} {x dx C : Addr} {mA : Str → Option Value} (I : ObjM h x dx C mA) : ∃ od, PySem.W.InstAt h x (PySem.W.instObj C dx) C (some od) ∧ ∀ name, PySem.W.lookIn name od = some (mA name) :=
 let ⟨od, ho, hl⟩ := lookIn_ns I.ns
 ⟨od, ⟨I.obj, rfl, rfl, ho⟩, hl⟩
section
variable {prog : Program} {w : World} {A : Around} {E : Value → Shared → Prop} {s : Shared} {K : PySem.W.Frag} {x dx C f : Addr} {mA : Str → Option Value} {name : Str} {v : Value}
end
theorem RelO.some_of {v : V} {o : Option Value} (r : RelO (some v) o) : ∃ u, o = some u ∧ RelV v u := by
 cases o with
 | none => exact (show False from r).elim
 | some u => exact ⟨u, rfl, r⟩
section
variable {P : Program} {w : World} {H H' : Hp} {h h' : Heap} {a C dx : Addr} {fs fs' : List (Str × V)}
theorem ins_get (hok : HOk P w H h) (e : H a = some (.ins C dx fs)) : ∃ mA, ObjM h a dx C mA ∧ (∀ f, RelO (fs.lookup f) (mA f)) ∧ PySem.Within mA (fs.map (·.1)) ∧ fs.length ≤ 1000 ∧ H dx = some (.own a) := by
 obtain ⟨d, z, ne, ob, mA, n, r, q⟩ := (show ObjOk P w H h a (.ins C dx fs) from hok a _ e)
 exact ⟨mA, ⟨ob, n, ne⟩, r, q, z, d⟩
end
structure Cls (K : PySem.W.Frag) (C : Addr) : Prop where
 pg : PySem.W.plainGet K C Str.empty = true
 hd : PySem.W.hasDictIn K C = true
 po : PySem.W.plainOver K C = true
 sa : PySem.W.findIn K (.ref C) "__setattr__" = some (some (.builtin "object.__setattr__"))
theorem Cls.get {K : PySem.W.Frag} {C : Addr} (c : Cls K C) (f : Str) : PySem.W.plainGet K C f = true := c.pg
section
variable {X : Cx} {pins : List (Addr × Obj)} {σ : St} {H : Hp} {s : Shared} {a C dx : Addr} {fs : List (Str × V)} {f : Str} {v : V} {A : Around} {E : Value → Shared → Prop}
end
section
variable {X : Cx} {o e value : Expr} {f : Str} {pos pos' tpos : Pos} {ta tv : TE}
end
section
variable {X : Cx} {pins : List (Addr × Obj)} {σ : St} {H : Hp} {s : Shared} {A : Around} {E : Value → Shared → Prop} {Q : Value → Shared → Prop} {c : Value} {b : Bool}
inductive TyOf (K : PySem.W.Frag) (H : Hp) : V → Value → Prop where
 | non : TyOf K H .non (.type "NoneType")
 | bl (x : Bool) : TyOf K H (.bl x) (.type "bool")
 | int (i : Int) : TyOf K H (.int i) (.type "int")
 | str (x : Str) : TyOf K H (.str x) (.type "str")
 | flt (x : UInt64) : TyOf K H (.flt x) (.type "float")
 | lst {a : Addr} {xs : List V} (e : H a = some (.lst xs)) : TyOf K H (.ref a) (.type "list")
 | frz {a : Addr} {o : Obj} {xs : List V} (e : H a = some (.frz o (.lst xs))) : TyOf K H (.ref a) (.type "list")
 | tup {a : Addr} {xs : List V} (e : H a = some (.tup xs)) : TyOf K H (.ref a) (.type "tuple")
 | dK {a : Addr} {kvs : List (Key × V)} (e : H a = some (.dK kvs)) : TyOf K H (.ref a) (.type "dict")
 | dT {a : Addr} {kvs : List (List Key × V)} (e : H a = some (.dT kvs)) : TyOf K H (.ref a) (.type "dict")
 | ins {a C dx : Addr} {fs : List (Str × V)} (e : H a = some (.ins C dx fs)) (cl : Cls K C) (ha : PySem.W.findIn K (.ref C) "__class__" = some (some (.builtin "object.__class__")))
   (hn : PySem.W.specialIn K (.builtin "object.__class__") "__get__" = some (some (.builtin "getset_descriptor.__get__"))) (htk : PySem.W.takesIn K (.builtin "object.__class__") = some true)
   (hm : PySem.W.mroIn K C (.type "object") = some true) : TyOf K H (.ref a) (.ref C)
theorem isinst_ok {x : V} {u t : Value} (I : Inv X pins σ H s) (rx : RelV x u) (ty : TyOf X.K H x t) (e : PySem.W.kitOne X.K t c = some b) (h : ∀ tk, Q (.bool b) { s with toks := tk }) :
  wpAny (model X.prog X.w) A (call (.builtin "isinstance") [u, c]) Q E s := by
 cases ty with
 | non => cases (show u = Value.none from rx); exact PySem.W.kia_one PySem.W.kitx_none I.kIn True.intro e (fun z => nomatch z) h
 | bl y => cases (show u = Value.bool y from rx); exact PySem.W.kia_one PySem.W.kitx_bool I.kIn True.intro e (fun z => nomatch z) h
 | int i => obtain ⟨t, q⟩ := (show ∃ t, u = Value.int i t from rx); cases q; exact PySem.W.kia_one PySem.W.kitx_int I.kIn True.intro e (fun z => nomatch z) h
 | str y => obtain ⟨t, q⟩ := (show ∃ t, u = Value.str y t from rx); cases q; exact PySem.W.kia_one PySem.W.kitx_str I.kIn True.intro e (fun z => nomatch z) h
 | flt y => obtain ⟨t, q⟩ := (show ∃ t, u = Value.float y t from rx); cases q; exact PySem.W.kia_one PySem.W.kitx_float I.kIn True.intro e (fun z => nomatch z) h
 | @lst a xs ea =>
  cases (show u = Value.ref a from rx)
  obtain ⟨_, _, n, _, h1⟩ := (show ObjOk X.prog X.w H s.heap a (.lst xs) from I.hok a _ ea)
  exact PySem.W.kia_one PySem.W.kitx_list I.kIn ⟨_, h1, rfl⟩ e (fun z => nomatch z) h
 | @frz a ob xs ea =>
  cases (show u = Value.ref a from rx)
  obtain ⟨_, _, _, n, _, h1⟩ := (show ObjOk X.prog X.w H s.heap a (.frz ob (.lst xs)) from I.hok a _ ea)
  exact PySem.W.kia_one PySem.W.kitx_list I.kIn ⟨_, h1, rfl⟩ e (fun z => nomatch z) h
 | @tup a xs ea =>
  cases (show u = Value.ref a from rx)
  obtain ⟨_, _, _, p⟩ := (show ObjOk X.prog X.w H s.heap a (.tup xs) from I.hok a _ ea)
  obtain ⟨o, h1, h2, _⟩ := p
  exact PySem.W.kia_one PySem.W.kitx_tuple I.kIn ⟨o, h1, h2⟩ e (fun z => nomatch z) h
 | @dK a kvs ea =>
  cases (show u = Value.ref a from rx)
  obtain ⟨_, _, vs, _, p⟩ := (show ObjOk X.prog X.w H s.heap a (.dK kvs) from I.hok a _ ea)
  obtain ⟨o, es, ep, h1, h2, _⟩ := p
  exact PySem.W.kia_one PySem.W.kitx_dict I.kIn ⟨o, h1, h2.1⟩ e (fun z => nomatch z) h
 | @dT a kvs ea =>
  cases (show u = Value.ref a from rx)
  obtain ⟨_, _, xs, _, o, es, ep, h1, h2, _⟩ := (show ObjOk X.prog X.w H s.heap a (.dT kvs) from I.hok a _ ea)
  exact PySem.W.kia_one PySem.W.kitx_dict I.kIn ⟨o, h1, h2.1⟩ e (fun z => nomatch z) h
 | @ins a C dx fs ea cl ha hn htk hm =>
  cases (show u = Value.ref a from rx)
  obtain ⟨mA, O, _⟩ := ins_get I.hok ea
  obtain ⟨od, J, _⟩ := O.look
  exact PySem.W.kia_one (PySem.W.kitx_own (cl.get _) cl.hd ha hn htk hm) I.kIn J e (fun z => nomatch z) h
end
end L2
namespace L2
open PySem PySem.Spec PyProof.Rows
structure Room (k : Nat) (A : Around) : Prop where
 hd : A.handled = none
 dp : A.depth + 3 * k + 5 < recursionLimit
 un : A.units + 16 * k + 200 < cLine
theorem Room.mono {j k : Nat} {A : Around} (r : Room k A) (h : j ≤ k) : Room j A := ⟨r.hd, by have := r.dp; omega, by have := r.un; omega⟩
theorem Room.deeper {k : Nat} {A : Around} (r : Room (k + 1) A) (env : Env) : Room k (A.deeper env) :=
 ⟨r.hd, by have := r.dp; show A.depth + 1 + 3 * k + 5 < _; omega, by have := r.un; show A.units + 3 + 16 * k + 200 < _; omega⟩
theorem Room.depth {k : Nat} {A : Around} (r : Room k A) : A.depth < recursionLimit := by have := r.dp; omega
theorem Room.units {k : Nat} {A : Around} (r : Room k A) : A.units + 64 < cLine := by have := r.un; omega
def tNil : TA := fun _ H Q => Q [] H
def tCons (ta : TE) (tr : TA) : TA := fun σ H Q => ta σ H fun x H1 => tr σ H1 fun xs H2 => Q (x :: xs) H2
section
variable {X : Cx} {e : Expr} {es : List Expr} {te : TE} {t : TA} {pos : Pos}
theorem pa_nil : PA X [] tNil := fun _ _ _ _ H Q I h => Calls.spliced_nil ⟨[], H, I, .nil, h⟩
theorem pa_cons (ha : PE X e te) (hr : PA X es t) (hs : starEach (e :: es) X.env = (false, eval e X.env) :: starEach es X.env := by rfl) : PA X (e :: es) (tCons te t) := by
 intro pos pins s σ H Q I h
 rw [hs]
 show wpAny _ _ (spliced ((false, eval e X.env) :: backTo pos (starEach es X.env))) _ _ s
 refine Calls.spliced_cons (thn (ha pins s σ H _ I h) fun u s1 ⟨x, H1, I1, r1, q1⟩ => ?_)
 exact thn (hr pos pins s1 σ H1 _ I1 q1) fun us s2 ⟨xs, H2, I2, r2, q2⟩ => ⟨x :: xs, H2, I2, .cons r1 r2, q2⟩
def tTup (t : TA) : TE := fun σ H Q => t σ H fun xs H1 => xs.length ≤ sizeLine ∧ ∀ p, H1 p = none → Q (.ref p) (upd H1 p (.tup xs))
def tLst (t : TA) : TE := fun σ H Q => t σ H fun xs H1 => xs.length ≤ sizeLine ∧ ∀ p, H1 p = none → Q (.ref p) (upd H1 p (.lst xs))
theorem pe_tup {x1} (h : PA X es t) : PE X (.Tuple es x1 pos) (tTup t) := by
 intro pins s σ H Q I hq
 refine wpAny_Tuple_spliced (thn (h pos pins s σ H _ I hq) fun us s1 ⟨xs, H1, I1, r, z, q⟩ => ⟨by rw [← r.length]; exact z, ?_⟩)
 have hf : H1 s1.heap.objs.size = none := I1.hok.fresh (Nat.le_refl _)
 refine ⟨.ref s1.heap.objs.size, upd H1 s1.heap.objs.size (.tup xs), I1.laid (t' := s1.toks) (fun b u e => Heap.get?_push_of_some _ e) (Nat.le_refl _) ?_, rfl, q _ hf⟩
 exact ⟨z, us, r, ⟨_, Heap.get?_push_size _ rfl, rfl, _, rfl⟩⟩
theorem pe_lst (h : PA X es t) : PE X (.List es pos) (tLst t) := by
 intro pins s σ H Q I hq
 refine wpAny_List_spliced (thn (h pos pins s σ H _ I hq) fun us s1 ⟨xs, H1, I1, r, z, q⟩ => ⟨by rw [← r.length]; exact z, ?_⟩)
 have hf : H1 s1.heap.objs.size = none := I1.hok.fresh (Nat.le_refl _)
 refine ⟨.ref s1.heap.objs.size, upd H1 s1.heap.objs.size (.lst xs), I1.laid (t' := s1.toks) (fun b u e => Heap.get?_push_of_some _ e) (Nat.le_refl _) ?_, rfl, q _ hf⟩
 exact ⟨z, us, 0, r, Heap.get?_push_size _ rfl⟩
end
abbrev Sp := List V → Hp → VK → XK → Prop
abbrev CXT := List Env → Hp → Shared → XK → Value → Shared → Prop
structure Env0 (P : Program) (w : World) (K : PySem.W.Frag) (mg : Str → Option Value) (base : Heap) (A : Around) (outer : List Env) (s : Shared) (H : Hp) : Prop where
 frames : A.frames = some outer
 mod : Mod K mg base
 bs : ∀ b o, base.get? b = some o → s.heap.get? b = some o ∧ H b = none
 bsz : base.objs.size ≤ s.heap.objs.size
 funs : s.heap.FunFrames base outer
 frf : ∀ b ∈ frs outer, H b = none
 hok : HOk P w H s.heap
 bare : AllBare s.gens
def CE (outer : List Env) (P : Program) (w : World) (H : Hp) (s : Shared) (Q : VK) (u : Value) (s' : Shared) : Prop :=
 ∃ v H', s'.os = s.os ∧ AllBare s'.gens ∧ Un (frs outer) [] H H' s.heap s'.heap ∧ HOk P w H' s'.heap ∧ RelV v u ∧ Q v H'
def CR (CX : CXT) (outer : List Env) (P : Program) (w : World) (H : Hp) (s : Shared) (Q : VK) (E : XK) (r : Result) (s' : Shared) : Prop :=
 match r with
 | .ok (.ret u) => CE outer P w H s Q u s'
 | .ok _ => False
 | .error e => CX outer H s E e s'
structure FnOk (P : Program) (w : World) (K : PySem.W.Frag) (mg : Str → Option Value) (base : Heap) (CX : CXT) (k : Nat) (f : Addr) (fd : FuncData) (ps : List Str) (sp : Sp) : Prop where
 len : ∀ vs H Q E, sp vs H Q E → vs.length = ps.length
 run : ∀ (A : Around) (outer : List Env) (s : Shared) (H : Hp) (args : Args) (us : List Value) (vs : List V) (Q : VK) (E : XK), Room k A → Env0 P w K mg base A outer s H → BindsTo s fd args (ps.zip us) → Vals vs us → sp vs H Q E →
  codeAny (model P w) A (.call (.ref f) args) (CR CX outer P w H s Q E) s
section
variable {X : Cx} {pins : List (Addr × Obj)} {σ : St} {H : Hp} {s s' : Shared}
theorem Inv.env0 (I : Inv X pins σ H s) : Env0 X.prog X.w X.K X.mg X.base X.A X.stack s H :=
 ⟨I.ok.frames, I.ok.mod, I.bs, Nat.le_trans I.ok.bsz I.sz, I.stack, I.stkFree, I.hok, I.bare⟩
theorem Inv.after {Q : VK} {u : Value} (I : Inv X pins σ H s) (h : CE X.stack X.prog X.w H s Q u s') : EP X pins σ Q u s' := by
 obtain ⟨v, H', os, bare, un, hok, r, q⟩ := h
 obtain ⟨hh, g, d, t, os'⟩ := s'
 obtain rfl : os' = s.os := os
 exact ⟨v, H', I.call (h' := hh) (g' := g) (d' := d) (t' := t) (ch := []) un hok bare (fun b z => absurd z (by simp)), r, q⟩
end
def tCall (sp : Sp) (dvs : List V) (E : XK) (t : TA) : TE := fun σ H Q => t σ H fun vs H1 => sp (vs ++ dvs) H1 Q E
def Binds (K : PySem.W.Frag) (fd : FuncData) (ps : List Str) (ds : List Value) : Prop :=
 ∀ (s : Shared) (us : List Value), K.In s.heap → (us ++ ds).length = ps.length → BindsTo s fd ⟨us, []⟩ (ps.zip (us ++ ds))
theorem Binds.all {K : PySem.W.Frag} {fd : FuncData} {ps : List Str} (h : ∀ us : List Value, us.length = ps.length → bindArgs fd ⟨us, []⟩ = pure (ps.zip us)) : Binds K fd ps [] := fun s us _ hl => by
 rw [List.append_nil] at hl ⊢
 exact .of_eq (h us hl)
def Passes (CX : CXT) (X : Cx) (E : XK) : Prop := ∀ (pins : List (Addr × Obj)) (σ : St) (H : Hp) (s : Shared) (e : Value) (s' : Shared), Inv X pins σ H s → CX X.stack H s E e s' → X.xe e s'
section
variable {X : Cx} {CX : CXT} {k : Nat} {f C : Addr} {fd : FuncData} {ps : List Str} {sp : Sp} {dvs : List V} {ds : List Value} {E : XK} {x m : Str} {p pos apos : Pos} {e o : Expr} {es : List Expr} {ta : TE} {t : TA}
theorem run_fn {pins : List (Addr × Obj)} {σ : St} {H : Hp} {s : Shared} {Q : VK} {us : List Value} {vs : List V} (F : FnOk X.prog X.w X.K X.mg X.base CX k f fd ps sp) (hr : Room k X.A) (hb : Binds X.K fd ps ds) (hd : Vals dvs ds) (hx : Passes CX X E)
  (I : Inv X pins σ H s) (r : Vals vs us) (h : sp (vs ++ dvs) H Q E) : wpAny (model X.prog X.w) X.A (call (.ref f) us) (EP X pins σ Q) X.xe s := by
 have r2 : Vals (vs ++ dvs) (us ++ ds) := r.append hd
 have hl : (us ++ ds).length = ps.length := by rw [← r2.length]; exact F.len _ _ _ _ h
 refine wpAny_call (codeAny_mono (F.run X.A X.stack s H ⟨us, []⟩ (us ++ ds) (vs ++ dvs) Q E hr I.env0 (hb s us I.kIn hl) r2 h) fun r s' hq => ?_)
 cases r with
 | error e => exact hx pins σ H s e s' I hq
 | ok fl =>
  cases fl with
  | ret u => exact I.after hq
  | next => exact False.elim hq
  | brk => exact False.elim hq
  | cont => exact False.elim hq
theorem pe_call (F : FnOk X.prog X.w X.K X.mg X.base CX k f fd ps sp) (hr : Room k X.A) (hg : Gl X x) (hm : X.mg x = some (.ref f)) (hk : PySem.W.keepIn X.K (.ref f) = true) (hb : Binds X.K fd ps ds) (hd : Vals dvs ds) (hx : Passes CX X E)
  (ha : PA X (e :: es) t) (hdb : (x == ("__debug__" : Str)) = false := by decide) (he : starEach (e :: es) X.env = (false, eval e X.env) :: starEach es X.env := by rfl) (hpl : (backTo pos (starEach es X.env)).any (·.1) = false := by rfl) :
  PE X (.Call (.Name x p) (e :: es) [] pos) (tCall sp dvs E t) := by
 intro pins s σ H Q I h
 refine wpAny_Call_Name_kw (ld_glob I hg hm ?_ hdb)
 refine PySem.W.callWith_K (h₀ := X.base) I.ok.mod.kin hk (thn (ha pos pins s σ H _ I h) fun us s1 ⟨vs, H1, I1, r, q⟩ => ⟨I1.kIn, ?_⟩) he hpl
 exact run_fn F hr hb hd hx I1 r q
end
section
variable {X : Cx} {CX : CXT} {k : Nat} {f C : Addr} {fd : FuncData} {ps ks : List Str} {sp : Sp} {E : XK} {x m : Str} {p pos apos kpos : Pos} {e o : Expr} {es : List Expr} {kws : List Keyword} {te ta : TE} {t tk : TA} {nm : Option Str}
variable {g : List Value → List Value → List Value} {gV : List V → List V → List V}
end
structure FnScope (N P : List Str) (sc : Scope) : Prop where
 kind : sc.kind = .function
 co : sc.isCoroutine = false
 gen : sc.isGenerator = false
 nd : N.Nodup
 pre : N.take P.length = P
 par : ∀ x ∈ P, sc.names.lookup x = some .local ∨ sc.names.lookup x = some .cell
 nofree : ∀ y ∈ sc.names, y.2 ≠ .free
theorem bindL_out {kindOf : Str → Option NameKind} {x : Str} : ∀ {binds : List (Str × Value)} {m : Str → Option Value}, (∀ v, (x, v) ∉ binds) → bindL kindOf binds m x = m x
 | [], _, _ => rfl
 | (n, v) :: r, m, h => by
  unfold bindL
  rw [bindL_out fun w hw => h w (List.mem_cons_of_mem _ hw)]
  split
  ·have : x ≠ n := by rintro rfl; exact h v List.mem_cons_self
   simp [this]
  ·rfl
theorem bindC_out {kindOf : Str → Option NameKind} {x : Str} : ∀ {binds : List (Str × Value)} {m : Str → Option Value}, (∀ v, (x, v) ∉ binds) → bindC kindOf binds m x = m x
 | [], _, _ => rfl
 | (n, v) :: r, m, h => by
  unfold bindC
  rw [bindC_out fun w hw => h w (List.mem_cons_of_mem _ hw)]
  split
  ·rfl
  ·have : x ≠ n := by rintro rfl; exact h v List.mem_cons_self
   simp [this]
theorem bindL_get {kindOf : Str → Option NameKind} {x : Str} {v : Value} : ∀ {P : List Str} {vs : List Value} {i : Nat} {m : Str → Option Value}, P.Nodup → P[i]? = some x → vs[i]? = some v → kindOf x = some .local →
  bindL kindOf (P.zip vs) m x = some v
 | [], _, _, _, _, h, _, _ => by simp at h
 | _ :: _, [], _, _, _, _, h, _ => by simp at h
 | p :: P, w :: vs, 0, m, nd, h1, h2, hk => by
  simp at h1 h2; subst h1; subst h2
  show bindL kindOf ((p, w) :: P.zip vs) m p = _
  unfold bindL
  rw [bindL_out fun v hv => (List.nodup_cons.mp nd).1 (List.of_mem_zip hv).1, if_pos hk]
  simp
 | p :: P, w :: vs, i + 1, m, nd, h1, h2, hk => by
  show bindL kindOf ((p, w) :: P.zip vs) m x = _
  unfold bindL
  exact bindL_get (i := i) (List.nodup_cons.mp nd).2 (by simpa using h1) (by simpa using h2) hk
theorem bindC_get {kindOf : Str → Option NameKind} {x : Str} {v : Value} : ∀ {P : List Str} {vs : List Value} {i : Nat} {m : Str → Option Value}, P.Nodup → P[i]? = some x → vs[i]? = some v → kindOf x ≠ some .local →
  bindC kindOf (P.zip vs) m x = some v
 | [], _, _, _, _, h, _, _ => by simp at h
 | _ :: _, [], _, _, _, _, h, _ => by simp at h
 | p :: P, w :: vs, 0, m, nd, h1, h2, hk => by
  simp at h1 h2; subst h1; subst h2
  show bindC kindOf ((p, w) :: P.zip vs) m p = _
  unfold bindC
  rw [bindC_out fun v hv => (List.nodup_cons.mp nd).1 (List.of_mem_zip hv).1, if_neg hk]
  simp
 | p :: P, w :: vs, i + 1, m, nd, h1, h2, hk => by
  show bindC kindOf ((p, w) :: P.zip vs) m x = _
  unfold bindC
  exact bindC_get (i := i) (List.nodup_cons.mp nd).2 (by simpa using h1) (by simpa using h2) hk
def start (N : List Str) (vs : List V) : St := vs.map some ++ List.replicate (N.length - vs.length) none
def cxOf (CX : CXT) (P : Program) (w : World) (K : PySem.W.Frag) (mg : Str → Option Value) (base : Heap) (N : List Str) (qual : Str) (scope : Scope) (f : Addr) (cd : Value) (A : Around) (outer : List Env) (s : Shared) (H : Hp) (E : XK) : Cx where
 prog := P
 w := w
 K := K
 mg := mg
 base := base
 A := A.deeper (envOfC qual scope s.heap.objs.size f cd)
 N := N
 s₀ := s
 H₀ := H
 env := envOfC qual scope s.heap.objs.size f cd
 outer := outer
 stack := envOfC qual scope s.heap.objs.size f cd :: outer
 ex := []
 calm := true
 fn := fun _ => true
 pn := []
 xe := fun e s' => wpAny (model P w) (A.deeper (envOfC qual scope s.heap.objs.size f cd)) (leaving (envOfC qual scope s.heap.objs.size f cd) e) (fun _ s'' => CX outer H s E e s'') (fun e' s'' => CX outer H s E e' s'') s'
theorem cell_has {sc : Scope} {n : Nat} {x : Str} (h : sc.names.lookup x = some .cell) : ∃ c, (cellsFrom n sc.names []).lookup x = some c := by
 have q := PySem.W.cellsFrom_some sc.names n [] (.inl h)
 exact Option.isSome_iff_exists.mp q
theorem inv_start {CX : CXT} {P : Program} {w : World} {K : PySem.W.Frag} {mg : Str → Option Value} {base : Heap} {N ps : List Str} {qual : Str} {scope : Scope} {f : Addr} {cd : Value} {A : Around} {outer : List Env} {s s1 : Shared} {H : Hp} {E : XK} {us : List Value} {vs : List V}
  (S : FnScope N ps scope) (hd : A.handled = none) (e0 : Env0 P w K mg base A outer s H) (hl : vs.length = ps.length) (r : Vals vs us)
  (x : InCallC s s.heap.objs.size (bindL (envOfC qual scope s.heap.objs.size f cd).kindOf (ps.zip us) fun _ => none) (cellsFrom (s.heap.objs.size + 1) scope.names []) (bindC (envOfC qual scope s.heap.objs.size f cd).kindOf (ps.zip us) fun _ => none) s1) :
  Inv (cxOf CX P w K mg base N qual scope f cd A outer s H E) [] (start N vs) H s1 := by
 have hpl : ps.length ≤ N.length := by have := congrArg List.length S.pre; rw [List.length_take] at this; omega
 obtain ⟨h1, tk, rfl, hk⟩ := x.done
 have noA : ∀ b : Addr, b ∉ (cxOf CX P w K mg base N qual scope f cd A outer s H E).ex := fun b z => absurd (show b ∈ ([] : List Addr) from z) (by simp)
 refine ⟨⟨e0.mod, S.kind, rfl, rfl, Nat.le_refl _, fun y z c h1 h2 => ?_, fun y hy => ?_, fun y c _ h => ?_, fun _ => hd, Around.frames_deeper e0.frames, .inr ⟨rfl, rfl⟩, fun b z => absurd z (noA b), e0.bs, e0.bsz, fun b _ _ => noA b, fun b z => absurd z (noA b), e0.funs, e0.frf⟩,
  rfl, e0.bare, Un.kept hk, ⟨_, x.toInCall.ns, fun i y v h1 h2 h3 => ?_⟩, fun y c h => ⟨_, x.cell y c h⟩, e0.hok.fresh (Nat.le_refl _), fun y c h => ?_, fun p hp => absurd (show p ∈ ([] : List (Addr × Obj)) from hp) (by simp), e0.hok.kept hk, ?_⟩
 ·exact name_of_addr x.apart (PySem.mem_of_lookup h1) (PySem.mem_of_lookup h2)
 ·have hy : scope.names.lookup y = some .cell ∨ scope.names.lookup y = some .free := hy
  rcases hy with hy | hy
  ·exact cell_has hy
  ·exact absurd rfl (S.nofree _ (PySem.mem_of_lookup hy))
 ·exact Nat.le_of_lt (x.above y c (PySem.mem_of_lookup h))
 ·have hi : i < vs.length := by
   unfold start at h2
   by_cases hi : i < vs.length
   ·exact hi
   ·rw [List.getElem?_append_right (by simpa using hi)] at h2
    rw [List.getElem?_replicate] at h2
    split at h2 <;> cases h2
  have ha : vs[i]? = some v := by
   unfold start at h2
   rw [List.getElem?_append_left (by simpa using hi), List.getElem?_map] at h2
   cases e : vs[i]? with
   | none => rw [e] at h2; cases h2
   | some a => rw [e] at h2; cases h2; rfl
  obtain ⟨u, hu, rv⟩ := r.get ha
  have hp : ps[i]? = some y := by
   rw [← S.pre, List.getElem?_take_of_lt (by omega)]; exact h1
  have ndP : ps.Nodup := by rw [← S.pre]; exact S.nd.sublist (List.take_sublist _ _)
  refine ⟨u, rv, ?_⟩
  rcases S.par y (List.mem_of_getElem? hp) with k | k
  ·exact .inl ⟨k, bindL_get ndP hp hu k⟩
  ·obtain ⟨c, e⟩ := cell_has (n := s.heap.objs.size + 1) k
   refine .inr ⟨.inl k, c, e, ?_⟩
   have q := x.cell y c e
   rw [bindC_get ndP hp hu (by show scope.names.lookup y ≠ _; rw [k]; decide)] at q
   exact q
 ·exact e0.hok.fresh (Nat.le_of_lt (x.above y c (PySem.mem_of_lookup h)))
 ·unfold start
  show _ = N.length
  rw [List.length_append, List.length_map, List.length_replicate]
  omega
theorem fn_of {CX : CXT} {P : Program} {w : World} {K : PySem.W.Frag} {mg : Str → Option Value} {base : Heap} {k : Nat} {f : Addr} {name qual : Str} {params : Arguments} {body : List Stmt} {scope : Scope} {dV kV doc pm cdv ct oc : Value} {an od : Option Addr}
  {osl : Array (Option Value)} {N ps : List Str} {sp : Sp} (lk : K.lookup f = some ⟨oc, od, .func (PySem.W.fnOf name qual params body scope dV kV doc pm an cdv ct), osl⟩) (hcd : PySem.W.codeIn K cdv qual = true) (S : FnScope N ps scope)
  (len : ∀ vs H Q E, sp vs H Q E → vs.length = ps.length)
  (hbody : ∀ (A : Around) (outer : List Env) (s : Shared) (H : Hp) (vs : List V) (Q : VK) (E : XK), Room k (A.deeper (envOfC qual scope s.heap.objs.size f cdv)) → sp vs H Q E →
   ∃ t, PSs (cxOf CX P w K mg base N qual scope f cdv A outer s H E) body t ∧ t { nx := fun _ H' => Q .non H', rt := Q } (start N vs) H) :
  FnOk P w K mg base CX (k + 1) f (PySem.W.fnOf name qual params body scope dV kV doc pm an cdv ct) ps sp := by
 refine ⟨len, fun A outer s H args us vs Q E hr e0 hb r hsp => ?_⟩
 have hl := len _ _ _ _ hsp
 have KX : K.In s.heap := e0.mod.kin.keeps fun b o e => (e0.bs b o e).1
 have lim : s.heap.NoLimit := e0.mod.nolimit.keeps fun b o e => (e0.bs b o e).1
 have hkind : ∀ y ∈ ps.zip us, scope.names.lookup y.1 = some .local ∨ (scope.names.lookup y.1 = some .cell ∧ ((cellsFrom (s.heap.objs.size + 1) scope.names []).lookup y.1).isSome = true) := fun ⟨n, v⟩ hy => by
  rcases S.par n (List.of_mem_zip hy).1 with q | q
  ·exact .inl q
  ·exact .inr ⟨q, PySem.W.cellsFrom_some _ _ _ (.inl q)⟩
 refine codeAny_call_function hr.depth (KX _ _ lk) rfl S.co S.gen rfl (PySem.W.codeRec_of KX hcd) (hb _ _ _ _ ?_)
 refine wpAny_newFunctionEnv_cells S.kind hkind fun env he s1 x => ?_
 subst he
 refine ⟨lim.keeps x.toInCall.keep, codeAny_func ?_⟩
 obtain ⟨t, ht, hq⟩ := hbody A outer s H vs Q E (hr.deeper _) hsp
 have I : Inv (cxOf CX P w K mg base N qual scope f cdv A outer s H E) [] (start N vs) H s1 := inv_start S hr.hd e0 hl r x
 refine wpAny_mono (ht [] s1 (start N vs) H _ I hq) (fun fl s' hs => ?_) fun e s' hs => hs
 have fin : ∀ {σ' : St} {H' : Hp} {v : V} {u : Value}, Inv (cxOf CX P w K mg base N qual scope f cdv A outer s H E) [] σ' H' s' → RelV v u → Q v H' → CE outer P w H s Q u s' :=
  fun {σ' H' v u} J rv q => ⟨v, H', J.os, J.bare, J.base, J.hok, rv, q⟩
 cases fl with
 | ret u =>
  obtain ⟨v, σ', H', J, rv, q⟩ := hs
  exact fin J rv q
 | next =>
  obtain ⟨σ', H', J, q⟩ := hs
  exact fin (v := V.non) (u := Value.none) J rfl q
 | brk =>
  obtain ⟨_, _, _, q⟩ := hs
  exact False.elim q
 | cont =>
  obtain ⟨_, _, _, q⟩ := hs
  exact False.elim q
end L2
namespace L2
open PySem PySem.Spec PyProof.Rows
section
variable {X : Cx} {x : Str} {p pos : Pos} {e : Expr} {es : List Expr} {t : TA} {id T : String} {r : List V → Hp → VK → Prop}
def tCB (r : List V → Hp → VK → Prop) (t : TA) : TE := fun σ H Q => t σ H fun vs H1 => r vs H1 Q
theorem pe_callB (hc : CallR X (.builtin id) r) (hg : Gl X x) (hm : X.mg x = none) (hv : bootBuiltins x = some (.builtin id)) (ha : PA X (e :: es) t) (hn : x ≠ "__name__" := by decide) (hdb : (x == ("__debug__" : Str)) = false := by decide)
  (he : starEach (e :: es) X.env = (false, eval e X.env) :: starEach es X.env := by rfl) (hpl : (backTo pos (starEach es X.env)).any (·.1) = false := by rfl) : PE X (.Call (.Name x p) (e :: es) [] pos) (tCB r t) := by
 intro pins s σ H Q I h
 refine wpAny_Call_Name_kw (ld_blt I hg hm hv ?_ hn hdb)
 exact PyProof.Rows.callWith_builtin1 (thn (ha pos pins s σ H _ I h) fun us s1 ⟨vs, H1, I1, r1, q1⟩ => hc pins s1 σ H1 vs us Q I1 r1 q1) he hpl
theorem pe_callTy (hc : CallR X (.type T) r) (hg : Gl X x) (hm : X.mg x = none) (hv : bootBuiltins x = some (.type T)) (ha : PA X (e :: es) t) (hn : x ≠ "__name__" := by decide) (hdb : (x == ("__debug__" : Str)) = false := by decide)
  (he : starEach (e :: es) X.env = (false, eval e X.env) :: starEach es X.env := by rfl) (hpl : (backTo pos (starEach es X.env)).any (·.1) = false := by rfl) : PE X (.Call (.Name x p) (e :: es) [] pos) (tCB r t) := by
 intro pins s σ H Q I h
 refine wpAny_Call_Name_kw (ld_blt I hg hm hv ?_ hn hdb)
 exact PyProof.Rows.callWith_type1 (thn (ha pos pins s σ H _ I h) fun us s1 ⟨vs, H1, I1, r1, q1⟩ => hc pins s1 σ H1 vs us Q I1 r1 q1) he hpl
end
end L2
namespace HT
open PySem PyProof.Rows
section
open PySem.SeqAt
open PySem.AutoSeq1 (wpAny_loadPart')
open PySem.MeetsSeq PySem.MeetsSeq2 PySem.MeetsSeq3
end
section
variable {prog : Program} {w : World} {A : Around} {E : Value → Shared → Prop} {s : Shared}
def sIx (n d : Nat) : Option Int → Nat
 | none => d
 | some v => if v < 0 then (v + (n : Int)).toNat else min v.toNat n
theorem sIx_nat (n d k : Nat) : sIx n d (some (k : Int)) = min k n := by
 show (if (k : Int) < 0 then ((k : Int) + (n : Int)).toNat else min (k : Int).toNat n) = min k n
 rw [if_neg (by omega), Int.toNat_natCast]
end
end HT
namespace L2
open PySem PySem.Spec PyProof.Rows
abbrev TO := St → Hp → (Option Int → Hp → Prop) → Prop
def PO (X : Cx) (e : Option Expr) (t : TO) : Prop :=
 ∀ (pins : List (Addr × Obj)) (s : Shared) (σ : St) (H : Hp) (Q : Option Int → Hp → Prop), Inv X pins σ H s → t σ H Q →
  wpAny (model X.prog X.w) X.A (evalPart e X.env) (fun u s' => ∃ o H', Inv X pins σ H' s' ∧ IsPart u o ∧ Q o H') X.xe s
def tPart (t : TE) : TO := fun σ H Q => t σ H fun x H1 => ∃ i, x = .int i ∧ Q (some i) H1
theorem intsAre_of {ns : List Int} : ∀ {us : List Value}, Vals (ns.map V.int) us → IntsAre us ns := by
 induction ns with
 | nil => intro us r; rw [List.map_nil] at r; cases r; exact .nil
 | cons n ns ih =>
  intro us r
  rw [List.map_cons] at r
  cases r with
  | cons r1 r2 =>
   obtain ⟨t, e⟩ := r1
   subst e
   exact .cons n t (ih r2)
section
variable {X : Cx} {e : Expr} {te : TE} {lo hi : Option Expr} {tl th : TO} {pos p2 : Pos}
theorem po_some (h : PE X e te) : PO X (some e) (tPart te) := by
 intro pins s σ H Q I hw
 rw [evalPart_some]
 refine thn (h pins s σ H _ I hw) fun u s1 ⟨x, H1, I1, r1, q1⟩ => ?_
 obtain ⟨i, rfl, q⟩ := q1
 obtain ⟨t, rfl⟩ := r1
 exact ⟨some i, H1, I1, .int i t, q⟩
def SlR (X : Cx) (r : V → Option Int → Option Int → Hp → VK → Prop) : Prop :=
 ∀ (pins : List (Addr × Obj)) (s : Shared) (σ : St) (H : Hp) (x : V) (v vl vu : Value) (lo hi : Option Int) (sl : Addr) (Q : VK), Inv X pins σ H s → RelV x v → s.heap.IsSliceOf sl vl vu .none → IsPart vl lo → IsPart vu hi → r x lo hi H Q →
  ∃ T id, typeLookup (.type T) "__getitem__" = pure (some (.builtin id)) ∧ s.TypeIs v T ∧ wpAny (model X.prog X.w) X.A (getItem v (.ref sl)) (EP X pins σ Q) X.xe s
def tSl (r : V → Option Int → Option Int → Hp → VK → Prop) (te : TE) (tl th : TO) : TE := fun σ H Q => te σ H fun x H1 => tl σ H1 fun l H2 => th σ H2 fun u H3 => r x l u H3 Q
theorem pe_slice {r : V → Option Int → Option Int → Hp → VK → Prop} (hr : SlR X r) (he : PE X e te) (hl : PO X lo tl) (hu : PO X hi th) : PE X (.Subscript e (.Slice lo hi none p2) pos) (tSl r te tl th) := by
 intro pins s σ H Q I h
 refine Subscript_ (thn (he pins s σ H _ I h) fun v s1 ⟨x, H1, I1, r1, q1⟩ => ?_)
 refine wpAny_Slice (thn (hl pins s1 σ H1 _ I1 q1) fun vl s2 ⟨l, H2, I2, pl, q2⟩ => thn (hu pins s2 σ H2 _ I2 q2) fun vu s3 ⟨u, H3, I3, pu, q3⟩ => ?_)
 rw [evalPart_none]
 refine wpAny_pure ?_
 have I4 : Inv X pins σ H3 { s3 with heap := s3.heap.push { cls := .type "slice", data := .fields #[vl, vu, .none] } } := I3.kept (t' := s3.toks) fun b ob q => Heap.get?_push_of_some _ q
 obtain ⟨T, id, hT, ht, hg⟩ := hr pins { s3 with heap := s3.heap.push { cls := .type "slice", data := .fields #[vl, vu, .none] } } σ H3 x v vl vu l u s3.heap.objs.size Q I4 r1 (Heap.IsSliceOf.new ..) pl pu q3
 show wpAny (model X.prog X.w) X.A (subscriptTail e (.Slice lo hi none p2) v (.ref s3.heap.objs.size)) (EP X pins σ Q) X.xe { s3 with heap := s3.heap.push { cls := .type "slice", data := .fields #[vl, vu, .none] } }
 exact tail_any (ops := [.ref s3.heap.objs.size, v]) ht hT hg (by with_unfolding_all rfl)
def cutV (xs : List V) (lo hi : Option Int) : List V := (xs.drop (HT.sIx xs.length 0 lo)).take (HT.sIx xs.length xs.length hi - HT.sIx xs.length 0 lo)
theorem cutV_length (xs : List V) (lo hi : Option Int) : (cutV xs lo hi).length ≤ xs.length := by
 unfold cutV
 rw [List.length_take, List.length_drop]
 omega
end
end L2
namespace L2
open PySem PySem.Spec PyProof.Rows
def ixN (n : Nat) (i : Int) : Option Nat := if 0 ≤ i then (if i < n then some i.toNat else none) else if -(n : Int) ≤ i then some (i + n).toNat else none
def atI {α : Type} (xs : List α) (i : Int) : Option α := (ixN xs.length i).bind fun j => xs[j]?
theorem ixN_seq {n : Nat} {i : Int} {j : Nat} (h : ixN n i = some j) : seqIndex? i n = some j ∧ j < n ∧ -(n : Int) ≤ i ∧ i < n := by
 unfold ixN at h
 by_cases h0 : 0 ≤ i
 ·rw [if_pos h0] at h
  by_cases h1 : i < n
  ·rw [if_pos h1] at h
   have e : i.toNat = j := Option.some.inj h
   exact ⟨by rw [seqIndex_of h0 h1, e], by omega, by omega, h1⟩
  ·rw [if_neg h1] at h; cases h
 ·rw [if_neg h0] at h
  by_cases h1 : -(n : Int) ≤ i
  ·rw [if_pos h1] at h
   have e : (i + n).toNat = j := Option.some.inj h
   exact ⟨by rw [seqIndex_neg (by omega) h1, e], by omega, h1, by omega⟩
  ·rw [if_neg h1] at h; cases h
theorem atI_get {α : Type} {xs : List α} {i : Int} {v : α} (h : atI xs i = some v) : ∃ j, seqIndex? i xs.length = some j ∧ xs[j]? = some v ∧ j < xs.length ∧ -(xs.length : Int) ≤ i ∧ i < xs.length := by
 unfold atI at h
 cases e : ixN xs.length i with
 | none => rw [e] at h; cases h
 | some j =>
  rw [e] at h
  obtain ⟨h1, h2, h3, h4⟩ := ixN_seq e
  exact ⟨j, h1, h, h2, h3, h4⟩
theorem atI_nat {α : Type} {xs : List α} {j : Nat} {v : α} (h : xs[j]? = some v) : atI xs (j : Int) = some v := by
 have hj : j < xs.length := (List.getElem?_eq_some_iff.mp h).1
 have e : ixN xs.length (j : Int) = some j := by
  unfold ixN
  rw [if_pos (by omega), if_pos (by omega)]; simp
 unfold atI; rw [e]; exact h
def PlainIx (b : Expr) : Prop := ∀ o i, subscripted b false o i = operate [o, i] (getItem o i)
def IxR (X : Cx) (r : R2) : Prop :=
 ∀ (value slice : Expr) (pins : List (Addr × Obj)) (s : Shared) (σ : St) (H : Hp) (x y : V) (v u : Value) (Q : VK), Inv X pins σ H s → RelV x v → RelV y u → r x y H Q →
  subscripted slice false v u = operate [v, u] (getItem v u) → wpAny (model X.prog X.w) X.A (subscriptTail value slice v u) (EP X pins σ Q) X.xe s
def MtR (X : Cx) (id : String) (r : V → List V → Hp → VK → Prop) : Prop :=
 ∀ (pins : List (Addr × Obj)) (s : Shared) (σ : St) (H : Hp) (x : V) (xs : List V) (v : Value) (us : List Value) (Q : VK), Inv X pins σ H s → RelV x v → Vals xs us → r x xs H Q →
  wpAny (model X.prog X.w) X.A (call (.builtin id) (v :: us)) (EP X pins σ Q) X.xe s
section
variable {X : Cx} {a b : Expr} {ta tb : TE} {pos : Pos}
theorem pe_ix {r : R2} (hr : IxR X r) (ha : PE X a ta) (hb : PE X b tb) (hs : PlainIx b) : PE X (.Subscript a b pos) (tOp r ta tb) := by
 intro pins s σ H Q I h
 exact Subscript_ (binT ha hb I h fun v u s2 x y H2 I2 rx ry q => hr a b pins s2 σ H2 x y v u Q I2 rx ry q (hs _ _))
def rIxL (K : PySem.W.Frag) : R2 := fun x y H Q => ∃ p xs i v, x = .ref p ∧ y = .int i ∧ SqL K H p xs ∧ atI xs i = some v ∧ Q v H
def rIxT (K : PySem.W.Frag) : R2 := fun x y H Q => ∃ p xs i v, x = .ref p ∧ y = .int i ∧ SqT K H p xs ∧ atI xs i = some v ∧ Q v H
theorem ix_list : IxR X (rIxL X.K) := by
 intro value slice pins s σ H x y v u Q I rx ry h hs
 obtain ⟨p, xs, i, z, rfl, rfl, hq, he, q⟩ := h
 cases rx
 obtain ⟨t, rfl⟩ := ry
 obtain ⟨its, r, pl, hz⟩ := I.list hq
 obtain ⟨j, h1, h2, h3, h4, h5⟩ := atI_get he
 obtain ⟨w, ew, rw'⟩ := r.get h2
 have hl := r.length
 have hn := line63
 have fin : EP X pins σ Q w s := ⟨z, H, I, rw', q⟩
 by_cases h0 : 0 ≤ i
 ·have hj : i.toNat = j := by
   rw [seqIndex_of h0 h5] at h1
   exact Option.some.inj h1
  exact item_listR pl.isList h0 (by omega) (by rw [hj]; simpa using ew) fin hs
 ·have hj : (i + (its.toArray.size : Int)).toNat = j := by
   rw [seqIndex_neg (by omega) h4] at h1
   rw [List.size_toArray, ← hl]
   exact Option.some.inj h1
  exact subscriptTail_builtinR (x := w) pl.isList.typeIs slot_list_getitem.lookup
   (wpAny_getItem_list_neg (Q := fun r s' => r = w ∧ EP X pins σ Q r s') pl.isList (by omega) (by rw [List.size_toArray] <;> omega) (by omega) (by rw [hj]; simpa using ew) ⟨rfl, fin⟩) hs
theorem ix_tup : IxR X (rIxT X.K) := by
 intro value slice pins s σ H x y v u Q I rx ry h hs
 obtain ⟨p, xs, i, z, rfl, rfl, hq, he, q⟩ := h
 cases rx
 obtain ⟨t, rfl⟩ := ry
 obtain ⟨its, r, pl, hz⟩ := I.tuple hq
 obtain ⟨j, h1, h2, h3, h4, h5⟩ := atI_get he
 obtain ⟨w, ew, rw'⟩ := r.get h2
 have hl := r.length
 have hn := line63
 have fin : EP X pins σ Q w s := ⟨z, H, I, rw', q⟩
 exact subscriptTail_builtinR (x := w) pl.typeIs slot_tuple_getitem.lookup
  (getItem_tuple (j := j) (Q := fun r s' => r = w ∧ EP X pins σ Q r s') pl (by omega) (by omega) (by rw [List.size_toArray, ← hl]; exact h1) (by simpa using ew) ⟨rfl, fin⟩) hs
theorem mapSeq_set (its : List Value) (n j : Nat) (u : Value) : Obj.mapSeq (·.setIfInBounds j u) { cls := .type "list", data := .seq its.toArray n } = { cls := .type "list", data := .seq (its.set j u).toArray n } := by
 simp [Obj.mapSeq]
theorem Inv.lst {pins : List (Addr × Obj)} {σ : St} {H : Hp} {s : Shared} {p : Addr} {xs : List V} (I : Inv X pins σ H s) (h : H p = some (.lst xs)) :
  ∃ (its : List Value) (n : Nat), Vals xs its ∧ s.heap.get? p = some { cls := .type "list", data := .seq its.toArray n } ∧ xs.length ≤ sizeLine := by
 obtain ⟨z, its, n, r, e⟩ := I.hok p _ h
 exact ⟨its, n, r, e, z⟩
theorem Inv.lstUpd {pins : List (Addr × Obj)} {σ : St} {H : Hp} {s : Shared} {p : Addr} {xs ys : List V} {its its' : List Value} {n n' : Nat} {f : Obj → Obj} (I : Inv X pins σ H s) (h : H p = some (.lst xs))
  (ho : s.heap.get? p = some { cls := .type "list", data := .seq its.toArray n }) (hf : f { cls := .type "list", data := .seq its.toArray n } = { cls := .type "list", data := .seq its'.toArray n' }) (r : Vals ys its') (hz : ys.length ≤ sizeLine) (t : Nat) :
  Inv X pins σ (upd H p (.lst ys)) { s with heap := s.heap.update p f, toks := t } := by
 have e : (s.heap.update p f).get? p = some { cls := .type "list", data := .seq its'.toArray n' } := by
  rw [Heap.get?_update_self f ho (by rw [hf] <;> rfl), hf]
 refine I.write (x := p) (e := p) (by rw [h]; trivial) (.inl rfl) (fun b u hb q => (Heap.get?_update_other _ _ (Ne.symm hb)).trans q) ⟨_, e⟩ ?_
 exact ⟨hz, its', n', r, e⟩
def rSetL : V → V → V → Hp → (Hp → Prop) → Prop := fun o i v H Q => ∃ p xs k j, o = .ref p ∧ i = .int k ∧ H p = some (.lst xs) ∧ ixN xs.length k = some j ∧ Q (upd H p (.lst (xs.set j v)))
theorem set_list : PSet X rSetL := by
 intro pins s σ H o i v ov iv u Q I ro ri rv h
 obtain ⟨p, xs, k, j, rfl, rfl, hp, hj, q⟩ := h
 cases ro
 obtain ⟨t, rfl⟩ := ri
 obtain ⟨its, n, r, ho, hz⟩ := I.lst hp
 obtain ⟨h1, h2, h3, h4⟩ := ixN_seq hj
 have hl := r.length
 have hn := line63
 have I' : Inv X pins σ (upd H p (.lst (xs.set j v))) { s with heap := s.heap.update p (Obj.mapSeq (·.setIfInBounds j u)) } :=
  I.lstUpd hp ho (mapSeq_set its n j u) (r.set rv j) (by rw [List.length_set]; exact hz) s.toks
 by_cases h0 : 0 ≤ k
 ·have hk : k.toNat = j := by
   rw [seqIndex_of h0 h4] at h1
   exact Option.some.inj h1
  exact PySem.W.ki_setAt ho h0 (by omega) (by rw [List.size_toArray, ← hl]; exact h4) (by rw [hk]; exact ⟨_, I', q⟩)
 ·have hk : (k + (its.toArray.size : Int)).toNat = j := by
   rw [seqIndex_neg (by omega) h3] at h1
   rw [List.size_toArray, ← hl]
   exact Option.some.inj h1
  exact PySem.W.ki_setBack ho (by omega) (by rw [List.size_toArray, ← hl]; exact h3) (by omega) (by rw [hk]; exact ⟨_, I', q⟩)
theorem slice_bounds (lo hi : Option Int) (n : Nat) : (sliceBounds lo hi none n).1 = ((HT.sIx n 0 lo : Nat) : Int) ∧ (sliceBounds lo hi none n).2.1 = ((HT.sIx n n hi : Nat) : Int) ∧ (sliceBounds lo hi none n).2.2 = 1 := by
 refine ⟨?_, ?_, rfl⟩
 ·cases lo with
  | none => simp [sliceBounds, HT.sIx]
  | some i =>
   simp only [sliceBounds, HT.sIx, Option.getD_none, show (1 : Int) > 0 by decide, if_true]
   by_cases h : i < 0
   ·simp only [h, if_true] <;> omega
   ·simp only [h, if_false] <;> omega
 ·cases hi with
  | none => simp [sliceBounds, HT.sIx]
  | some i =>
   simp only [sliceBounds, HT.sIx, Option.getD_none, show (1 : Int) > 0 by decide, if_true]
   by_cases h : i < 0
   ·simp only [h, if_true] <;> omega
   ·simp only [h, if_false] <;> omega
theorem slicePick_cut (its : List Value) (lo hi : Option Int) : slicePick its.toArray lo hi none = ((its.drop (HT.sIx its.length 0 lo)).take (HT.sIx its.length its.length hi - HT.sIx its.length 0 lo)).toArray := by
 obtain ⟨h1, h2, h3⟩ := slice_bounds lo hi its.toArray.size
 unfold slicePick
 rw [h1, h2, h3]
 simp only [sliceRange_one, pick_run, List.size_toArray] <;> rfl
def rSlL (K : PySem.W.Frag) : V → Option Int → Option Int → Hp → VK → Prop := fun x lo hi H Q => ∃ a xs, x = .ref a ∧ SqL K H a xs ∧ ∀ p, H p = none → Q (.ref p) (upd H p (.lst (cutV xs lo hi)))
theorem sl_list : SlR X (rSlL X.K) := by
 intro pins s σ H x v vl vu lo hi sl Q I rx hs pl pu h
 obtain ⟨a, xs, rfl, hx, q⟩ := h
 cases rx
 obtain ⟨its, r, ht, hz⟩ := I.list hx
 have hlen := r.length
 refine ⟨"list", _, slot_list_getitem.lookup, ht.isList.typeIs, ?_⟩
 refine wpAny_getItem_list_slice ht.isList hs pl pu .none (by simp) ?_ (by rw [List.size_toArray] <;> omega)
 rw [slicePick_cut, ← hlen]
 refine ⟨.ref s.heap.objs.size, _, I.laid (t' := s.toks) (o := .lst (cutV xs lo hi)) (fun b ob q => Heap.get?_push_of_some _ q) (Nat.le_refl _) ?_, rfl, q _ (I.hok.fresh (Nat.le_refl _))⟩
 exact ⟨Nat.le_trans (cutV_length xs lo hi) hz, _, 0, (r.drop (HT.sIx xs.length 0 lo)).take (HT.sIx xs.length xs.length hi - HT.sIx xs.length 0 lo), Heap.get?_push_size _ rfl⟩
theorem call_len_seq : CallR X (.builtin "len") (fun xs H Q => ∃ p ys, xs = [.ref p] ∧ (SqL X.K H p ys ∨ SqT X.K H p ys) ∧ Q (.int ys.length) H) := by
 intro pins s σ H xs us Q I r h
 obtain ⟨p, ys, rfl, hq, q⟩ := h
 obtain ⟨u, rfl, rx⟩ := vals1 r
 cases rx
 have hn := line63
 rcases hq with hq | hq
 ·obtain ⟨its, r', pl, hz⟩ := I.list hq
  have hlen := r'.length
  exact Calls.call_len_list pl.isList (by simp only [List.size_toArray] <;> omega) ⟨.int ys.length, H, I.tok _, ⟨s.toks + 1, by rw [List.size_toArray, hlen]⟩, q⟩
 ·obtain ⟨its, r', pl, hz⟩ := I.tuple hq
  have hlen := r'.length
  exact len_tuple pl (by simp only [List.size_toArray] <;> omega) ⟨.int ys.length, H, I.tok _, ⟨s.toks + 1, by rw [List.size_toArray, hlen]⟩, q⟩
theorem call_list_of : CallR X (.type "list") (fun xs H Q => ∃ p ys, xs = [.ref p] ∧ (SqL X.K H p ys ∨ SqT X.K H p ys) ∧ ∀ l, H l = none → Q (.ref l) (upd H l (.lst ys))) := by
 intro pins s σ H xs us Q I r h
 obtain ⟨p, ys, rfl, hq, q⟩ := h
 obtain ⟨u, rfl, rx⟩ := vals1 r
 cases rx
 have fin : ∀ (its : List Value), Vals ys its → ys.length ≤ sizeLine → ∀ (h' : Heap) (c' : Nat), (∀ b o', s.heap.get? b = some o' → h'.get? b = some o') →
   h'.get? s.heap.objs.size = some { cls := .type "list", dict := none, data := .seq its.toArray c', slots := #[] } → EP X pins σ Q (.ref s.heap.objs.size) { s with heap := h' } := fun its r' hz h' c' kp e =>
  ⟨.ref s.heap.objs.size, _, I.laid (t' := s.toks) kp (Nat.le_refl _) (show ObjOk X.prog X.w _ h' _ (.lst ys) from ⟨hz, its, c', r', e⟩), rfl, q _ (I.hok.fresh (Nat.le_refl _))⟩
 rcases hq with hq | hq
 ·obtain ⟨its, r', pl, hz⟩ := I.list hq
  have hlen := r'.length
  obtain ⟨o, ho, hc, n, hd⟩ := pl.isList
  exact call_list_seq p (.inl rfl) ho hc hd (fun h' c' kp e => fin its r' hz h' c' kp e) (by simp only [List.size_toArray] <;> omega)
 ·obtain ⟨its, r', pl, hz⟩ := I.tuple hq
  have hlen := r'.length
  obtain ⟨o, ho, hc, n, hd⟩ := pl
  exact call_list_seq p (.inr rfl) ho hc hd (fun h' c' kp e => fin its r' hz h' c' kp e) (by simp only [List.size_toArray] <;> omega)
def tyV (K : PySem.W.Frag) (T : String) (x : V) (H : Hp) : Prop := match x with
 | .str _ => T = "str"
 | .int _ => T = "int"
 | .ref p => (T = "list" ∧ ∃ xs, SqL K H p xs) ∨ (T = "tuple" ∧ ∃ o, K.lookup p = some o ∧ o.cls = .type "tuple" ∧ o.dict = none) ∨
   (T = "dict" ∧ ((∃ kvs, H p = some (.dK kvs)) ∨ ∃ kvs, H p = some (.dT kvs))) ∨ (T = "set" ∧ ∃ S n, H p = some (.set S n))
 | _ => False
theorem tyV_is {pins : List (Addr × Obj)} {σ : St} {H : Hp} {s : Shared} {T : String} {x : V} {v : Value} (I : Inv X pins σ H s) (r : RelV x v) (ty : tyV X.K T x H) :
  s.TypeIs v T ∧ ∀ a, v = .ref a → ∃ ob, s.heap.get? a = some ob ∧ ob.dict = none := by
 cases x with
 | str z =>
  obtain ⟨t, rfl⟩ := r
  cases (show T = "str" from ty)
  exact ⟨typeIs_str s z t, fun _ e => nomatch e⟩
 | int i =>
  obtain ⟨t, rfl⟩ := r
  cases (show T = "int" from ty)
  exact ⟨typeIs_int s i t, fun _ e => nomatch e⟩
 | ref p =>
  cases r
  rcases ty with ⟨rfl, xs, hq⟩ | ⟨rfl, o, hk, hc, hd⟩ | ⟨rfl, hk⟩ | ⟨rfl, S, n, hk⟩
  ·obtain ⟨its, _, pl, _⟩ := I.list hq
   refine ⟨pl.isList.typeIs, fun a e => ?_⟩
   cases e
   obtain ⟨o, n, e, c, hd, _⟩ := pl
   exact ⟨o, e, hd⟩
  ·refine ⟨⟨o, I.kIn p o hk, hc⟩, fun a e => ?_⟩
   cases e
   exact ⟨o, I.kIn _ o hk, hd⟩
  ·have z : ∃ o, s.heap.get? p = some o ∧ o.ExactDict := by
    rcases hk with ⟨kvs, hk⟩ | ⟨kvs, hk⟩
    ·obtain ⟨_, _, _, _, o, _, _, e, ex, _⟩ := I.hok p _ hk
     exact ⟨o, e, ex⟩
    ·obtain ⟨_, _, _, _, o, _, _, e, ex, _⟩ := I.hok p _ hk
     exact ⟨o, e, ex⟩
   obtain ⟨o, e, ex⟩ := z
   refine ⟨⟨o, e, ex.1⟩, fun a e2 => ?_⟩
   cases e2
   exact ⟨o, e, ex.2.1⟩
  ·obtain ⟨o, _, _, _, e, ex, _⟩ := I.hok p _ hk
   refine ⟨⟨o, e, ex.1⟩, fun a e2 => ?_⟩
   cases e2
   exact ⟨o, e, ex.2.1⟩
 | _ => exact False.elim ty
def tBM0 (K : PySem.W.Frag) (T : String) (r : V → List V → Hp → VK → Prop) (to : TE) : TE := fun σ H Q => to σ H fun x H1 => tyV K T x H1 ∧ r x [] H1 Q
def tBM (K : PySem.W.Frag) (T : String) (r : V → List V → Hp → VK → Prop) (to : TE) (t : TA) : TE := fun σ H Q => to σ H fun x H1 => tyV K T x H1 ∧ t σ H1 fun xs H2 => r x xs H2 Q
variable {o e : Expr} {es : List Expr} {to : TE} {t : TA} {name : Str} {apos cpos : Pos} {T id : String} {r : V → List V → Hp → VK → Prop}
theorem pe_bm0 (pa : PlainAttrs T) (slot : Slot T name id) (hty : typeOf (.builtin id) = pure (.type "method_descriptor")) (hm : MtR X id r) (ho : PE X o to)
  (hbase : attributeBase o name X.env (eval o X.env) = eval o X.env := by rfl) (hline : (apos.endLine == cpos.line) = true := by rfl) : PE X (.Call (.Attribute o name apos) [] [] cpos) (tBM0 X.K T r to) := by
 intro pins s σ H Q I h
 refine wpAny_Call_method0_late hbase hline (thn (ho pins s σ H _ I h) fun v s1 ⟨x, H1, I1, r1, ty, q1⟩ => ?_)
 obtain ⟨h1, h2⟩ := tyV_is I1 r1 ty
 exact ⟨T, id, pa, slot, hty, h1, h2, Calls.callWith_builtin rfl (PySem.evalArgs_none (hm pins s1 σ H1 x [] v [] Q I1 r1 .nil q1))⟩
theorem pe_bm (pa : PlainAttrs T) (slot : Slot T name id) (hty : typeOf (.builtin id) = pure (.type "method_descriptor")) (hm : MtR X id r) (ho : PE X o to) (ha : PA X (e :: es) t)
  (hbase : attributeBase o name X.env (eval o X.env) = eval o X.env := by rfl)
  (hfew : ((backTo cpos (starEach (e :: es) X.env)).all (fun x => !x.1) && (backToKw cpos (keywordEach [] X.env)).all (fun x => x.1.isSome)
   && decide ((e :: es).length + ([] : List Keyword).length + (if ([] : List Keyword).isEmpty then 0 else 1) < 30)) = true := by rfl)
  (hline : (apos.endLine == cpos.line) = true := by rfl) (hs : starEach (e :: es) X.env = (false, eval e X.env) :: starEach es X.env := by rfl) (hplain : (backTo cpos (starEach es X.env)).any (·.1) = false := by rfl) :
  PE X (.Call (.Attribute o name apos) (e :: es) [] cpos) (tBM X.K T r to t) := by
 intro pins s σ H Q I h
 refine wpAny_Call_method_late hbase hfew hline rfl (thn (ho pins s σ H _ I h) fun v s1 ⟨x, H1, I1, r1, ty, q1⟩ => ?_)
 obtain ⟨h1, h2⟩ := tyV_is I1 r1 ty
 refine ⟨T, id, pa, slot, hty, h1, h2, ?_⟩
 have hA := ha cpos pins s1 σ H1 _ I1 q1
 rw [hs] at hA ⊢
 refine Calls.callWith_builtin (by show (false || (backTo cpos (starEach es X.env)).any (·.1)) = false; rw [hplain] <;> rfl) (Calls.evalArgs_plain ?_)
 exact thn hA fun us s2 ⟨vs, H2, I2, r2, q2⟩ => hm pins s2 σ H2 x vs v us Q I2 r1 r2 q2
/- xs.append(e), list.index on a module's tuple .. are MtR facts of 06m -/
end
end L2
namespace L2
open PySem PySem.Spec PyProof.Rows
def MtM (X : Cx) (id : String) (r : V → List V → Hp → VK → Prop) : Prop :=
 ∀ (pins : List (Addr × Obj)) (s : Shared) (σ : St) (H : Hp) (x : V) (xs : List V) (v : Value) (us : List Value) (Q : VK), Inv X pins σ H s → RelV x v → Vals xs us → r x xs H Q →
  wpAny (model X.prog X.w) X.A (call (.builtin id) (v :: us)) (EP X pins σ Q) X.xe s
theorem Vals.one : ∀ {x : V} {us : List Value}, Vals [x] us → ∃ u, us = [u] ∧ RelV x u
 | _, _, .cons r .nil => ⟨_, rfl, r⟩
theorem Vals.two : ∀ {x y : V} {us : List Value}, Vals [x, y] us → ∃ u v, us = [u, v] ∧ RelV x u ∧ RelV y v
 | _, _, _, .cons r (.cons q .nil) => ⟨_, _, rfl, r, q⟩
theorem Vals.zero : ∀ {us : List Value}, Vals [] us → us = []
 | _, .nil => rfl
theorem Vals.dropLast {xs : List V} {us : List Value} (h : Vals xs us) : Vals xs.dropLast us.dropLast := by
 induction h with
 | nil => exact .nil
 | cons r t ih =>
  cases t with
  | nil => exact .nil
  | cons q t' => exact .cons r ih
theorem erase_last {α : Type} (l : List α) : l.eraseIdx (l.length - 1) = l.dropLast := by
 induction l with
 | nil => rfl
 | cons a r ih =>
  cases r with
  | nil => rfl
  | cons b r =>
   have e : (a :: b :: r).length - 1 = ((b :: r).length - 1) + 1 := by
    have h1 : (a :: b :: r).length = r.length + 2 := rfl
    have h2 : (b :: r).length = r.length + 1 := rfl
    omega
   rw [e, List.eraseIdx_cons_succ, ih]
   all_goals rfl
section
variable {X : Cx} {pins : List (Addr × Obj)} {σ : St} {H : Hp} {s : Shared} {l b : Addr} {xs ys zs : List V}
theorem Inv.lset {its its' : List Value} {n : Nat} {f : Array Value → Array Value} {t' : Nat} (I : Inv X pins σ H s) (hH : H l = some (.lst xs))
  (e : s.heap.get? l = some { cls := .type "list", data := .seq its.toArray n }) (hf : f its.toArray = its'.toArray) (hv : Vals ys its') (hz : ys.length ≤ sizeLine) :
  Inv X pins σ (upd H l (.lst ys)) { s with heap := s.heap.update l (Obj.mapSeq f), toks := t' } := by
 have q := PySem.IsL.update e f
 rw [hf] at q
 refine I.write (x := l) (e := l) (by rw [hH]; exact trivial) (.inl rfl) (fun b' u hb hu => (Heap.get?_update_other s.heap (Obj.mapSeq f) (Ne.symm hb)).trans hu) ⟨_, q⟩ ?_
 exact ⟨hz, its', _, hv, q⟩
theorem Inv.lnew {its : List Value} {t' : Nat} (I : Inv X pins σ H s) (hv : Vals ys its) (hz : ys.length ≤ sizeLine) :
  Inv X pins σ (upd H s.heap.objs.size (.lst ys)) { s with heap := s.heap.push { cls := .type "list", data := .seq its.toArray }, toks := t' } :=
 I.laid (fun _ _ q => Heap.get?_push_of_some _ q) (Nat.le_refl _) ⟨hz, its, 0, hv, Heap.get?_push_size _ rfl⟩
theorem Inv.fresh (I : Inv X pins σ H s) : H s.heap.objs.size = none := I.hok.fresh (Nat.le_refl _)
theorem Inv.lstM (I : Inv X pins σ H s) (hH : H l = some (.lst xs)) : xs.length ≤ sizeLine ∧ ∃ (its : List Value) (n : Nat), Vals xs its ∧ xs.length = its.length ∧ s.heap.get? l = some { cls := .type "list", data := .seq its.toArray n } := by
 obtain ⟨z, its, n, r, e⟩ := I.hok l _ hH
 exact ⟨z, its, n, r, r.length, e⟩
end
section
variable {X : Cx}
def rAppend : V → List V → Hp → VK → Prop := fun x vs H Q => ∃ l xs y, x = .ref l ∧ vs = [y] ∧ H l = some (.lst xs) ∧ xs.length < sizeLine ∧ Q .non (upd H l (.lst (xs ++ [y])))
theorem mt_append : MtM X "list.append" rAppend := by
 intro pins s σ H x vs v us Q I rx rv h
 obtain ⟨l, xs, y, rfl, rfl, hH, hz, q⟩ := h
 cases rx
 obtain ⟨u, rfl, ru⟩ := rv.one
 obtain ⟨z, its, n, r, hl, e⟩ := I.lstM hH
 refine call_meets F.slot_list_append ⟨_, e, rfl⟩ F.entry_list_append (F.args_list_append_2 _ _) (PySem.list_append l its.toArray n u (by rw [List.size_toArray]; omega)) ⟨e, ?_⟩
 refine ⟨.non, _, I.lset (its' := its ++ [u]) hH e (by simp) (r.append (.cons ru .nil)) ?_, rfl, q⟩
 rw [List.length_append, List.length_singleton]
 omega
def rPop : V → List V → Hp → VK → Prop := fun x vs H Q => ∃ l xs y, x = .ref l ∧ vs = [] ∧ H l = some (.lst xs) ∧ xs[xs.length - 1]? = some y ∧ Q y (upd H l (.lst xs.dropLast))
theorem mt_pop : MtM X "list.pop" rPop := by
 intro pins s σ H x vs v us Q I rx rv h
 obtain ⟨l, xs, y, rfl, rfl, hH, hy, q⟩ := h
 cases rx
 have hus := rv.zero
 subst hus
 obtain ⟨z, its, n, r, hl, e⟩ := I.lstM hH
 obtain ⟨u, hu, ru⟩ := r.get hy
 have hy' : its.toArray[its.toArray.size - 1]? = some u := by
  show its.toArray[its.length - 1]? = some u
  rw [← Array.getElem?_toList, ← hl]
  exact hu
 refine call_meets F.slot_list_pop ⟨_, e, rfl⟩ F.entry_list_pop (F.args_list_pop_1 _) (MeetsSeq.list_pop_last l its.toArray n u hy' (by rw [List.size_toArray]; omega)) ⟨e, ?_⟩
 refine ⟨y, _, I.lset (its' := its.dropLast) hH e ?_ r.dropLast ?_, ru, q⟩
 ·show its.toArray.eraseIdxIfInBounds (its.toArray.size - 1) = its.dropLast.toArray
  rw [List.size_toArray, List.eraseIdxIfInBounds_toArray, erase_last]
 ·rw [List.length_dropLast]
  omega
def rCat : R2 := fun x y H Q => ∃ l b xs zs, x = .ref l ∧ y = .ref b ∧ H l = some (.lst xs) ∧ H b = some (.lst zs) ∧ xs.length + zs.length ≤ sizeLine ∧ ∀ p, H p = none → Q (.ref p) (upd H p (.lst (xs ++ zs)))
theorem op_cat : OpR X (binaryOp .Add) rCat := by
 intro pins s σ H x y v u Q I rx ry h
 obtain ⟨l, b, xs, zs, rfl, rfl, hH, hB, hz, q⟩ := h
 cases rx
 cases ry
 obtain ⟨z, its, n, r, hl, e⟩ := I.lstM hH
 obtain ⟨z2, its2, n2, r2, hl2, e2⟩ := I.lstM hB
 refine PySem.P.add_list e e2 ?_ (by rw [List.size_toArray, List.size_toArray]; omega)
 have ea : its.toArray ++ its2.toArray = (its ++ its2).toArray := by simp
 rw [ea]
 exact ⟨.ref _, _, I.lnew (t' := s.toks) (r.append r2) (by rw [List.length_append]; omega), rfl, q _ I.fresh⟩
end
section
variable {prog : Program} {w : World} {A : Around} {E : Value → Shared → Prop} {s : Shared}
end
section
variable {X : Cx}
end
end L2
namespace Att
open PySem PySem.W PySem.Calls PyProof.Rows
theorem ints_of_wellAll {P : Params} {h : Heap} : ∀ (ns : List Int) (vs : List Value), WellAll P h vs (ns.map WData.int) → IntsAre vs ns := by
 intro ns
 induction ns with
 | nil =>
  intro vs w
  rw [List.map_nil] at w
  cases w
  exact .nil
 | cons n ns ih =>
  intro vs w
  rw [List.map_cons] at w
  cases w with
  | cons a b =>
   cases a
   exact .cons _ _ (ih _ b)
theorem script_of {l : OpenLaw} {n : Nat} (hn : l.most = some n) {P : Params} {h : Heap} {args : List WData} {vals : List Value}
  (hpre : l.row.toRowW.claim.pre args = true) (hwl : WellAll P h vals args) :
  ∃ a vs ns, vals = [Value.ref a] ∧ args = [WData.list (ns.map WData.int)] ∧ h.get? a = some { cls := .type "list", data := .seq vs.toArray } ∧ IntsAre vs ns ∧ ns.length ≤ n := by
 have hsh : WShape.hasAll [] args [.list .int] = true := (pre_splitW hpre).1
 have hc : l.pre.holds [] { args := args } = true := (pre_splitW hpre).2
 obtain ⟨d, r, rfl, h1, h2⟩ := hasAllW_cons hsh
 obtain rfl := hasAllW_nil h2
 obtain ⟨xs, rfl, h3⟩ := hasW_list h1
 obtain ⟨ns, rfl⟩ := items_int h3
 have hlen : ns.length ≤ n := by
  unfold OpenLaw.pre at hc
  have h4 : (WTm.not (.lt (.lit (.int (n : Int))) (.len (.arg 0)))).holds [] { args := [.list (ns.map .int)] } = true := by
   have h4 := (holds_andW hc).1
   rw [hn] at h4
   exact h4
  have h5 := condW_of h4 (w_not (w_lt w_lit (w_len_list (w_arg rfl))))
  rw [List.length_map] at h5
  refine Nat.le_of_not_lt fun q => ?_
  have q' : (n : Int) < ((ns.length : Nat) : Int) := by omega
  first
   | (rw [decide_eq_true q'] at h5; exact absurd h5 (by decide))
   | (simp at h5; omega)
 cases hwl with
 | cons w1 w2 =>
  cases w2
  cases w1 with
  | list ho hall => exact ⟨_, _, ns, rfl, rfl, ho, ints_of_wellAll ns _ hall, hlen⟩
theorem post_true (l : OpenLaw) (args : List WData) : l.row.toRowW.claim.post args (.bool true) args = true :=
 postW_of (r := l.row.toRowW) (X := (true == true))
  (show WShape.has [] (.bool true) .bool = true by first | rfl | decide | simp [WShape.has, WShape.arms, WShape.armsAll])
  (show (WTm.eq .res (.lit (.bool true))).value [] { args := args, res := some (.bool true), after := args } = some (.bool (true == true)) from w_eq_bool (w_res rfl) w_lit) rfl
theorem attach_call {l : OpenLaw} {n : Nat} {q : Program} {loose : List Str} {XP : (Str → Option Value) → Heap → Prop} {YP : World → Heap → Prop} {d : DefRec}
  (hn : l.most = some n) (hdf : d.params.defaults = [])
  (call : ∀ (w : World) (s₀ s₁ : Shared) (mg mb : Str → Option Value) (fa : Addr) (o : Obj) (pm cd doc : Value) (a : Addr) (vs : List Value) (ns : List Int),
   Ground q loose [] XP w s₀ mg mb s₁.heap → YP w s₁.heap →
   s₁.heap.get? fa = some o → o.data = .func (docDef d.name d.params d.body d.scope pm cd doc) → s₁.heap.CodeRec cd d.name → mg d.name = some (.ref fa) →
   s₁.heap.get? a = some { cls := .type "list", data := .seq vs.toArray } → IntsAre vs ns → ns.length ≤ n → s₁.gens = #[] →
   codeAny (model l.prog w) callerA (.call (.ref fa) ⟨[.ref a], []⟩) (fun r s' => r = .ok (.ret (.bool true)) ∧ OldK s₁.heap s'.heap ∧ s'.os = s₁.os ∧ AllBare s'.gens) s₁) :
  WalkO q loose XP YP l.row.toRowW d [] (fun f vs => PySem.call f vs) := by
 intro w s₀ s₁ mg mb G Y fa o pm cd doc dV kV ho hd hcd hD hmg hg args vals as hpre hlay hrd hwl hlo
 obtain rfl : dV = .none := Dflts.none hD hdf
 obtain rfl : kV = .none := Dflts.noKw hD
 obtain ⟨a, vs, ns, rfl, rfl, hobj, hints, hlen⟩ := script_of hn hpre hwl
 refine enter_call (codeAny_mono (call w s₀ s₁ mg mb fa o pm cd doc a vs ns G Y ho (fd_plain hd) hcd hmg hobj hints hlen hg) fun r s' hq => ?_)
 obtain ⟨rfl, h2, h3, h4⟩ := hq
 exact ⟨.inl ⟨.bool true, .bool true, [], rfl, fun _ => rfl, .bool true, post_true l _, fun _ => ⟨List.Pairwise.nil, fun _ hm => (nomatch hm)⟩⟩, h2, h3, h4⟩
section
variable {prog : Program} {w : World} {A : Around} {E : Value → Shared → Prop} {s : Shared} {K : Frag}
end
end Att
namespace L2
open PySem PySem.Spec PyProof.Rows
theorem vals_ints : ∀ {vs : List Value} {ns : List Int}, IntsAre vs ns → Vals (ns.map V.int) vs
 | _, _, .nil => .nil
 | _, _, .cons n t h => .cons ⟨t, rfl⟩ (vals_ints h)
def Only (H : Hp) : Prop := ∀ b, H b = none ∨ ∃ o xs, H b = some (.frz o (.lst xs))
theorem law_call {P : Program} {w : World} {K : PySem.W.Frag} {mg mb : Str → Option Value} {CX : CXT} {k : Nat} {fa a : Addr} {fd : FuncData} {x : Str} {sp : Sp} {s₁ : Shared} {vs : List Value} {ns : List Int}
  (KX : K.In s₁.heap) (hns : s₁.heap.Ns mainGlobals mg) (hb : s₁.heap.Ns builtinsNs mb) (hbb : ∀ x : Str, x ≠ "__name__" → mb x = bootBuiltins x) (hlim : s₁.heap.NoLimit) (hg : s₁.gens = #[])
  (ha : s₁.heap.get? a = some { cls := .type "list", data := .seq vs.toArray }) (hi : IntsAre vs ns) (hl : ns.length ≤ sizeLine) (hr : Room k callerA)
  (F : ∀ base : Heap, K.In base → base.Ns mainGlobals mg → FnOk P w K mg base CX k fa fd [x] sp) (hbind : ∀ (s : Shared) (u : Value), BindsTo s fd ⟨[u], []⟩ [(x, u)])
  (hsp : ∀ H : Hp, Only H → SqL K H a (ns.map V.int) → sp [.ref a] H (fun v _ => v = .bl true) fun _ _ _ => False)
  (hCX : ∀ H e s', CX [] H s₁ (fun _ _ _ => False) e s' → False) :
  codeAny (model P w) callerA (.call (.ref fa) ⟨[.ref a], []⟩) (fun r s' => r = .ok (.ret (.bool true)) ∧ OldK s₁.heap s'.heap ∧ s'.os = s₁.os ∧ AllBare s'.gens) s₁ := by
 have rv := vals_ints hi
 have lenV := hi.length
 have core : ∀ H : Hp, Only H → SqL K H a (ns.map V.int) → HOk P w H s₁.heap → (∀ b, H b ≠ none → b = a) → (H a ≠ none → K.lookup a = none) →
   codeAny (model P w) callerA (.call (.ref fa) ⟨[.ref a], []⟩) (fun r s' => r = .ok (.ret (.bool true)) ∧ OldK s₁.heap s'.heap ∧ s'.os = s₁.os ∧ AllBare s'.gens) s₁ := by
  intro H hO hS hok hA hK
  have base_of : ∀ {b : Addr} {o : Obj}, s₁.heap.get? b = some o → H b = none → (hidT s₁.heap H).get? b = some o := fun e n => hidT_get e n
  have noA : ∀ {b : Addr} {o : Obj} {es : Array DictEntry} {ep : Nat}, s₁.heap.get? b = some o → o.data = .dict es ep → H b = none := fun {b o es ep} e d => by
   cases q : H b with
   | none => rfl
   | some u =>
    have e' : b = a := hA b (by rw [q]; simp)
    subst e'
    rw [ha] at e; cases e
    have d' : Data.seq vs.toArray _ = Data.dict es ep := d
    cases d'
  have nsK : ∀ {b : Addr} {m : Str → Option Value}, s₁.heap.Ns b m → (hidT s₁.heap H).Ns b m := fun {b m} ⟨o, es, ep, e, d, r⟩ => ⟨o, es, ep, base_of e (noA e d), d, r⟩
  have hKb : K.In (hidT s₁.heap H) := fun b o e => base_of (KX b o e) (by
   cases q : H b with
   | none => rfl
   | some u =>
    have e' : b = a := hA b (by rw [q]; simp)
    subst e'
    rw [hK (by rw [q]; simp)] at e; cases e)
  have hM : Mod K mg (hidT s₁.heap H) := ⟨hKb, nsK hns, ⟨mb, nsK hb, hbb⟩, let ⟨mc, h1, h2⟩ := hlim; ⟨mc, nsK h1, h2⟩⟩
  have e0 : Env0 P w K mg (hidT s₁.heap H) callerA [] s₁ H := ⟨rfl, hM, fun b o e => of_hidT e, Nat.le_of_eq (hidT_size _ _), trivial, fun b hb => absurd (show b ∈ ([] : List Addr) from hb) (by simp), hok, .of_eq hg⟩
  refine codeAny_mono ((F _ hKb (nsK hns)).run callerA [] s₁ H ⟨[.ref a], []⟩ [.ref a] [.ref a] _ _ hr e0 (hbind s₁ (.ref a)) (.cons rfl .nil) (hsp H hO hS)) fun r s' h => ?_
  cases r with
  | error e => exact (hCX H e s' h).elim
  | ok fl =>
   cases fl with
   | next => exact False.elim h
   | brk => exact False.elim h
   | cont => exact False.elim h
   | ret u =>
    obtain ⟨v, H', os, bare, un, hok', r', q⟩ := h
    have q' : v = .bl true := q
    subst q'
    obtain rfl : u = Value.bool true := r'
    refine ⟨rfl, OldK.of_keep fun b o e => ?_, os, bare⟩
    cases q : H b with
    | none => exact un.keep b o e q (by intro z; exact absurd (show b ∈ ([] : List Addr) from z) (by simp)) (by simp)
    | some u =>
     rcases hO b with z | ⟨ob, xs, z⟩
     ·rw [q] at z; cases z
     ·have z2 := un.frzs b ob _ z
      obtain ⟨e1, _⟩ := hok b _ z
      obtain ⟨e2, _⟩ := hok' b _ z2
      rw [e] at e1; cases e1
      exact e2
 cases hk : K.lookup a with
 | some o =>
  have e := KX a o hk
  rw [ha] at e
  cases e
  refine core (fun _ => none) (fun _ => .inl rfl) (.inr ⟨_, vs.toArray, _, hk, rfl, rfl, rfl, by rw [List.size_toArray, lenV]; exact hl, by simpa using rv⟩) (fun b u z => by have z' : (none : Option HO) = some u := z; cases z') (fun b z => absurd rfl z) fun z => absurd rfl z
 | none =>
  refine core (fun b => if b = a then some (.frz { cls := .type "list", data := .seq vs.toArray } (.lst (ns.map V.int))) else none) (fun b => ?_) (.inl (.inr ⟨{ cls := .type "list", data := .seq vs.toArray }, if_pos rfl⟩)) (fun b u z => ?_) (fun b z => ?_) fun _ => hk
  ·by_cases hb : b = a
   ·exact .inr ⟨_, _, if_pos hb⟩
   ·exact .inl (if_neg hb)
  ·by_cases hb : b = a
   ·have z' := (if_pos hb).symm.trans z
    cases z'
    subst hb
    exact ⟨ha, by rw [List.length_map]; exact hl, vs, _, rv, ha⟩
   ·have z' := (if_neg hb).symm.trans z
    cases z'
  ·by_cases hb : b = a
   ·exact hb
   ·exact absurd (if_neg hb) z
end L2
namespace L2
open PySem PySem.Spec PyProof.Rows
abbrev KOf {K : PySem.W.Frag} {h : Heap} (_ : K.In h) : PySem.W.Frag := K
theorem walk_of {l : PySem.W.OpenLaw} {n k : Nat} {q : Program} {loose : List Str} {XP : (Str → Option Value) → Heap → Prop} {YP : World → Heap → Prop} {d : DefRec} {K : Params → PySem.W.Frag} {CX : World → CXT} {sp : World → Sp} {x : Str}
  (hn : l.most = some n) (hn2 : n ≤ sizeLine) (hdf : d.params.defaults = []) (hr : Room k callerA)
  (hY : ∀ (w : World) (h : Heap), YP w h → (K w.params).In h)
  (F : ∀ (w : World) (mg : Str → Option Value) (fa : Addr) (h : Heap), (K w.params).In h → h.Ns mainGlobals mg → mg d.name = some (.ref fa) →
   ∃ fd : FuncData, (∀ (s : Shared) (u : Value), BindsTo s fd ⟨[u], []⟩ [(x, u)]) ∧
    ∀ base : Heap, (K w.params).In base → base.Ns mainGlobals mg → FnOk l.prog w (K w.params) mg base (CX w) k fa fd [x] (sp w))
  (hsp : ∀ (w : World) (H : Hp) (a : Addr) (ns : List Int), ns.length ≤ n → Only H → SqL (K w.params) H a (ns.map V.int) → sp w [.ref a] H (fun v _ => v = .bl true) fun _ _ _ => False)
  (hCX : ∀ (w : World) (H : Hp) (s : Shared) (e : Value) (s' : Shared), CX w [] H s (fun _ _ _ => False) e s' → False) :
  PySem.W.WalkO q loose XP YP l.row.toRowW d [] (fun f vs => PySem.call f vs) := by
 refine Att.attach_call hn hdf fun w s₀ s₁ mg mb fa o pm cd doc a vs ns G Y ho hd hcd hmg hobj hints hlen hg => ?_
 have KX := hY w _ Y
 obtain ⟨fd, hb, hF⟩ := F w mg fa _ KX G.T.g hmg
 exact law_call KX G.T.g G.T.b G.T.builtins G.T.nolimit hg hobj hints (Nat.le_trans hlen hn2) hr hF hb (fun H hO hS => hsp w H a ns hlen hO hS) fun H e s' => hCX w H s₁ e s'
end L2
namespace L2
open PySem PySem.Spec PyProof.Rows
def defArgs (s : Stmt) : Arguments := match s with
 | .FunctionDef _ a _ _ _ _ _ _ _ _ => a
 | _ => { posonlyargs := [], args := [], vararg := none, kwonlyargs := [], kw_defaults := [], kwarg := none, defaults := [] }
def defBody (s : Stmt) : List Stmt := match s with
 | .FunctionDef _ _ b _ _ _ _ _ _ _ => b
 | _ => []
def defScope (s : Stmt) : Scope := match s with
 | .FunctionDef _ _ _ _ _ _ sc _ _ _ => sc
 | _ => { kind := .function, names := [], isGenerator := false, isCoroutine := false }
abbrev CX0 : CXT := fun _ _ _ _ _ _ => False
abbrev E0 : XK := fun _ _ _ => False
theorem pass0 {X : Cx} : Passes CX0 X E0 := fun _ _ _ _ _ _ _ h => h.elim
structure Fun (K : PySem.W.Frag) (x qual : Str) (st : Stmt) (f : Addr) (fd : FuncData) : Prop where
 ex : ∃ (oc : Value) (od : Option Addr) (kV doc pm : Value) (an : Option Addr) (cdv ct : Value) (osl : Array (Option Value)),
  fd = PySem.W.fnOf x qual (defArgs st) (defBody st) (defScope st) .none kV doc pm an cdv ct ∧ K.lookup f = some ⟨oc, od, .func fd, osl⟩ ∧ PySem.W.codeIn K cdv qual = true
 kp : PySem.W.keepIn K (.ref f) = true
section
variable {P : Program} {w : World} {K : PySem.W.Frag} {mg : Str → Option Value} {base : Heap}
theorem Fun.ok {x qual : Str} {st : Stmt} {f : Addr} {fd : FuncData} {N ps : List Str} {k : Nat} {sp : Sp} (F : Fun K x qual st f fd) (S : FnScope N ps (defScope st)) (len : ∀ vs H Q E, sp vs H Q E → vs.length = ps.length)
  (hbody : ∀ (cdv : Value) (A : Around) (outer : List Env) (s : Shared) (H : Hp) (vs : List V) (Q : VK) (E : XK), Room k (A.deeper (envOfC qual (defScope st) s.heap.objs.size f cdv)) → sp vs H Q E →
   ∃ t, PSs (cxOf CX0 P w K mg base N qual (defScope st) f cdv A outer s H E).nox (defBody st) t ∧ t { nx := fun _ H' => Q .non H', rt := Q } (start N vs) H) : FnOk P w K mg base CX0 (k + 1) f fd ps sp := by
 obtain ⟨oc, od, kV, doc, pm, an, cdv, ct, osl, rfl, lk, hcd⟩ := F.ex
 refine fn_of lk hcd S len fun A outer s H vs Q E hr hsp => ?_
 obtain ⟨t, h, q⟩ := hbody cdv A outer s H vs Q E hr hsp
 exact ⟨t, h.nox, q⟩
theorem Fun.binds {x qual : Str} {st : Stmt} {f : Addr} {fd : FuncData} {ps : List Str} (F : Fun K x qual st f fd)
  (h : ∀ (kV doc pm : Value) (an : Option Addr) (cdv ct : Value) (us : List Value), us.length = ps.length → bindArgs (PySem.W.fnOf x qual (defArgs st) (defBody st) (defScope st) .none kV doc pm an cdv ct) ⟨us, []⟩ = pure (ps.zip us)) : Binds K fd ps [] := by
 obtain ⟨oc, od, kV, doc, pm, an, cdv, ct, osl, rfl, lk, hcd⟩ := F.ex
 exact .all (h kV doc pm an cdv ct)
theorem fun_mk {x qual : Str} {st : Stmt} {f : Addr} {oc : Value} {od an : Option Addr} {osl : Array (Option Value)} {kV doc pm cdv ct : Value} (l : K.lookup f = some ⟨oc, od, .func (PySem.W.fnOf x qual (defArgs st) (defBody st) (defScope st) .none kV doc pm an cdv ct), osl⟩)
  (c : PySem.W.codeIn K cdv qual = true) (k : PySem.W.keepIn K (.ref f) = true) : Fun K x qual st f (PySem.W.fnOf x qual (defArgs st) (defBody st) (defScope st) .none kV doc pm an cdv ct) := ⟨⟨oc, od, kV, doc, pm, an, cdv, ct, osl, rfl, l, c⟩, k⟩
end
theorem hu_of {A : Around} {k : Nat} (hr : Room k A) : A.units + 1 < cLine := Nat.lt_of_le_of_lt (Nat.add_le_add_left (by decide : 1 ≤ 64) _) hr.units
section
variable {X : Cx}
theorem pv (i : Nat) {x : Str} {pos : Pos} (hN : X.N[i]? = some x := by rfl) (hv : Vis X.env.scope x := by first | exact Or.inl rfl | exact Or.inr (Or.inl rfl) | exact Or.inr (Or.inr rfl)) (hd : (x == ("__debug__" : Str)) = false := by decide)
  (hcd : (x == ("__classdict__" : Str)) = false := by decide) : PE X (.Name x pos) (tVar i) := pe_var hN hv hd hcd
end
theorem iteF {A B : Prop} (h : B) : if false = true then A else B := by
 rw [if_neg Bool.false_ne_true]
 exact h
theorem iteT {A B : Prop} (h : A) : if true = true then A else B := by
 rw [if_pos rfl]
 exact h
theorem ite2 {c A B : Prop} [Decidable c] (h1 : c → A) (h2 : ¬ c → B) : if c then A else B := by
 by_cases h : c
 ·rw [if_pos h]
  exact h1 h
 ·rw [if_neg h]
  exact h2 h
def Same (H H' : Hp) : Prop := ∀ b o, H b = some o → H' b = some o
theorem Same.refl (H : Hp) : Same H H := fun _ _ h => h
theorem Same.trans {H H1 H2 : Hp} (a : Same H H1) (b : Same H1 H2) : Same H H2 := fun c o h => b c o (a c o h)
theorem Same.free {H H' : Hp} (e : Same H H') {l : Addr} (h : H' l = Option.none) : H l = Option.none := by
 cases q : H l with
 | none => rfl
 | some o =>
  rw [e l o q] at h
  cases h
theorem Same.seq {K : PySem.W.Frag} {H H' : Hp} {a : Addr} {xs : List V} (e : Same H H') (h : SqL K H a xs) : SqL K H' a xs := by
 rcases h with (h | ⟨o, h⟩) | h
 ·exact .inl (.inl (e _ _ h))
 ·exact .inl (.inr ⟨o, e _ _ h⟩)
 ·exact .inr h
end L2
namespace L2
open PySem PySem.Spec PyProof.Rows
section
variable {κ : Type} [DecidableEq κ]
def valV (kvs : List (κ × V)) (k : κ) : Option V := (kvs.find? fun kv => decide (kv.1 = k)).map (·.2)
def putK (kvs : List (κ × V)) (k : κ) (v : V) : List (κ × V) :=
 if (kvs.any fun kv => decide (kv.1 = k)) = true then kvs.map (fun kv => if kv.1 = k then (kv.1, v) else kv) else kvs ++ [(k, v)]
theorem valV_pos {p : κ × V} {r : List (κ × V)} {k : κ} (e : p.1 = k) : valV (p :: r) k = some p.2 := by simp [valV, List.find?_cons, e]
theorem valV_neg {p : κ × V} {r : List (κ × V)} {k : κ} (e : ¬ p.1 = k) : valV (p :: r) k = valV r k := by simp [valV, List.find?_cons, e]
theorem valV_any (k : κ) : ∀ kvs : List (κ × V), (kvs.any fun kv => decide (kv.1 = k)) = (valV kvs k).isSome
 | [] => rfl
 | p :: r => by
  rw [List.any_cons]
  by_cases e : p.1 = k
  ·simp only [valV_pos e, decide_eq_true e, Bool.true_or, Option.isSome_some]
  ·rw [valV_neg e, decide_eq_false e, Bool.false_or]; exact valV_any k r
theorem valV_map (k j : κ) (y : V) : ∀ kvs : List (κ × V), valV (kvs.map fun kv => if kv.1 = k then (kv.1, y) else kv) j = (valV kvs j).map fun x => if j = k then y else x
 | [] => rfl
 | p :: r => by
  have ih := valV_map k j y r
  rw [List.map_cons]
  by_cases h : p.1 = k
  ·rw [if_pos h]
   by_cases e : p.1 = j
   ·rw [valV_pos (p := (p.1, y)) e, valV_pos e, Option.map_some, if_pos (e.symm.trans h)]
   ·rw [valV_neg (p := (p.1, y)) e, valV_neg e, ih]
  ·rw [if_neg h]
   by_cases e : p.1 = j
   ·rw [valV_pos (p := p) e, valV_pos e, Option.map_some, if_neg (fun z => h (e.trans z))]
   ·rw [valV_neg (p := p) e, valV_neg e, ih]
theorem valV_snoc (k j : κ) (y : V) : ∀ kvs : List (κ × V), valV kvs k = none → valV (kvs ++ [(k, y)]) j = if j = k then some y else valV kvs j
 | [], _ => by
  by_cases e : k = j
  ·rw [if_pos e.symm]; exact valV_pos (p := (k, y)) e
  ·rw [if_neg (fun z => e z.symm)]; exact valV_neg (p := (k, y)) e
 | p :: r, hn => by
  rw [List.cons_append]
  have hk : ¬ p.1 = k := fun z => by rw [valV_pos z] at hn; cases hn
  rw [valV_neg hk] at hn
  have ih := valV_snoc k j y r hn
  by_cases e : p.1 = j
  ·rw [valV_pos e, valV_pos e, if_neg (fun z => hk (e.trans z))]
  ·rw [valV_neg e, valV_neg e, ih]
theorem valV_put (kvs : List (κ × V)) (k j : κ) (y : V) : valV (putK kvs k y) j = if j = k then some y else valV kvs j := by
 unfold putK
 by_cases a : (kvs.any fun kv => decide (kv.1 = k)) = true
 ·rw [if_pos a, valV_map]
  rw [valV_any] at a
  by_cases e : j = k
  ·obtain ⟨x, hx⟩ := Option.isSome_iff_exists.mp a
   rw [if_pos e, e, hx, Option.map_some, if_pos rfl]
  ·rw [if_neg e]
   cases valV kvs j with
   | none => rfl
   | some x => rw [Option.map_some, if_neg e]
 ·rw [if_neg a]
  refine valV_snoc k j y kvs ?_
  rw [valV_any] at a
  cases q : valV kvs k with
  | none => rfl
  | some x => rw [q] at a; exact (a rfl).elim
theorem length_putK (kvs : List (κ × V)) (k : κ) (v : V) : (putK kvs k v).length ≤ kvs.length + 1 := by
 unfold putK
 split
 ·rw [List.length_map]; omega
 ·rw [List.length_append, List.length_cons, List.length_nil]; omega
theorem RelO.isSome_eq {o : Option V} {u : Option Value} (r : RelO o u) : o.isSome = u.isSome := by
 cases o with
 | none => cases u with
  | none => rfl
  | some _ => exact (show False from r).elim
 | some _ => cases u with
  | none => exact (show False from r).elim
  | some _ => rfl
theorem RelO.getD {o : Option V} {u : Option Value} {d : V} {d' : Value} (r : RelO o u) (rd : RelV d d') : RelV (o.getD d) (u.getD d') := by
 cases o with
 | none => cases u with
  | none => exact rd
  | some _ => exact (show False from r).elim
 | some _ => cases u with
  | none => exact (show False from r).elim
  | some _ => exact r
theorem KV.val {kvs : List (κ × V)} {vs : List (κ × Value)} (r : KV kvs vs) (k : κ) : RelO (valV kvs k) (valueAt vs k) := by
 unfold KV at r
 induction r with
 | nil => exact True.intro
 | @cons p q ps qs h t ih =>
  obtain ⟨h1, h2⟩ := h
  by_cases e : p.1 = k
  ·have e' : q.1 = k := h1.symm.trans e
   have b : valueAt (q :: qs) k = some q.2 := by simp [valueAt, List.find?_cons, e']
   rw [valV_pos e, b]; exact h2
  ·have e' : ¬ q.1 = k := fun z => e (h1.trans z)
   have b : valueAt (q :: qs) k = valueAt qs k := by simp [valueAt, List.find?_cons, e']
   rw [valV_neg e, b]; exact ih
theorem KV.any {kvs : List (κ × V)} {vs : List (κ × Value)} (r : KV kvs vs) (k : κ) : (kvs.any fun kv => decide (kv.1 = k)) = vs.any fun kv => decide (kv.1 = k) := by
 unfold KV at r
 induction r with
 | nil => rfl
 | cons h t ih => rw [List.any_cons, List.any_cons, ih, h.1]
theorem KV.repl {kvs : List (κ × V)} {vs : List (κ × Value)} (r : KV kvs vs) (k : κ) {y : V} {u : Value} (ry : RelV y u) :
  KV (kvs.map fun kv => if kv.1 = k then (kv.1, y) else kv) (vs.map fun kv => if kv.1 = k then (kv.1, u) else kv) := by
 unfold KV at r ⊢
 induction r with
 | nil => exact .nil
 | @cons p q ps qs h t ih =>
  rw [List.map_cons, List.map_cons]
  refine .cons ?_ ih
  obtain ⟨h1, h2⟩ := h
  by_cases e : p.1 = k
  ·rw [if_pos e, if_pos (h1.symm.trans e)]; exact ⟨h1, ry⟩
  ·rw [if_neg e, if_neg (fun z => e (h1.trans z))]; exact ⟨h1, h2⟩
theorem KV.put {kvs : List (κ × V)} {vs : List (κ × Value)} (r : KV kvs vs) (k : κ) {y : V} {u : Value} (ry : RelV y u) : KV (putK kvs k y) (stored vs k u) := by
 unfold putK stored
 rw [r.any k]
 by_cases e : (vs.any fun kv => decide (kv.1 = k)) = true
 ·rw [if_pos e, if_pos e]; exact r.repl k ry
 ·rw [if_neg e, if_neg e]; exact Paired.snoc r ⟨rfl, ry⟩
theorem KV.length {kvs : List (κ × V)} {vs : List (κ × Value)} (r : KV kvs vs) : kvs.length = vs.length := Paired.length r
end
theorem kV_is {P : Program} {w : World} {k : Key} {u : Value} (r : RelV (kV k) u) : (mixKind P w).is k u = true := by
 cases k with
 | inl i => obtain ⟨t, e⟩ := (show ∃ t, u = Value.int i t from r); subst e; exact mixKind_int P w i t
 | inr x => obtain ⟨t, e⟩ := (show ∃ t, u = Value.str x t from r); subst e; exact mixKind_str P w x t
theorem items_are {P : Program} {w : World} : ∀ {ks : List Key} {us : List Value}, Vals (ks.map kV) us → ItemsAre (mixKind P w) ks us
 | [], _, r => by rw [List.map_nil] at r; cases r; exact .nil
 | k :: ks, _, r => by
  rw [List.map_cons] at r
  cases r with
  | cons h t => exact .cons (kV_is h) (items_are t)
abbrev KT (H : Hp) : List (List Key × V) → List (List Key × Addr × Value) → Prop := Paired fun p q => p.1 = q.1 ∧ H q.2.1 = some (.tup (p.1.map kV)) ∧ RelV p.2 q.2.2
theorem KT.val {H : Hp} {kvs : List (List Key × V)} {xs : List (List Key × Addr × Value)} (r : KT H kvs xs) (k : List Key) : RelO (valV kvs k) ((atKey xs k).map (·.2)) := by
 induction r with
 | nil => exact True.intro
 | @cons p q ps qs h t ih =>
  obtain ⟨h1, _, h2⟩ := h
  by_cases e : p.1 = k
  ·have e' : q.1 = k := h1.symm.trans e
   have b : atKey (q :: qs) k = some q.2 := by simp [atKey, List.find?_cons, e']
   rw [valV_pos e, b]; exact h2
  ·have e' : ¬ q.1 = k := fun z => e (h1.trans z)
   have b : atKey (q :: qs) k = atKey qs k := by simp [atKey, List.find?_cons, e']
   rw [valV_neg e, b]; exact ih
theorem KT.repl {H : Hp} {kvs : List (List Key × V)} {xs : List (List Key × Addr × Value)} (r : KT H kvs xs) (k : List Key) {y : V} {u : Value} (ry : RelV y u) :
  KT H (kvs.map fun kv => if kv.1 = k then (kv.1, y) else kv) (xs.map (putAt k u)) := by
 induction r with
 | nil => exact .nil
 | @cons p q ps qs h t ih =>
  rw [List.map_cons, List.map_cons]
  refine .cons ?_ ih
  obtain ⟨h1, h2, h3⟩ := h
  unfold putAt
  by_cases e : p.1 = k
  ·rw [if_pos e, if_pos (h1.symm.trans e)]; exact ⟨h1, h2, ry⟩
  ·rw [if_neg e, if_neg (fun z => e (h1.trans z))]; exact ⟨h1, h2, h3⟩
theorem KT.put {H : Hp} {kvs : List (List Key × V)} {xs : List (List Key × Addr × Value)} (r : KT H kvs xs) (k : List Key) {b : Addr} {y : V} {u : Value} (hb : H b = some (.tup (k.map kV))) (ry : RelV y u) :
  KT H (putK kvs k y) (storedH xs k b u) := by
 have e : (kvs.any fun kv => decide (kv.1 = k)) = (atKey xs k).isSome := by
  rw [valV_any, (r.val k).isSome_eq, Option.isSome_map]
 unfold putK storedH
 rw [e]
 by_cases q : (atKey xs k).isSome = true
 ·rw [if_pos q, if_pos q]; exact r.repl k ry
 ·rw [if_neg q, if_neg q]; exact Paired.snoc r ⟨rfl, hb, ry⟩
theorem KT.keeps {H H' : Hp} {kvs : List (List Key × V)} {xs : List (List Key × Addr × Value)} (r : KT H kvs xs) (ht : ∀ b ys, H b = some (.tup ys) → H' b = some (.tup ys)) : KT H' kvs xs :=
 Paired.mapP r fun _ _ z => ⟨z.1, ht _ _ z.2.1, z.2.2⟩
section
variable {P : Program} {w : World} {H : Hp} {h : Heap} {a : Addr}
theorem rd_of {u : HO} (ok : HOk P w H h) (e : Rd H a u) : ObjOk P w H h a u := e.ok ok
theorem dk_rd {kvs : List (Key × V)} (ok : HOk P w H h) (e : Rd H a (.dK kvs)) : kvs.length ≤ sizeLine ∧ (a == sysModules) = false ∧ ∃ vs, KV kvs vs ∧ h.DictOf (mixKind P w) a vs :=
 show ObjOk P w H h a (.dK kvs) from rd_of ok e
theorem dk_of {kvs : List (Key × V)} (ok : HOk P w H h) (e : H a = some (.dK kvs)) : kvs.length ≤ sizeLine ∧ (a == sysModules) = false ∧ ∃ vs, KV kvs vs ∧ h.DictOf (mixKind P w) a vs := dk_rd ok (.inl e)
theorem key_of {ks : List Key} (ok : HOk P w H h) (e : H a = some (.tup (ks.map kV))) : (tupleKind (mixKind P w)).is h ks a := by
 obtain ⟨_, its, r, o, h1, h2, n, h3⟩ := (show ObjOk P w H h a (.tup (ks.map kV)) from ok a _ e)
 exact ⟨o, its.toArray, n, h1, h2, h3, by simpa using items_are r⟩
theorem dt_rd {kvs : List (List Key × V)} (ok : HOk P w H h) (e : Rd H a (.dT kvs)) : kvs.length ≤ sizeLine ∧ (a == sysModules) = false ∧
  ∃ xs, KT H kvs xs ∧ h.DictOfH (tupleKind (mixKind P w)) a xs := by
 obtain ⟨z, y, xs, r, o, es, ep, h1, h2, h3, h4, h5⟩ := (show ObjOk P w H h a (.dT kvs) from rd_of ok e)
 refine ⟨z, y, xs, r, o, es, ep, h1, h2, h3, h4, fun x hx => ?_, h5⟩
 have all : ∀ {l : List (List Key × V)} {m : List (List Key × Addr × Value)}, KT H l m → ∀ x ∈ m, (tupleKind (mixKind P w)).is h x.1 x.2.1 := by
  intro l m q
  induction q with
  | nil => intro x hx; exact nomatch hx
  | @cons p q ps qs hq t ih =>
   intro x hx
   rcases List.mem_cons.mp hx with e | hx
   ·subst e
    exact key_of ok (by rw [← hq.1]; exact hq.2.1)
   ·exact ih x hx
 exact all r x hx
theorem dt_of {kvs : List (List Key × V)} (ok : HOk P w H h) (e : H a = some (.dT kvs)) : kvs.length ≤ sizeLine ∧ (a == sysModules) = false ∧
  ∃ xs, KT H kvs xs ∧ h.DictOfH (tupleKind (mixKind P w)) a xs := dt_rd ok (.inl e)
end
def DGet (H : Hp) (a : Addr) (y : V) (r : Option V) : Prop :=
 (∃ kvs k, Rd H a (.dK kvs) ∧ y = kV k ∧ r = valV kvs k) ∨ ∃ kvs k b, Rd H a (.dT kvs) ∧ y = .ref b ∧ H b = some (.tup (k.map kV)) ∧ r = valV kvs k
def DPut (H : Hp) (a : Addr) (y v : V) (H' : Hp) : Prop :=
 (∃ kvs k, H a = some (.dK kvs) ∧ y = kV k ∧ kvs.length < sizeLine ∧ H' = upd H a (.dK (putK kvs k v))) ∨
 ∃ kvs k b, H a = some (.dT kvs) ∧ y = .ref b ∧ H b = some (.tup (k.map kV)) ∧ kvs.length < sizeLine ∧ H' = upd H a (.dT (putK kvs k v))
theorem DGet.k {H : Hp} {a : Addr} {kvs : List (Key × V)} {k : Key} (e : H a = some (.dK kvs)) : DGet H a (kV k) (valV kvs k) := .inl ⟨kvs, k, .inl e, rfl, rfl⟩
theorem DPut.k {H : Hp} {a : Addr} {kvs : List (Key × V)} {k : Key} {v : V} (e : H a = some (.dK kvs)) (hl : kvs.length < sizeLine) : DPut H a (kV k) v (upd H a (.dK (putK kvs k v))) := .inl ⟨kvs, k, e, rfl, hl, rfl⟩
section
variable {X : Cx} {pins : List (Addr × Obj)} {σ : St} {H : Hp} {s : Shared} {a : Addr} {y v : V} {u r : Value} {o : Option V} {A : Around} {E : Value → Shared → Prop}
theorem Inv.big (I : Inv X pins σ H s) : sysModules < s.heap.objs.size := by
 have h : mainGlobals < s.heap.objs.size := (I.mod.glob.keeps I.bk).lt
 exact Nat.lt_trans (by decide) h
theorem d_getItem {Q : Value → Shared → Prop} (hu : A.units + 1 < cLine) (I : Inv X pins σ H s) (g : DGet H a y (some v)) (ry : RelV y u) (h : ∀ w' s', Inv X pins σ H s' → RelV v w' → Q w' s') :
  wpAny (model X.prog X.w) A (getItem (.ref a) u) Q E s := by
 rcases g with ⟨kvs, k, e, ey, l⟩ | ⟨kvs, k, b, e, ey, eb, l⟩
 ·subst ey
  obtain ⟨z, hd, vs, rel, dd⟩ := dk_rd I.hok e
  obtain ⟨w', hw, rw'⟩ := RelO.some_of (v := v) (o := valueAt vs k) (by rw [l]; exact rel.val k)
  exact wpAny_getItem_of (kV_is ry) dd.mapOf hw (h w' _ (I.tok _) rw')
 ·subst ey
  cases (show u = Value.ref b from ry)
  obtain ⟨z, hd, xs, rel, dd⟩ := dt_rd I.hok e
  obtain ⟨w', hw, rw'⟩ := RelO.some_of (v := v) (o := (atKey xs k).map (·.2)) (by rw [l]; exact rel.val k)
  obtain ⟨p, hp, hp2⟩ := Option.map_eq_some_iff.mp hw
  refine wpAny_getItem_heap (tupleKind_room_in1 hu) (key_of I.hok eb) dd hp ?_
  rw [hp2]
  exact h w' _ (I.tok _) rw'
theorem d_in {Q : Value → Shared → Prop} (hu : A.units + 1 < cLine) (I : Inv X pins σ H s) (g : DGet H a y o) (ry : RelV y u) (h : ∀ s', Inv X pins σ H s' → Q (.bool o.isSome) s') :
  wpAny (model X.prog X.w) A (compareOp .In u (.ref a)) Q E s := by
 rcases g with ⟨kvs, k, e, ey, l⟩ | ⟨kvs, k, b, e, ey, eb, l⟩
 ·subst ey
  obtain ⟨z, hd, vs, rel, dd⟩ := dk_rd I.hok e
  refine wpAny_in_of (kV_is ry) hd dd.mapOf ?_
  rw [← (rel.val k).isSome_eq, ← l]
  exact h _ (I.tok _)
 ·subst ey
  cases (show u = Value.ref b from ry)
  obtain ⟨z, hd, xs, rel, dd⟩ := dt_rd I.hok e
  refine wpAny_in_heap (tupleKind_room_in1 hu) (key_of I.hok eb) hd dd ?_
  have q := (rel.val k).isSome_eq
  rw [Option.isSome_map] at q
  rw [← q, ← l]
  exact h _ (I.tok _)
theorem d_notIn {Q : Value → Shared → Prop} (hu : A.units + 1 < cLine) (I : Inv X pins σ H s) (g : DGet H a y o) (ry : RelV y u) (h : ∀ s', Inv X pins σ H s' → Q (.bool (!o.isSome)) s') :
  wpAny (model X.prog X.w) A (compareOp .NotIn u (.ref a)) Q E s := by
 rcases g with ⟨kvs, k, e, ey, l⟩ | ⟨kvs, k, b, e, ey, eb, l⟩
 ·subst ey
  obtain ⟨z, hd, vs, rel, dd⟩ := dk_rd I.hok e
  refine wpAny_notIn_of (kV_is ry) hd dd.mapOf ?_
  rw [← (rel.val k).isSome_eq, ← l]
  exact h _ (I.tok _)
 ·subst ey
  cases (show u = Value.ref b from ry)
  obtain ⟨z, hd, xs, rel, dd⟩ := dt_rd I.hok e
  refine wpAny_notIn_heap (tupleKind_room_in1 hu) (key_of I.hok eb) hd dd ?_
  have q := (rel.val k).isSome_eq
  rw [Option.isSome_map] at q
  rw [← q, ← l]
  exact h _ (I.tok _)
theorem d_write {h' : Heap} {t' : Nat} {ob : HO} (I : Inv X pins σ H s) (mu : Mut (H a)) (hs : Heap.SameBut a s.heap h') (he : ∃ q, h'.get? a = some q) (new : ObjOk X.prog X.w (upd H a ob) h' a ob) :
  Inv X pins σ (upd H a ob) { s with heap := h', toks := t' } :=
 I.write (x := a) (e := a) mu (.inl rfl) (fun b q hb z => (hs.2 b hb).trans z) he new
theorem dk_new {P : Program} {w : World} {H' : Hp} {h' : Heap} {kvs : List (Key × V)} {vs : List (Key × Value)} (z : kvs.length ≤ sizeLine) (hd : (a == sysModules) = false) (rel : KV kvs vs) (dd : h'.DictOf (mixKind P w) a vs) :
  ObjOk P w H' h' a (.dK kvs) := ⟨z, hd, vs, rel, dd⟩
theorem d_setItem {H' : Hp} {Q : Unit → Shared → Prop} (hu : A.units + 1 < cLine) (I : Inv X pins σ H s) (g : DPut H a y v H') (ry : RelV y u) (rv : RelV v r) (h : ∀ s', Inv X pins σ H' s' → Q () s') :
  wpAny (model X.prog X.w) A (setItem (.ref a) u r) Q E s := by
 rcases g with ⟨kvs, k, e, ey, l, eH⟩ | ⟨kvs, k, b, e, ey, eb, l, eH⟩
 ·subst ey eH
  obtain ⟨z, hd, vs, rel, dd⟩ := dk_of I.hok e
  have hz : vs.length ≤ sizeLine := by rw [← rel.length]; exact z
  have hl : (putK kvs k v).length ≤ sizeLine := by have := length_putK kvs k v; omega
  refine wpAny_setItem_pairs (hsz := hz) (kV_is ry) dd fun h' dd' hs => h _ ?_
  have he : ∃ q, h'.get? a = some q := let ⟨q, _, _, hq, _⟩ := dd'; ⟨q, hq⟩
  exact d_write I (by rw [e]; exact True.intro) hs he (dk_new hl hd (rel.put k rv) dd')
 ·subst ey eH
  cases (show u = Value.ref b from ry)
  obtain ⟨z, hd, xs, rel, dd⟩ := dt_of I.hok e
  have hz : xs.length ≤ sizeLine := by rw [← Paired.length rel]; exact z
  have hl : (putK kvs k v).length ≤ sizeLine := by have := length_putK kvs k v; omega
  refine wpAny_setItem_heap (hsz := hz) (tupleKind_room_in1 hu) (key_of I.hok eb) dd fun h' dd' hs => h _ ?_
  obtain ⟨q, es, ep, hq, h2, h3, h4, _, h5⟩ := dd'
  refine d_write I (by rw [e]; exact True.intro) hs ⟨q, hq⟩ ⟨hl, hd, _, (rel.put k eb rv).keeps fun c ys ec => ?_, q, es, ep, hq, h2, h3, h4, h5⟩
  rw [upd_ne (ne_of ec e (fun z => nomatch z))]
  exact ec
end
section
variable {X : Cx} {pins : List (Addr × Obj)} {σ : St} {H : Hp} {s : Shared} {a : Addr} {kvs : List (Key × V)} {k : Key} {u : Value} {A : Around} {E : Value → Shared → Prop}
end
def NoSl (i : Expr) : Prop := ∀ ov iv, subscripted i false ov iv = operate [ov, iv] (getItem ov iv)
theorem subD_of {prog : Program} {w : World} {A : Around} {E : Value → Shared → Prop} {s : Shared} {env : Env} {value slice : Expr} {pos : Pos} {T id : String} {Q : Value → Shared → Prop}
  (hl : typeLookup (.type T) "__getitem__" = pure (some (.builtin id))) (hs : NoSl slice)
  (h : wpAny (model prog w) A (eval value env) (fun o s₁ => wpAny (model prog w) A (eval slice env) (fun i s₂ => s₂.TypeIs o T ∧ wpAny (model prog w) A (getItem o i) Q E s₂) E s₁) E s) :
  wpAny (model prog w) A (eval (.Subscript value slice pos) env) Q E s := by
 refine Subscript_ (wpAny_mono h (fun o s₁ h₁ => wpAny_mono h₁ (fun i s₂ h₂ => ?_) fun _ _ x => x) fun _ _ x => x)
 obtain ⟨hT, h₂⟩ := h₂
 unfold subscriptTail
 refine wpAny_bind ?_
 rw [getitemInPython_of_ne hT.not_modules]
 refine wpAny_bind (wpAny_specialOf hT hl ?_)
 have fin : wpAny (model prog w) A (subscripted slice false o i) (fun r s₃ => wpAny (model prog w) A (letTemporaryGo value o r >>= fun _ => pure r) Q E s₃) E s₂ := by
  rw [hs o i]
  exact wpAny_operating (wpAny_mono h₂ (fun r s₃ h₃ => wpAny_bind (wpAny_letTemporaryGo (wpAny_pure h₃))) fun _ _ x => x)
 first
  | exact wpAny_pure (wpAny_bind fin)
  | exact wpAny_bind (wpAny_pure (wpAny_bind fin))
  | exact wpAny_bind fin
theorem dict_typeIs {X : Cx} {pins : List (Addr × Obj)} {σ : St} {H : Hp} {s : Shared} {a : Addr} {y : V} {o : Option V} (I : Inv X pins σ H s) (g : DGet H a y o) : s.TypeIs (.ref a) "dict" := by
 rcases g with ⟨kvs, k, e, _, _⟩ | ⟨kvs, k, b, e, _, _, _⟩
 ·obtain ⟨_, _, vs, _, dd⟩ := dk_rd I.hok e
  exact dd.typeIs
 ·obtain ⟨_, _, xs, _, dd⟩ := dt_rd I.hok e
  exact dd.typeIs
def tDGet (td ty : TE) : TE := fun σ H Q => td σ H fun x H1 => ty σ H1 fun y H2 => ∃ a v, x = .ref a ∧ DGet H2 a y (some v) ∧ Q v H2
def tDIn (ty td : TE) : TE := fun σ H Q => ty σ H fun y H1 => td σ H1 fun x H2 => ∃ a o, x = .ref a ∧ DGet H2 a y o ∧ Q (.bl o.isSome) H2
def tDNotIn (ty td : TE) : TE := fun σ H Q => ty σ H fun y H1 => td σ H1 fun x H2 => ∃ a o, x = .ref a ∧ DGet H2 a y o ∧ Q (.bl (!o.isSome)) H2
def sDPut (td ty tv : TE) : TS := fun D σ H => tv σ H fun v H1 => td σ H1 fun x H2 => ty σ H2 fun y H3 => ∃ a H4, x = .ref a ∧ DPut H3 a y v H4 ∧ D.nx σ H4
section
variable {X : Cx} {o i e value : Expr} {pos pos' tpos : Pos} {td ty tv : TE}
theorem pe_dget (hu : X.A.units + 1 < cLine) (ho : PE X o td) (hi : PE X i ty) (hs : NoSl i) : PE X (.Subscript o i pos) (tDGet td ty) := by
 intro pins s σ H Q I h
 refine subD_of PySem.F.slot_dict_getitem.lookup hs (thn (ho pins s σ H _ I h) fun u s1 ⟨x, H1, I1, rx, q1⟩ => thn (hi pins s1 σ H1 _ I1 q1) fun iv s2 ⟨y, H2, I2, ry, a, v, ex, g, q2⟩ => ?_)
 subst ex
 obtain rfl : u = Value.ref a := rx
 exact ⟨dict_typeIs I2 g, d_getItem hu I2 g ry fun w' s3 I3 rw' => ⟨v, H2, I3, rw', q2⟩⟩
theorem pc_din (hu : X.A.units + 1 < cLine) (hi : PE X i ty) (ho : PE X o td) : PC X .In i o (tDIn ty td) := by
 intro pins s σ H Q I h
 refine thn (hi pins s σ H _ I h) fun iv s1 ⟨y, H1, I1, ry, q1⟩ => thn (ho pins s1 σ H1 _ I1 q1) fun u s2 ⟨x, H2, I2, rx, a, ov, ex, g, q2⟩ => ?_
 subst ex
 obtain rfl : u = Value.ref a := rx
 exact d_in hu I2 g ry fun s3 I3 => ⟨.bl ov.isSome, H2, I3, rfl, q2⟩
theorem pc_dnotin (hu : X.A.units + 1 < cLine) (hi : PE X i ty) (ho : PE X o td) : PC X .NotIn i o (tDNotIn ty td) := by
 intro pins s σ H Q I h
 refine thn (hi pins s σ H _ I h) fun iv s1 ⟨y, H1, I1, ry, q1⟩ => thn (ho pins s1 σ H1 _ I1 q1) fun u s2 ⟨x, H2, I2, rx, a, ov, ex, g, q2⟩ => ?_
 subst ex
 obtain rfl : u = Value.ref a := rx
 exact d_notIn hu I2 g ry fun s3 I3 => ⟨.bl (!ov.isSome), H2, I3, rfl, q2⟩
theorem ps_dput (hu : X.A.units + 1 < cLine) (ho : PE X o td) (hi : PE X i ty) (hv : PE X value tv) (hs : swapsWith value (some (.Subscript o i pos')) pos.line X.env = pure false) :
  PS X (.Assign [.Subscript o i pos'] value pos) (sDPut td ty tv) := by
 intro pins s σ H D I h
 refine wpAny_Assign_Subscript (thn (hv pins s σ H _ I h) fun r s1 ⟨v, H1, I1, rv, q1⟩ => thn (ho pins s1 σ H1 _ I1 q1) fun u s2 ⟨x, H2, I2, rx, q2⟩ => thn (hi pins s2 σ H2 _ I2 q2) fun iv s3 ⟨y, H3, I3, ry, a, H4, ex, g, q3⟩ => ?_) hs
 subst ex
 obtain rfl : u = Value.ref a := rx
 exact d_setItem hu I3 g ry rv fun s4 I4 => ⟨σ, H4, I4, q3⟩
end
theorem dk_empty {P : Program} {w : World} {H : Hp} (h : Heap) (hb : sysModules < h.objs.size) : ObjOk P w H (h.push { cls := .type "dict", data := .dict #[] }) h.objs.size (.dK []) :=
 ⟨Nat.zero_le _, beq_eq_false_iff_ne.mpr (Ne.symm (Nat.ne_of_lt hb)), [], .nil, Heap.DictOf.new h⟩
def tDNewK : TE := fun _ H Q => ∀ p, H p = none → Q (.ref p) (upd H p (.dK []))
section
variable {X : Cx} {pos : Pos}
theorem pe_dnewK : PE X (.Dict [] [] pos) tDNewK := fun pins s σ H Q I h =>
 wpAny_Dict_empty ⟨.ref s.heap.objs.size, _, I.laid (a := s.heap.objs.size) (o := .dK []) (t' := s.toks) (fun _ _ q => Heap.get?_push_of_some _ q) (Nat.le_refl _) (dk_empty s.heap I.big), rfl, h _ (I.hok.fresh (Nat.le_refl _))⟩
end
def tPairs : List (TE × TE) → St → Hp → (List (V × V) → Hp → Prop) → Prop
 | [], _, H, Q => Q [] H
 | (tk, tv) :: r, σ, H, Q => tk σ H fun x H1 => tv σ H1 fun y H2 => tPairs r σ H2 fun ps H3 => Q ((x, y) :: ps) H3
abbrev VV : List (V × V) → List (Value × Value) → Prop := Paired fun p q => RelV p.1 q.1 ∧ RelV p.2 q.2
def PPs (X : Cx) (pos : Pos) (keys : List (Option Expr)) (values : List Expr) (trs : List (TE × TE)) : Prop :=
 ∀ (pins : List (Addr × Obj)) (s : Shared) (σ : St) (H : Hp) (Q : List (V × V) → Hp → Prop), Inv X pins σ H s → tPairs trs σ H Q →
  wpAny (model X.prog X.w) X.A (evalPairs (pairTrees keys values X.env pos)) (fun vs s' => ∃ ps H', Inv X pins σ H' s' ∧ VV ps vs ∧ Q ps H') X.xe s
theorem pps_nil {X : Cx} {pos : Pos} : PPs X pos [] [] [] := fun pins s σ H Q I h => pairTrees_nil_walk ⟨[], H, I, .nil, h⟩
theorem pps_cons {X : Cx} {pos : Pos} {k v : Expr} {ks : List (Option Expr)} {vs : List Expr} {tk tv : TE} {trs : List (TE × TE)} (hk : PE X k tk) (hv : PE X v tv) (hr : PPs X pos ks vs trs) :
  PPs X pos (some k :: ks) (v :: vs) ((tk, tv) :: trs) := fun pins s σ H Q I h =>
 pairTrees_cons_walk (thn (hk pins s σ H _ I h) fun u s1 ⟨x, H1, I1, rx, q1⟩ => thn (hv pins s1 σ H1 _ I1 q1) fun w2 s2 ⟨y, H2, I2, ry, q2⟩ =>
  thn (hr pins s2 σ H2 _ I2 q2) fun ws s3 ⟨ps, H3, I3, rel, q3⟩ => ⟨(x, y) :: ps, H3, I3, .cons ⟨rx, ry⟩ rel, q3⟩)
def mergeK (kvs more : List (Key × V)) : List (Key × V) := more.foldl (fun acc kv => putK acc kv.1 kv.2) kvs
theorem KV.merge : ∀ {more : List (Key × V)} {rs : List (Key × Value)} {kvs : List (Key × V)} {vs : List (Key × Value)}, KV more rs → KV kvs vs → KV (mergeK kvs more) (merged vs rs) := by
 intro more rs kvs vs r
 unfold KV at r
 induction r generalizing kvs vs with
 | nil => intro q; exact q
 | @cons p q ps qs h t ih =>
  intro r0
  have e : KV (putK kvs p.1 p.2) (stored vs q.1 q.2) := by
   have := r0.put p.1 h.2
   rw [← h.1]; exact this
  exact ih e
theorem length_mergeK : ∀ (more kvs : List (Key × V)), (mergeK kvs more).length ≤ kvs.length + more.length
 | [], kvs => by show kvs.length ≤ kvs.length + 0; omega
 | p :: r, kvs => by
  have h1 := length_mergeK r (putK kvs p.1 p.2)
  have h2 := length_putK kvs p.1 p.2
  show (mergeK (putK kvs p.1 p.2) r).length ≤ _
  rw [List.length_cons]; omega
theorem carries_of {P : Program} {w : World} : ∀ {kvs : List (Key × V)} {ws : List (Value × Value)}, VV (kvs.map fun kv => (kV kv.1, kv.2)) ws → ∃ rs, Carries (mixKind P w) ws rs ∧ KV kvs rs
 | [], _, r => by rw [List.map_nil] at r; cases r; exact ⟨[], True.intro, .nil⟩
 | p :: kvs, _, r => by
  rw [List.map_cons] at r
  cases r with
  | @cons a b as bs h t =>
   obtain ⟨rs, c, q⟩ := carries_of (P := P) (w := w) t
   obtain ⟨b1, b2⟩ := b
   exact ⟨(p.1, b2) :: rs, ⟨kV_is h.1, rfl, c⟩, .cons ⟨rfl, h.2⟩ q⟩
def tDisp (trs : List (TE × TE)) : TE := fun σ H Q => ∀ p, H p = none → tPairs trs σ (upd H p (.dK [])) fun ps H2 => H2 p = some (.dK []) ∧ ∃ kvs : List (Key × V), ps = kvs.map (fun kv => (kV kv.1, kv.2)) ∧ kvs.length ≤ 15 ∧ Q (.ref p) (upd H2 p (.dK (mergeK [] kvs)))
theorem pe_disp {X : Cx} {pos : Pos} {keys : List (Option Expr)} {values : List Expr} {trs : List (TE × TE)} (h : PPs X pos keys values trs) (hall : keys.all (·.isSome) = true) (hl : keys.length = values.length) (h0 : keys ≠ [])
  (h15 : keys.length ≤ 15) : PE X (.Dict keys values pos) (tDisp trs) := by
 intro pins s σ H Q I q
 have hn := I.hok.fresh (Nat.le_refl s.heap.objs.size)
 have I1 := I.laid (a := s.heap.objs.size) (o := .dK []) (h' := s.heap.push { cls := .type "dict", data := .dict #[] }) (t' := s.toks) (fun _ _ q => Heap.get?_push_of_some _ q) (Nat.le_refl _) (dk_empty s.heap I.big)
 refine wpAny_Dict_walk (knd := mixKind X.prog X.w) hall hl h0 h15 (thn (h pins _ σ _ _ I1 (q _ hn)) fun ws s2 ⟨ps, H2, I2, rel, e, kvs, ep, lk, q2⟩ => ?_)
 subst ep
 obtain ⟨rs, c, rk⟩ := carries_of (P := X.prog) (w := X.w) rel
 obtain ⟨z, hd, vs0, r0, dd⟩ := dk_of I2.hok e
 cases r0
 refine ⟨rs, c, dd, fun h' dd' hs => ⟨.ref s.heap.objs.size, _, ?_, rfl, q2⟩⟩
 have hz : (mergeK [] kvs).length ≤ sizeLine := by
  have h1 := length_mergeK kvs []
  rw [List.length_nil] at h1
  rw [sizeLine_eq]; omega
 have he : ∃ q, h'.get? s.heap.objs.size = some q := let ⟨q, _, _, hq, _⟩ := dd'; ⟨q, hq⟩
 exact d_write I2 (by rw [e]; exact True.intro) hs he (dk_new hz hd (rk.merge .nil) dd')
structure M2 (X : Cx) (o : Expr) (m : Str) (apos : Pos) (e f : Expr) (cpos : Pos) : Prop where
 base : attributeBase o m X.env (eval o X.env) = eval o X.env
 few : ((backTo cpos (starEach [e, f] X.env)).all (fun x => !x.1) && (backToKw cpos (keywordEach [] X.env)).all (fun x => x.1.isSome)
  && decide (([e, f] : List Expr).length + ([] : List Keyword).length + (if ([] : List Keyword).isEmpty then 0 else 1) < 30)) = true
 line : (apos.endLine == cpos.line) = true
 trees : backTo cpos (starEach [e, f] X.env) = [(false, eval e X.env), (false, eval f X.env)]
def IsD (H : Hp) (a : Addr) : Prop := (∃ kvs, Rd H a (.dK kvs)) ∨ ∃ kvs, Rd H a (.dT kvs)
theorem isD_at {X : Cx} {pins : List (Addr × Obj)} {σ : St} {H : Hp} {s : Shared} {a : Addr} (I : Inv X pins σ H s) (d : IsD H a) :
  s.TypeIs (.ref a) "dict" ∧ (∀ b, Value.ref a = .ref b → ∃ ob, s.heap.get? b = some ob ∧ ob.dict = none) ∧ (a == sysModules) = false := by
 rcases d with ⟨kvs, e⟩ | ⟨kvs, e⟩
 ·obtain ⟨_, hd, vs, _, dd⟩ := dk_rd I.hok e
  refine ⟨dd.typeIs, fun b q => ?_, hd⟩
  cases q
  obtain ⟨ob, _, _, h1, h2, _⟩ := dd
  exact ⟨ob, h1, h2.2.1⟩
 ·obtain ⟨_, hd, xs, _, dd⟩ := dt_rd I.hok e
  refine ⟨dd.typeIs, fun b q => ?_, hd⟩
  cases q
  obtain ⟨ob, _, _, h1, h2, _⟩ := dd
  exact ⟨ob, h1, h2.2.1⟩
section
variable {X : Cx} {pins : List (Addr × Obj)} {σ : St} {H : Hp} {s : Shared} {a : Addr} {y d : V} {u r : Value} {o : Option V} {A : Around} {E : Value → Shared → Prop}
theorem d_get2 {Q : Value → Shared → Prop} (hu : A.units + 1 < cLine) (I : Inv X pins σ H s) (g : DGet H a y o) (ry : RelV y u) (rd : RelV d r) (h : ∀ w' s', Inv X pins σ H s' → RelV (o.getD d) w' → Q w' s') :
  wpAny (model X.prog X.w) A (call (.builtin "dict.get") [.ref a, u, r]) Q E s := by
 rcases g with ⟨kvs, k, e, ey, l⟩ | ⟨kvs, k, b, e, ey, eb, l⟩
 ·subst ey
  obtain ⟨z, hd, vs, rel, dd⟩ := dk_rd I.hok e
  refine call_meetsIn PySem.F.slot_dict_get dd.typeIs PySem.F.entry_dict_get (PySem.F.args_dict_get_3 _ _ _) (meets_dict_get_default (mixKind X.prog X.w) a (kV_is ry) hd r) ⟨_, dd.mapOf, h _ _ (I.tok _) ?_⟩
  rw [l]
  exact (rel.val k).getD rd
 ·subst ey
  cases (show u = Value.ref b from ry)
  obtain ⟨z, hd, xs, rel, dd⟩ := dt_rd I.hok e
  refine call_meetsIn PySem.F.slot_dict_get dd.typeIs PySem.F.entry_dict_get (PySem.F.args_dict_get_3 _ _ _) (meetsH_dict_get_default (tupleKind (mixKind X.prog X.w)) a b hd r) ⟨tupleKind_room_in1 hu, k, xs, key_of I.hok eb, dd, h _ _ (I.tok _) ?_⟩
  rw [l]
  exact (rel.val k).getD rd
end
def tDGet2 (td ty tx : TE) : TE := fun σ H Q => td σ H fun x H1 => ∃ a, x = .ref a ∧ IsD H1 a ∧ ty σ H1 fun y H2 => tx σ H2 fun z H3 => ∃ o, DGet H3 a y o ∧ Q (o.getD z) H3
section
variable {X : Cx} {o e f : Expr} {apos cpos : Pos} {td ty tx : TE}
theorem pe_dget2 (hu : X.A.units + 1 < cLine) (ho : PE X o td) (he : PE X e ty) (hf : PE X f tx) (m : M2 X o "get" apos e f cpos) : PE X (.Call (.Attribute o "get" apos) [e, f] [] cpos) (tDGet2 td ty tx) := by
 intro pins s σ H Q I h
 refine wpAny_Call_method m.base m.few m.line PySem.F.plainAttrs_dict PySem.F.slot_dict_get PySem.F.type_dict_get (thn (ho pins s σ H _ I h) fun u s1 ⟨x, H1, I1, rx, a, ex, d, q1⟩ => ?_)
 subst ex
 obtain rfl : u = Value.ref a := rx
 obtain ⟨t1, t2, _⟩ := isD_at I1 d
 refine ⟨t1, t2, ?_⟩
 rw [m.trees]
 refine Calls.callWith_builtin rfl (Calls.evalArgs_plain (Calls.spliced_cons (thn (he pins s1 σ H1 _ I1 q1) fun iv s2 ⟨y, H2, I2, ry, q2⟩ =>
  Calls.spliced_cons (thn (hf pins s2 σ H2 _ I2 q2) fun fv s3 ⟨z, H3, I3, rz, ov, g, q3⟩ => Calls.spliced_nil ?_))))
 exact d_get2 hu I3 g ry rz fun w' s4 I4 rw' => ⟨_, H3, I4, rw', q3⟩
end
section
variable {X : Cx} {pins : List (Addr × Obj)} {σ : St} {H : Hp} {s : Shared} {a : Addr} {kvs : List (Key × V)} {A : Around} {E : Value → Shared → Prop}
end
section
variable {X : Cx} {pins : List (Addr × Obj)} {σ : St} {H : Hp} {s : Shared} {a : Addr} {y : V} {u : Value} {A : Around} {E : Value → Shared → Prop}
end
end L2
namespace TL
open PySem
theorem forIn_pure {α β : Type} {f : α → β → Sem (ForInStep β)} (P : List α → β → Prop)
  (step : ∀ x l c, P (x :: l) c → ∃ c', f x c = pure (.yield c') ∧ P l c') : ∀ (l : List α) (c : β), P l c → ∃ c', forIn l c f = pure c' ∧ P [] c'
 | [], c, h => ⟨c, rfl, h⟩
 | x :: l, c, h => by
  obtain ⟨c1, e, h1⟩ := step x l c h
  obtain ⟨c2, e2, h2⟩ := forIn_pure P step l c1 h1
  refine ⟨c2, ?_, h2⟩
  rw [List.forIn_cons, e, pure_bind]
  exact e2
theorem closure_ok {scope : Scope} {env : Env} (h : ∀ y ∈ scope.names, y.2 = .free → ∃ c, env.cells.lookup y.1 = some c) :
  ∃ cl, closureFor scope env = pure cl ∧ (∀ x c, cl.lookup x = some c → env.cells.lookup x = some c) ∧ (∀ y ∈ scope.names, y.2 = .free → ∃ c, cl.lookup y.1 = some c) := by
 let P : List (Str × NameKind) → List (Str × Addr) → Prop := fun l c => (∀ y ∈ l, y.2 = .free → ∃ c, env.cells.lookup y.1 = some c) ∧ (∀ x a, c.lookup x = some a → env.cells.lookup x = some a) ∧
  (∀ y ∈ scope.names, y.2 = .free → y ∈ l ∨ ∃ a, c.lookup y.1 = some a)
 simp only [closureFor]
 obtain ⟨cl, e, _, h2, h3⟩ := forIn_pure (f := fun (x : Str × NameKind) (r : List (Str × Addr)) => if (x.2 == NameKind.free) = true then cellOf env x.1 >>= fun c => pure (ForInStep.yield ((x.1, c) :: r)) else pure (ForInStep.yield r)) P (by
  rintro ⟨n, k⟩ l c ⟨p1, p2, p3⟩
  by_cases hk : k = .free
  ·subst hk
   obtain ⟨a, ha⟩ := p1 _ List.mem_cons_self rfl
   refine ⟨(n, a) :: c, ?_, fun y hy => p1 y (List.mem_cons_of_mem _ hy), fun x b hb => ?_, fun y hy hf => ?_⟩
   ·have ha' : env.cells.lookup n = some a := ha
    simp [cellOf, ha']
   ·rw [List.lookup_cons] at hb
    by_cases hx : (x == n) = true
    ·rw [hx] at hb
     have e1 : x = n := by simpa using hx
     subst e1
     cases hb
     exact ha
    ·have hx' : (x == n) = false := by simpa using hx
     rw [hx'] at hb
     exact p2 x b hb
   ·by_cases hx : (y.1 == n) = true
    ·exact .inr ⟨a, by rw [List.lookup_cons, hx]⟩
    ·have hx' : (y.1 == n) = false := by simpa using hx
     rcases p3 y hy hf with q | ⟨b, q⟩
     ·rcases List.mem_cons.mp q with q | q
      ·exact absurd (by rw [q]; simp) hx
      ·exact .inl q
     ·exact .inr ⟨b, by rw [List.lookup_cons, hx']; exact q⟩
  ·refine ⟨c, ?_, fun y hy => p1 y (List.mem_cons_of_mem _ hy), p2, fun y hy hf => ?_⟩
   ·have : (k == NameKind.free) = false := by simpa using hk
    simp [this]
   ·rcases p3 y hy hf with q | q
    ·rcases List.mem_cons.mp q with q | q
     ·subst q; exact absurd hf hk
     ·exact .inl q
    ·exact .inr q) scope.names [] ⟨h, fun x a hx => by simp at hx, fun y hy _ => .inl hy⟩
 refine ⟨cl, ?_, h2, fun y hy hf => ?_⟩
 ·refine Eq.trans ?_ (congrArg (fun t : Sem (List (Str × Addr)) => t >>= fun r => pure r) e)
  rfl
 ·rcases h3 y hy hf with q | q
  ·cases q
  ·exact q
theorem lookup_relabel_free {env : Env} : ∀ {names : List (Str × NameKind)} {x : Str}, names.lookup x = some .free →
  (names.map fun (n, k) => if (k == NameKind.free && env.scope.kind == .function && env.kindOf n == some .cell) then (n, NameKind.cell) else (n, k)).lookup x = some .cell ∨
  (names.map fun (n, k) => if (k == NameKind.free && env.scope.kind == .function && env.kindOf n == some .cell) then (n, NameKind.cell) else (n, k)).lookup x = some .free
 | [], _, h => by simp at h
 | (n, k) :: r, x, h => by
  have ih := @lookup_relabel_free env r x
  show List.lookup x ((if (k == NameKind.free && env.scope.kind == .function && env.kindOf n == some .cell) = true then (n, NameKind.cell) else (n, k)) :: _) = _ ∨ List.lookup x ((if (k == NameKind.free && env.scope.kind == .function && env.kindOf n == some .cell) = true then (n, NameKind.cell) else (n, k)) :: _) = _
  cases hx : x == n with
  | true =>
   simp only [List.lookup_cons, hx] at h
   cases h
   by_cases hc : (NameKind.free == NameKind.free && env.scope.kind == .function && env.kindOf n == some .cell) = true
   ·rw [if_pos hc]; left; simp [List.lookup_cons, hx]
   ·rw [if_neg hc]; right; simp [List.lookup_cons, hx]
  | false =>
   simp only [List.lookup_cons, hx] at h
   by_cases hc : (k == NameKind.free && env.scope.kind == .function && env.kindOf n == some .cell) = true
   ·rw [if_pos hc]; simp only [List.lookup_cons, hx]; exact ih h
   ·rw [if_neg hc]; simp only [List.lookup_cons, hx]; exact ih h
theorem relabel_cell_or_free {env : Env} : ∀ {names : List (Str × NameKind)} {x : Str}, (∀ y ∈ names, y.2 ≠ .cell) →
  ((names.map fun (n, k) => if (k == NameKind.free && env.scope.kind == .function && env.kindOf n == some .cell) then (n, NameKind.cell) else (n, k)).lookup x = some .cell ∨
  (names.map fun (n, k) => if (k == NameKind.free && env.scope.kind == .function && env.kindOf n == some .cell) then (n, NameKind.cell) else (n, k)).lookup x = some .free) → ∃ y ∈ names, y.1 = x ∧ y.2 = .free
 | [], _, _, h => by simp at h
 | (n, k) :: r, x, hn, h => by
  have ih := @relabel_cell_or_free env r x (fun y hy => hn y (List.mem_cons_of_mem _ hy))
  change List.lookup x ((if (k == NameKind.free && env.scope.kind == .function && env.kindOf n == some .cell) = true then (n, NameKind.cell) else (n, k)) :: _) = _ ∨ List.lookup x ((if (k == NameKind.free && env.scope.kind == .function && env.kindOf n == some .cell) = true then (n, NameKind.cell) else (n, k)) :: _) = _ at h
  cases hx : x == n with
  | true =>
   have e : x = n := by simpa using hx
   by_cases hc : (k == NameKind.free && env.scope.kind == .function && env.kindOf n == some .cell) = true
   ·have hk : k = .free := by
     simp only [Bool.and_eq_true, beq_iff_eq] at hc
     exact hc.1.1
    exact ⟨(n, k), List.mem_cons_self, e.symm, hk⟩
   ·rw [if_neg hc] at h
    simp only [List.lookup_cons, hx] at h
    rcases h with h | h
    ·exact absurd (Option.some.inj h) (hn (n, k) List.mem_cons_self)
    ·exact ⟨(n, k), List.mem_cons_self, e.symm, Option.some.inj h⟩
  | false =>
   have h' : (r.map fun (n, k) => if (k == NameKind.free && env.scope.kind == .function && env.kindOf n == some .cell) then (n, NameKind.cell) else (n, k)).lookup x = some .cell ∨
     (r.map fun (n, k) => if (k == NameKind.free && env.scope.kind == .function && env.kindOf n == some .cell) then (n, NameKind.cell) else (n, k)).lookup x = some .free := by
    by_cases hc : (k == NameKind.free && env.scope.kind == .function && env.kindOf n == some .cell) = true
    ·rw [if_pos hc] at h; simpa only [List.lookup_cons, hx] using h
    ·rw [if_neg hc] at h; simpa only [List.lookup_cons, hx] using h
   obtain ⟨y, hy, e⟩ := ih h'
   exact ⟨y, List.mem_cons_of_mem _ hy, e⟩
end TL
namespace TL
open PySem
section
variable {prog : Program} {w : World} {A : Around} {R : Result → Shared → Prop} {s : Shared}
abbrev testsOf (ifs : List Expr) (env : Env) : Sem Bool := forIn ifs true fun c r => if r = true then do let ok ← isTrue c env (eval c env); pure (ForInStep.yield ok) else pure (ForInStep.yield r)
theorem compLoop_go {elt target iter : Expr} {ifs : List Expr} {scope : Scope} {pos : Pos} {it acc : Value} {env : Env} (I : Nat → Shared → Prop)
  (turn : ∀ n s, I n s → wpAny (model prog w) A (pyNext it) (fun r s₁ => match r with
   | none => R (.ok .next) s₁
   | some v => wpAny (model prog w) A (letOwnedTupleGo target it v) (fun _ s₀ => wpAny (model prog w) A (assign target env v) (fun _ s₂ =>
     wpAny (model prog w) A (testsOf ifs env) (fun ok s₃ =>
      if ok = true then wpAny (model prog w) A (eval elt env) (fun x s₄ =>
       wpAny (model prog w) A (call (.builtin "list.append") [acc, x]) (fun _ s₅ => ∃ m, m < n ∧ I m s₅) (fun _ _ => False) s₄) (fun _ _ => False) s₃
      else ∃ m, m < n ∧ I m s₃) (fun _ _ => False) s₂) (fun _ _ => False) s₀) (fun _ _ => False) s₁) (fun _ _ => False) s)
  (n : Nat) (h : I n s) :
  codeAny (model prog w) A (.compLoop (.ListComp elt [⟨target, iter, ifs, 0⟩] scope pos) 0 it acc env) R s := by
 refine codeAny_loop rfl I (fun n s hI => ?_) n h
 show wpAny _ A ((compTurn (.ListComp elt [⟨target, iter, ifs, 0⟩] scope pos) 0 it acc env).onRaise (fun x => do noteFrame x env; theTreesLotGoes x)) _ _ s
 refine wpAny_noted ?_
 rw [compTurn_list]
 refine wpAny_bind (wpAny_standAt (wpAny_bind (wpAny_mono (turn n s hI) (fun r s₁ h₁ => ?_) fun _ _ h' => h'.elim)))
 cases r with
 | none => exact wpAny_pure h₁
 | some v =>
  refine wpAny_bind (wpAny_mono h₁ (fun _ s₀ h₀ => ?_) fun _ _ h' => h'.elim)
  refine wpAny_bind (wpAny_mono h₀ (fun _ s₂ h₂ => wpAny_bind (wpAny_mono h₂ (fun ok s₃ h₃ => ?_) fun _ _ h' => h'.elim)) fun _ _ h' => h'.elim)
  cases ok with
  | false => exact wpAny_pure ⟨rfl, h₃⟩
  | true =>
   exact wpAny_bind (wpAny_bind (wpAny_mono h₃ (fun x s₄ h₄ => wpAny_bind (wpAny_mono h₄ (fun _ s₅ h₅ => wpAny_pure (wpAny_pure ⟨rfl, h₅⟩)) fun _ _ h' => h'.elim)) fun _ _ h' => h'.elim))
end
end TL
namespace TL
open PySem PyProof.Rows
def oth (e : Int) : Int := e + 1 - 2 * (e % 2)
theorem xor_one (x : Int) : Builtin.bitXor x 1 = oth x := by
 rw [bitXor_and, bitAnd_m1]; unfold oth; omega
theorem oth_nonneg {e : Int} (h : 0 ≤ e) : 0 ≤ oth e := by unfold oth; omega
end TL
set_option maxHeartbeats 4000000
namespace TL
open PySem PySem.Spec PyProof.Rows L2
abbrev St := L2.St
def cxComp (X : Cx) (scope : Scope) (cl : List (Str × Addr)) (N : List Str) (fp : List Addr) (s3 : Shared) (H3 : Hp) : Cx where
 prog := X.prog
 w := X.w
 K := X.K
 mg := X.mg
 base := X.base
 A := X.A
 N := N
 s₀ := s3
 H₀ := H3
 env := compEnvC scope cl s3.heap.objs.size X.env
 outer := X.stack
 stack := X.stack
 ex := fp
 fn := fun _ => false
 calm := X.calm
 pn := []
 xe := fun _ _ => False
def capOk (NX : List Str) (scope : Scope) (N : List Str) (cap : List (Option Nat)) : Bool :=
 (N.zip cap).all fun p => match p.2 with
  | none => true
  | some j => decide (NX[j]? = some p.1) && decide (scope.names.lookup p.1 = some .free)
structure CompOk (scX : Scope) (NX : List Str) (scope : Scope) (N : List Str) (own : Nat) (cap : List (Option Nat)) : Prop where
 kind : scope.kind = .function
 nocell : ∀ y ∈ scope.names, y.2 ≠ .cell
 loc : ∀ y ∈ scope.names, y.2 = .local → scope.names.lookup y.1 = some .local
 fre : ∀ y ∈ scope.names, y.2 = .free → scX.names.lookup y.1 = some .cell ∨ scX.names.lookup y.1 = some .free
 len : cap.length = N.length
 capd : capOk NX scope N cap = true
 ownd : (cap.take own).all (·.isNone) = true
 nd : N.Nodup
def capSt (cap : List (Option Nat)) (σ : St) : St := cap.map fun o => o.bind fun j => (σ[j]?).bind id
theorem capSt_len {cap : List (Option Nat)} {σ : St} : (capSt cap σ).length = cap.length := by simp [capSt]
theorem capSt_get {cap : List (Option Nat)} {σ : St} {i : Nat} {v : V} (h : (capSt cap σ)[i]? = some (some v)) : ∃ j, cap[i]? = some (some j) ∧ σ[j]? = some (some v) := by
 unfold capSt at h
 rw [List.getElem?_map] at h
 cases e : cap[i]? with
 | none => rw [e] at h; cases h
 | some o =>
  rw [e] at h
  cases o with
  | none => cases h
  | some j =>
   refine ⟨j, rfl, ?_⟩
   have h' : (σ[j]?).bind id = some v := by simpa using h
   cases q : σ[j]? with
   | none => rw [q] at h'; cases h'
   | some z => rw [q] at h'; exact congrArg some h'
theorem CompOk.at {scX : Scope} {NX : List Str} {scope : Scope} {N : List Str} {own : Nat} {cap : List (Option Nat)} (C : CompOk scX NX scope N own cap) {i j : Nat} {x : Str} (h1 : N[i]? = some x) (h2 : cap[i]? = some (some j)) :
  NX[j]? = some x ∧ scope.names.lookup x = some .free := by
 have h := C.capd
 unfold capOk at h
 have hm : (x, some j) ∈ N.zip cap := by
  refine List.mem_iff_getElem?.mpr ⟨i, ?_⟩
  rw [List.getElem?_zip_eq_some]
  exact ⟨h1, h2⟩
 have := List.all_eq_true.mp h _ hm
 simpa using this
theorem CompOk.own_none {scX : Scope} {NX : List Str} {scope : Scope} {N : List Str} {own : Nat} {cap : List (Option Nat)} (C : CompOk scX NX scope N own cap) {i j : Nat} (hi : i < own) (h : cap[i]? = some (some j)) : False := by
 have hm : some j ∈ cap.take own := by
  refine List.mem_iff_getElem?.mpr ⟨i, ?_⟩
  rw [List.getElem?_take_of_lt hi]
  exact h
 have := List.all_eq_true.mp C.ownd _ hm
 cases this
section
variable {X : Cx} {pins : List (Addr × Obj)} {σ : St} {H H3 : Hp} {s s3 : Shared} {scope : Scope} {N : List Str} {own : Nat} {cap : List (Option Nat)} {cl : List (Str × Addr)} {fp : List Addr}
theorem inv_comp (I3 : Inv X pins σ H3 s3) (C : CompOk X.env.scope X.N scope N own cap) (hcl1 : ∀ x c, cl.lookup x = some c → X.env.cells.lookup x = some c) (hcl2 : ∀ y ∈ scope.names, y.2 = .free → ∃ c, cl.lookup y.1 = some c)
  (hf : ∀ b ∈ fp, FpOk X pins H3 b ∧ b < s3.heap.objs.size) {h4 : Heap} {tk : Nat} {m4 : Str → Option Value} (hn : h4.Ns s3.heap.objs.size m4) (hk : ∀ b u, s3.heap.get? b = some u → h4.get? b = some u) :
  Inv (cxComp X scope cl N fp s3 H3) [] (capSt cap σ) H3 { s3 with heap := h4, toks := tk } := by
 refine ⟨⟨I3.ok.mod, C.kind, I3.ok.glob, I3.ok.blt, Nat.le_refl _, fun x y c e1 e2 => I3.ok.inj x y c (hcl1 _ _ e1) (hcl1 _ _ e2), fun x hx => ?_, fun x c h => ?_, I3.ok.hd, I3.ok.frames, .inl rfl, fun b hb => ?_,
  I3.bs, Nat.le_trans I3.ok.bsz I3.sz, fun b o e hb => ?_, fun b hb hz => ?_, I3.stack, I3.stkFree⟩, rfl, I3.bare, Un.kept hk, ⟨m4, hn, fun i x v e1 e2 e3 => ?_⟩, fun x c e => ?_, I3.hok.fresh (Nat.le_refl _), fun x c e => I3.freeC x c (hcl1 x c e),
  fun p hp => absurd (show p ∈ ([] : List (Addr × Obj)) from hp) (by simp), I3.hok.kept hk, ?_⟩
 ·obtain ⟨y, hy, e, f⟩ := relabel_cell_or_free (env := X.env) C.nocell hx
  obtain ⟨c, q⟩ := hcl2 y hy f
  exact ⟨c, by rw [← e]; exact q⟩
 ·exact absurd (show false = true from h) Bool.false_ne_true
 ·obtain ⟨⟨f0, f1, f2, f3, f4, f5⟩, hlt⟩ := hf b hb
  exact ⟨Nat.ne_of_lt hlt, fun x c e => f4 x c (hcl1 x c e)⟩
 ·obtain ⟨⟨f0, f1, f2, f3, f4, f5⟩, hlt⟩ := hf b hb
  rcases f3 with z | z
  ·exact I3.ok.noex b o e z
  ·exact absurd (Nat.lt_of_lt_of_le (Heap.lt_size e) (Nat.le_trans I3.ok.bsz z)) (Nat.lt_irrefl _)
 ·obtain ⟨⟨f0, f1, f2, f3, f4, f5⟩, hlt⟩ := hf b hb
  rcases List.mem_cons.mp (I3.stkSub b hz) with z | z
  ·exact f1 z
  ·exact f2 z
 ·obtain ⟨j, c1, c2⟩ := capSt_get e2
  obtain ⟨d1, d2⟩ := C.at e1 c1
  have hk2 := C.fre (x, .free) (PySem.mem_of_lookup d2) rfl
  obtain ⟨mX, hnX, hl⟩ := I3.loc
  obtain ⟨u, r, l⟩ := hl j x v d1 c2 (.inr hk2)
  refine ⟨u, r, ?_⟩
  rcases l with ⟨k, _⟩ | ⟨k, c, e, z⟩
  ·exfalso
   have k' : X.env.scope.names.lookup x = some .local := k
   rcases hk2 with q | q
   ·rw [k'] at q; cases q
   ·rw [k'] at q; cases q
  ·obtain ⟨c', q⟩ := hcl2 (x, .free) (PySem.mem_of_lookup d2) rfl
   have e' := hcl1 x c' q
   rw [e] at e'
   cases e'
   obtain ⟨o, ho, hd⟩ := z
   exact .inr ⟨lookup_relabel_free (env := X.env) d2, c, q, o, hk _ _ ho, hd⟩
 ·obtain ⟨v, o, ho, hd⟩ := I3.cell x c (hcl1 x c e)
  exact ⟨v, o, hk _ _ ho, hd⟩
 ·rw [capSt_len]; exact C.len
theorem comp_back {pins' : List (Addr × Obj)} {σ' : St} {H' : Hp} {s' : Shared} (I3 : Inv X pins σ H3 s3) (hf : ∀ b ∈ fp, FpOk X pins H3 b) (I' : Inv (cxComp X scope cl N fp s3 H3) pins' σ' H' s') : Inv X pins σ H' s' :=
 I3.call' (ch := fp) I'.os I'.base I'.hok I'.bare fun b hb => by
  obtain ⟨f0, f1, f2, f3, f4, f5⟩ := hf b hb
  exact ⟨f3, f1, f4, f5⟩
structure Apart (X : Cx) (pins : List (Addr × Obj)) (C : Addr) : Prop where
 loc : C ≠ X.env.locals
 new : X.s₀.heap.objs.size ≤ C
 cel : ∀ x c, X.env.cells.lookup x = some c → c ≠ C
 pin : ∀ p ∈ X.pn ++ pins, p.1 ≠ C
theorem Inv.apart (I3 : Inv X pins σ H3 s3) : Apart X pins s3.heap.objs.size :=
 ⟨Nat.ne_of_gt I3.lt, I3.sz, fun x c e => by obtain ⟨v, o, ho, _⟩ := I3.cell x c e; exact Nat.ne_of_lt (Heap.lt_size ho), fun p hp => Nat.ne_of_lt (Heap.lt_size (I3.pin p hp).1)⟩
theorem comp_gone {C : Addr} {h' : Heap} (I : Inv X pins σ H s) (P : Apart X pins C) (hn : H C = none) (hs : Heap.SameBut C s.heap h') : Inv X pins σ H { s with heap := h' } :=
 I.turned (t' := s.toks) (fun b o hb e => (hs.2 b hb).trans e) hn P.loc (.inr P.new) P.cel P.pin
end
structure GOwn (own : Nat) (g : TG) : Prop where
 mono : ∀ v σ H Q Q', (∀ σ' H', Q σ' H' → Q' σ' H') → g v σ H Q → g v σ H Q'
 own : ∀ v σ H Q, g v σ H Q → g v σ H fun σ' H' => Q σ' H' ∧ σ'.length = σ.length ∧ ∀ i, own ≤ i → σ'[i]? = σ[i]?
structure GsOwn (own : Nat) (g : TGs) : Prop where
 mono : ∀ v σ H Q Q', (∀ σ' H', Q σ' H' → Q' σ' H') → g v σ H Q → g v σ H Q'
 own : ∀ v σ H Q, g v σ H Q → g v σ H fun σ' H' => Q σ' H' ∧ σ'.length = σ.length ∧ ∀ i, own ≤ i → σ'[i]? = σ[i]?
theorem GOwn.name {own i : Nat} (h : i < own) : GOwn own (gName i) :=
 ⟨fun v σ H Q Q' f q => f _ _ q, fun v σ H Q q => ⟨q, List.length_set, fun j hj => List.getElem?_set_ne (by omega)⟩⟩
theorem GsOwn.nil {own : Nat} : GsOwn own gNil := ⟨fun v σ H Q Q' f q => ⟨q.1, f _ _ q.2⟩, fun v σ H Q q => ⟨q.1, q.2, rfl, fun _ _ => rfl⟩⟩
theorem GsOwn.cons {own : Nat} {t : TG} {u : TGs} (h1 : GOwn own t) (h2 : GsOwn own u) : GsOwn own (gCons t u) where
 mono := fun v σ H Q Q' f ⟨x, r, e, q⟩ => ⟨x, r, e, h1.mono _ _ _ _ _ (fun σ' H' q => h2.mono _ _ _ _ _ f q) q⟩
 own := fun v σ H Q ⟨x, r, e, q⟩ => ⟨x, r, e, h1.mono _ _ _ _ _ (fun σ1 H1 ⟨q, l1, o1⟩ => h2.mono _ _ _ _ _ (fun σ2 H2 ⟨q, l2, o2⟩ => ⟨q, l2.trans l1, fun i hi => (o2 i hi).trans (o1 i hi)⟩) (h2.own _ _ _ _ q)) (h1.own _ _ _ _ q)⟩
theorem GOwn.tup {own n : Nat} {K : PySem.W.Frag} {t : TGs} (h : GsOwn own t) : GOwn own (gTup K n t) where
 mono := fun v σ H Q Q' f ⟨a, xs, e, q1, q2, q⟩ => ⟨a, xs, e, q1, q2, h.mono _ _ _ _ _ f q⟩
 own := fun v σ H Q ⟨a, xs, e, q1, q2, q⟩ => ⟨a, xs, e, q1, q2, h.own _ _ _ _ q⟩
def PIfs (X : Cx) (ifs : List Expr) (t : TT) : Prop :=
 ∀ (pins : List (Addr × Obj)) (s : Shared) (σ : St) (H : Hp) (Q : Bool → Hp → Prop), Inv X pins σ H s → t σ H Q → wpAny (model X.prog X.w) X.A (testsOf ifs X.env) (TP X pins σ Q) X.xe s
def tYes : TT := fun _ H Q => Q true H
theorem pifs_nil {X : Cx} : PIfs X [] tYes := fun _ _ _ H _ I h => wpAny_tests_nil ⟨H, I, h⟩
theorem pifs_one {X : Cx} {c : Expr} {t : TT} (h : PT X c t) : PIfs X [c] t := fun pins s σ H Q I q => wpAny_tests_one (h pins s σ H Q I q)
def LcW (J : It) (g : TG) (tt : TT) (te : TE) (cap : List (Option Nat)) (σ : St) (Q : VK) (l : Addr) (H1 : Hp) : Prop :=
 ∃ W : Nat → Nat → List V → Hp → Prop, (∃ m, W 0 m [] (upd H1 l (.lst []))) ∧ ∀ i m acc H, W i m acc H →
  (J.stop i H ∧ Q (.ref l) H) ∨ (J.go i H ∧ ∃ N : List V → Hp → Prop, (∀ acc' H', N acc' H' → ∃ m', m' < m ∧ W (i + 1) m' acc' H') ∧
   ∀ x H', J.yld i H x H' → g x (capSt cap σ) H' fun σ2 H2 => tt σ2 H2 fun b H3 =>
    if b = true then te σ2 H3 fun y H4 => H4 l = some (.lst acc) ∧ acc.length < sizeLine ∧ N (acc ++ [y]) (upd H4 l (.lst (acc ++ [y])))
    else N acc H3)
def tLC (wi : TI) (cap : List (Option Nat)) (g : TG) (tt : TT) (te : TE) : TE := fun σ H Q => wi σ H fun J H1 => ∀ l, H1 l = none →
 LcW J g tt te cap σ Q l H1
section
variable {X : Cx} {pins : List (Addr × Obj)} {σ : St} {H1 : Hp} {s2 : Shared} {scope : Scope} {N : List Str} {own : Nat} {cap : List (Option Nat)} {cl : List (Str × Addr)} {fp : List Addr}
 {tg iter elt : Expr} {ifs : List Expr} {pos : Pos} {g : TG} {tt : TT} {te : TE} {wi : TI}
theorem comp_run {it : Addr} {tn : Nat → Heap → Prop} {J : It} {Q : VK} {RR : Value → Addr → Result → Shared → Prop} {E : Value → Shared → Prop} (I : Inv X pins σ H1 s2) (T : Turn X.prog X.w X.K tg J fp it tn) (t0 : tn 0 s2.heap)
  (f : ∀ b ∈ fp, FpOk X pins H1 b) (hc : X.calm = true) (C : CompOk X.env.scope X.N scope N own cap) (ho : GOwn own g)
  (hcl1 : ∀ x c, cl.lookup x = some c → X.env.cells.lookup x = some c) (hcl2 : ∀ y ∈ scope.names, y.2 = .free → ∃ c, cl.lookup y.1 = some c)
  (hg : ∀ s3 H3, PG (cxComp X scope cl N fp s3 H3) tg g) (ht : ∀ s3 H3, PIfs (cxComp X scope cl N fp s3 H3) ifs tt) (he : ∀ s3 H3, PE (cxComp X scope cl N fp s3 H3) elt te)
  (hw : ∀ l, H1 l = none → LcW J g tt te cap σ Q l H1)
  (fin : ∀ l C s' H' m', Inv X pins σ H' s' → s'.heap.Ns C m' → H' C = none → Apart X pins C → Q (.ref l) H' → RR (.ref l) C (.ok .next) s') :
  wpAny (model X.prog X.w) X.A (newList []) (fun acc s₃ => wpAny (model X.prog X.w) X.A (newFunctionEnv scope X.env.globals cl [] X.env.qual none .none (some X.env)) (fun cenv s₄ =>
   codeAny (model X.prog X.w) X.A (.compStart (.ListComp elt [⟨tg, iter, ifs, 0⟩] scope pos) 0 (.ref it) acc { cenv with scope := relabel scope X.env }) (RR acc cenv.locals) s₄) E s₃) E s2 := by
 refine wpAny_newObj_type (wpAny_newFunctionEnv C.nocell (by intro y hy; simp at hy) (fun h₁ hns₁ hsb₁ => ?_) C.kind)
 dsimp only at hns₁ hsb₁ ⊢
 obtain ⟨W, ⟨m0, w0⟩, turn⟩ := hw s2.heap.objs.size I.fresh
 have I3 : Inv X pins σ (upd H1 s2.heap.objs.size (.lst [])) { s2 with heap := s2.heap.push { cls := .type "list", dict := none, data := .seq ([] : List Value).toArray } } := I.lnew (ys := []) (its := []) (t' := s2.toks) .nil (Nat.zero_le _)
 generalize hs3 : ({ s2 with heap := s2.heap.push { cls := .type "list", dict := none, data := .seq ([] : List Value).toArray } } : Shared) = s3 at I3
 have hh3 : s3.heap = s2.heap.push { cls := .type "list", dict := none, data := .seq ([] : List Value).toArray } := by rw [← hs3]
 rw [← hh3] at hns₁ hsb₁ ⊢
 have e4 : ({ s2 with heap := h₁, toks := s2.toks + ([] : List (Str × Value)).length } : Shared) = { s3 with heap := h₁, toks := s2.toks } := by rw [← hs3]; rfl
 rw [e4]
 have k4 : ∀ b u, s3.heap.get? b = some u → h₁.get? b = some u := fun b u e => hsb₁.extBut b u (Nat.ne_of_lt (Heap.lt_size e)) (Heap.get?_push_of_some _ e)
 have k3 : ∀ b u, s2.heap.get? b = some u → s3.heap.get? b = some u := fun b u e => by rw [hh3]; exact Heap.get?_push_of_some _ e
 have hb2 : ∀ b ∈ fp, b < s2.heap.objs.size := fun b hb => by obtain ⟨o, e, _⟩ := T.obj _ _ t0 b hb; exact Heap.lt_size e
 have f3 : ∀ b ∈ fp, FpOk X pins (upd H1 s2.heap.objs.size (.lst [])) b := fun b hb => by
  obtain ⟨f0, fr⟩ := f b hb
  exact ⟨by rw [upd_ne (Nat.ne_of_lt (hb2 b hb))]; exact f0, fr⟩
 have hb3 : ∀ b ∈ fp, b < s3.heap.objs.size := fun b hb => by obtain ⟨o, e, _⟩ := T.obj _ _ t0 b hb; exact Heap.lt_size (k3 b o e)
 have I4 := inv_comp (tk := s2.toks) I3 C hcl1 hcl2 (fun b hb => ⟨f3 b hb, hb3 b hb⟩) hns₁ k4
 generalize hH3 : upd H1 s2.heap.objs.size (.lst []) = H3 at *
 have st4 : tn 0 h₁ := T.keep _ _ _ t0 fun b hb o e => k4 b o (k3 b o e)
 have fpX : ∀ {H' : Hp}, (∀ b ∈ fp, H' b = none) → ∀ b ∈ fp, FpOk (cxComp X scope cl N fp s3 H3) [] H' b := fun {H'} hn b hb => by
  obtain ⟨f0, f1, f2, f3', f4, f5⟩ := f3 b hb
  refine ⟨hn b hb, Nat.ne_of_lt (hb3 b hb), fun hz => ?_, .inl hb, fun x c e => f4 x c (hcl1 x c e), fun p hp => absurd (show p ∈ ([] : List (Addr × Obj)) from hp) (by simp)⟩
  rcases List.mem_cons.mp (I3.stkSub b hz) with z | z
  ·exact f1 z
  ·exact f2 z
 have loop : codeAny (model X.prog X.w) X.A (.compLoop (.ListComp elt [⟨tg, iter, ifs, 0⟩] scope pos) 0 (.ref it) (.ref s2.heap.objs.size) (compEnvC scope cl s3.heap.objs.size X.env)) (RR (.ref s2.heap.objs.size) s3.heap.objs.size) { s3 with heap := h₁, toks := s2.toks } := by
  refine compLoop_go (fun n s' => ∃ i acc H', Inv (cxComp X scope cl N fp s3 H3) [] (capSt cap σ) H' s' ∧ tn i s'.heap ∧ (∀ b ∈ fp, H' b = none) ∧ W i n acc H') ?_ m0 ⟨0, [], H3, I4, st4, fun b hb => (f3 b hb).1, w0⟩
  rintro n s' ⟨i, acc, H', I', st, fr, w⟩
  rcases turn i n acc H' w with ⟨stop, q⟩ | ⟨go, NN, hNN, step⟩
  ·refine thn (T.done (cxComp X scope cl N fp s3 H3) rfl rfl rfl hc i [] s' _ H' (fun _ _ => False) I' (fpX fr) st stop) fun r s5 ⟨hr, I5⟩ => ?_
   subst hr
   obtain ⟨m5, hn5, _⟩ := id I5.loc
   exact fin _ _ s5 H' m5 (comp_back I3 f3 I5) hn5 I5.free (TL.Inv.apart I3) q
  ·refine thn (T.item (cxComp X scope cl N fp s3 H3) rfl rfl rfl hc i [] s' _ H' (fun _ _ => False) I' (fpX fr) st go) fun r s5 ⟨u, hr, h5⟩ => ?_
   subst hr
   refine thn h5 fun _ s6 ⟨x, H6, I6, r6, y6, st6, fr6⟩ => ?_
   have I6' := I6.pinned (fpX fr6) (T.obj _ _ st6)
   refine thn (hg s3 H3 _ s6 _ H6 x u _ I6' r6 (ho.own _ _ _ _ (step x H6 y6))) fun _ s7 ⟨σ7, H7, I7, q7, l7, o7⟩ => ?_
   have cov : ∀ (i : Nat) v, (capSt cap σ)[i]? = some (some v) → σ7[i]? = some (some v) := fun i v e => by
    obtain ⟨j, c1, c2⟩ := capSt_get e
    by_cases hi : i < own
    ·exact (C.own_none hi c1).elim
    ·rw [o7 i (by omega)]; exact e
   have back : ∀ {H8 : Hp} {s8 : Shared}, Inv (cxComp X scope cl N fp s3 H3) ([] ++ pinsAt fp s6.heap) σ7 H8 s8 → Inv (cxComp X scope cl N fp s3 H3) [] (capSt cap σ) H8 s8 ∧ tn (i + 1) s8.heap ∧ ∀ b ∈ fp, H8 b = none := fun {H8 s8} I8 => by
    refine ⟨(Inv.unpinned (pins := []) I8).weak l7.symm cov, T.keep _ _ _ st6 fun b hb o e => (I8.pin (b, o) (List.mem_append_right _ (List.mem_append_right _ (mem_pinsAt hb e)))).1, fun b hb => ?_⟩
    obtain ⟨o, e, d⟩ := T.obj _ _ st6 b hb
    exact (I8.pin (b, o) (List.mem_append_right _ (List.mem_append_right _ (mem_pinsAt hb e)))).2.1
   refine thn (ht s3 H3 _ s7 σ7 H7 _ I7 q7) fun b s8 ⟨H8, I8, q8⟩ => ?_
   cases b with
   | false =>
    rw [if_neg Bool.false_ne_true] at q8 ⊢
    obtain ⟨m', hm, w8⟩ := hNN _ _ q8
    obtain ⟨J1, J2, J3⟩ := back I8
    exact ⟨m', hm, i + 1, acc, H8, J1, J2, J3, w8⟩
   | true =>
    rw [if_pos rfl] at q8 ⊢
    refine thn (he s3 H3 _ s8 σ7 H8 _ I8 q8) fun v s9 ⟨y, H9, I9, r9, ha, hz, n9⟩ => ?_
    obtain ⟨m', hm, w9⟩ := hNN _ _ n9
    refine thn (mt_append _ s9 σ7 H9 (.ref s2.heap.objs.size) [y] (.ref s2.heap.objs.size) [v] (fun _ H10 => W (i + 1) m' (acc ++ [y]) H10) I9 rfl (.cons r9 .nil) ⟨_, acc, y, rfl, rfl, ha, hz, w9⟩) fun _ s10 ⟨_, H10, I10, _, w10⟩ => ?_
    obtain ⟨J1, J2, J3⟩ := back I10
    exact ⟨m', hm, i + 1, acc ++ [y], H10, J1, J2, J3, w10⟩
 exact codeAny_compStart_list loop (T.self X.A 0 _ _ _ st4 loop)
theorem pe_lc (hi : PI X tg iter wi) (hc : X.calm = true) (C : CompOk X.env.scope X.N scope N own cap) (ho : GOwn own g)
  (hg : ∀ cl fp s3 H3, PG (cxComp X scope cl N fp s3 H3) tg g) (ht : ∀ cl fp s3 H3, PIfs (cxComp X scope cl N fp s3 H3) ifs tt) (he : ∀ cl fp s3 H3, PE (cxComp X scope cl N fp s3 H3) elt te)
  (hs : ∀ x, foldedSetIterable iter X.env x = pure x := by intro _; rfl) : PE X (.ListComp elt [⟨tg, iter, ifs, 0⟩] scope pos) (tLC wi cap g tt te) := by
 intro pins s σ H Q I h
 obtain ⟨cl, ecl, hcl1, hcl2⟩ := closure_ok (scope := scope) (env := X.env) fun y hy hf => I.ok.has y.1 (C.fre y hy hf)
 rw [eval_ListComp]
 refine wpAny_comprehension_free (use := none) rfl hs ecl C.kind C.loc (thn (hi pins s σ H _ I h) fun xv s1 h1 => thn h1 fun itv s2 h2 => ?_)
 obtain ⟨it, fp, tn, J, H2, e, I2, T, st2, f2, hw⟩ := h2
 subst e
 refine comp_run (RR := fun acc C => compPost (model X.prog X.w) X.A X.xe none (EP X pins σ Q) acc C) I2 T st2 f2 hc C ho hcl1 hcl2 (hg cl fp) (ht cl fp) (he cl fp) hw fun l Ca s' H' m' I' hn hfree hP q => ?_
 exact ⟨m', hn, fun h'' hs'' => ⟨.ref l, H', comp_gone I' hP hfree hs'', rfl, q⟩⟩
theorem ps_lc {i : Nat} {x : Str} {pos' spos : Pos} (hN : X.N.Nodup) (hi' : X.N[i]? = some x) (hx : X.env.scope.names.lookup x = some .local) (hi : PI X tg iter wi) (hc : X.calm = true) (C : CompOk X.env.scope X.N scope N own cap) (ho : GOwn own g)
  (hg : ∀ cl fp s3 H3, PG (cxComp X scope cl N fp s3 H3) tg g) (ht : ∀ cl fp s3 H3, PIfs (cxComp X scope cl N fp s3 H3) ifs tt) (he : ∀ cl fp s3 H3, PE (cxComp X scope cl N fp s3 H3) elt te)
  (hsw : swapsWith (.ListComp elt [⟨tg, iter, ifs, 0⟩] scope pos) (some (.Name x pos')) spos.line X.env = pure true := by rfl)
  (hs : ∀ x, foldedSetIterable iter X.env x = pure x := by intro _; rfl) : PS X (.Assign [.Name x pos'] (.ListComp elt [⟨tg, iter, ifs, 0⟩] scope pos) spos) (tAsg (tLC wi cap g tt te) (gName i)) := by
 intro pins s σ H D I h
 obtain ⟨cl, ecl, hcl1, hcl2⟩ := closure_ok (scope := scope) (env := X.env) fun y hy hf => I.ok.has y.1 (C.fre y hy hf)
 rw [exec_Assign_Name_used _ _ _ _ hsw]
 refine wpAny_bind (wpAny_standAt (wpAny_bind ?_))
 show wpAny _ X.A (do let _ ← comprehension (.ListComp elt [⟨tg, iter, ifs, 0⟩] scope pos) scope X.env _ (newList []) false (eval iter X.env) (some (assign (.Name x pos') X.env))) _ _ s
 refine wpAny_bind (wpAny_mono (wpAny_comprehension_free (use := some (assign (.Name x pos') X.env)) (Q := fun _ s' => SP X pins D .next s') rfl hs ecl C.kind C.loc
  (thn (hi pins s σ H _ I h) fun xv s1 h1 => thn h1 fun itv s2 h2 => ?_)) (fun _ s' hq => wpAny_pure (wpAny_pure hq)) fun _ _ e => e)
 obtain ⟨it, fp, tn, J, H2, e, I2, T, st2, f2, hw⟩ := h2
 subst e
 refine comp_run (RR := fun acc C => compPost (model X.prog X.w) X.A X.xe (some (assign (.Name x pos') X.env)) (fun _ s' => SP X pins D .next s') acc C) I2 T st2 f2 hc C ho hcl1 hcl2 (hg cl fp) (ht cl fp) (he cl fp) hw fun l Ca s' H' m' I' hn hfree hP q => ?_
 show wpAny _ X.A (assign (.Name x pos') X.env (.ref l)) _ _ _
 refine wpAny_assign_Name (store_ok2 I' hN hi' (.inl hx) (v := .ref l) rfl (fun s5 I5 ⟨a, sb, ha⟩ => ?_) (.inr hx))
 have hne : Ca ≠ a := by
  rcases ha with z | z
  ·rw [z]; exact hP.loc
  ·exact fun e => hP.cel x a z e.symm
 refine ⟨m', hn.sameBut sb hne, fun h'' hs'' => ⟨_, H', comp_gone I5 hP hfree hs'', q⟩⟩
end
section
variable {K : PySem.W.Frag} {a l : Addr} {xs : List V} {g : TG} {tt : TT} {te : TE} {cap : List (Option Nat)} {σ : St} {Q : VK} {H1 : Hp}
theorem lc_list (Pv : Nat → List V → Hp → Prop) (h0 : Pv 0 [] (upd H1 l (.lst []))) (hl : ∀ i acc H, i ≤ xs.length → Pv i acc H → SqL K H a xs)
  (hs : ∀ i x acc H, xs[i]? = some x → Pv i acc H → g x (capSt cap σ) H fun σ2 H2 => tt σ2 H2 fun b H3 =>
    if b = true then te σ2 H3 fun y H4 => H4 l = some (.lst acc) ∧ acc.length < sizeLine ∧ Pv (i + 1) (acc ++ [y]) (upd H4 l (.lst (acc ++ [y])))
    else Pv (i + 1) acc H3) (hd : ∀ acc H, Pv xs.length acc H → Q (.ref l) H) : LcW (Itl K a) g tt te cap σ Q l H1 := by
 refine ⟨fun i m acc H => m = xs.length - i ∧ i ≤ xs.length ∧ Pv i acc H, ⟨xs.length, by simp, Nat.zero_le _, h0⟩, ?_⟩
 rintro i m acc H ⟨rfl, hi, p⟩
 have q := hl i acc H hi p
 by_cases hlt : i < xs.length
 ·refine .inr ⟨⟨xs, xs[i], q, by simp [hlt]⟩, Pv (i + 1), fun acc' H' p' => ⟨xs.length - (i + 1), by omega, rfl, hlt, p'⟩, fun x H' y => ?_⟩
  obtain ⟨e, y⟩ := y
  subst e
  exact hs i x acc _ (y xs q) p
 ·have e : i = xs.length := by omega
  subst e
  exact .inl ⟨⟨xs, q, Nat.le_refl _⟩, hd acc H p⟩
theorem upd_self {H : Hp} {a : Addr} {o u : HO} : upd (upd H a o) a u = upd H a u := upd_upd
theorem same_upd {H : Hp} {l : Addr} {o : HO} (hn : H l = none) : Same H (upd H l o) := fun b u e => by rw [upd_ne (ne_of_none e hn)]; exact e
theorem lc_pure {α : Type} (ds : List α) (p : α → Bool) (f : α → V) (hn : H1 l = none) (hx : SqL K H1 a xs) (hlen : xs.length = ds.length) (hz : xs.length < sizeLine)
  (hs : ∀ (i : Nat) x d H, xs[i]? = some x → ds[i]? = some d → Same H1 H → ∀ (P1 : VK) (P0 : Hp → Prop), (p d = true → P1 (f d) H) → (p d = false → P0 H) →
   g x (capSt cap σ) H fun σ2 H2 => tt σ2 H2 fun b H3 => if b = true then te σ2 H3 P1 else P0 H3)
  (hq : Q (.ref l) (upd H1 l (.lst ((ds.filter p).map f)))) : LcW (Itl K a) g tt te cap σ Q l H1 := by
 refine lc_list (fun i acc H => acc = ((ds.take i).filter p).map f ∧ H = upd H1 l (.lst acc)) ⟨rfl, rfl⟩ (fun i acc H _ ⟨_, e⟩ => by rw [e]; exact (same_upd hn).seq hx) ?_ ?_
 ·rintro i x acc H hi ⟨e1, e2⟩
  have hlt : i < xs.length := (List.getElem?_eq_some_iff.mp hi).1
  have hd : ds[i]? = some (ds[i]'(by omega)) := by simp
  generalize ds[i]'(by omega) = d at hd
  have step : ((ds.take (i + 1)).filter p).map f = acc ++ (if p d = true then [f d] else []) := by
   rw [take_succ_filter p ds i d hd, List.map_append, e1]
   cases p d <;> rfl
  refine hs i x d H hi hd (by rw [e2]; exact same_upd hn) _ _ (fun hp => ?_) (fun hp => ?_)
  ·refine ⟨by rw [e2, upd_same], ?_, ?_, ?_⟩
   ·have h1 : acc.length ≤ i := by
     rw [e1, List.length_map]
     exact Nat.le_trans (List.length_filter_le _ _) (by rw [List.length_take]; omega)
    omega
   ·rw [step, hp]; rfl
   ·rw [e2, upd_upd]
  ·refine ⟨?_, e2⟩
   rw [step, hp, if_neg Bool.false_ne_true, List.append_nil]
 ·rintro acc H ⟨e1, e2⟩
  rw [hlen, List.take_length] at e1
  rw [e2, e1]
  exact hq
end
end TL
namespace TL
open PySem PySem.Spec PyProof.Rows L2
mutual
def Dg (L T : Addr → List V → Prop) : PyData → V → Prop
 | .none, v => v = .non
 | .bool b, v => v = .bl b
 | .int i, v => v = .int i
 | .str x, v => v = .str x
 | .list ds, v => ∃ a vs, v = .ref a ∧ L a vs ∧ Dgs L T ds vs
 | .tuple ds, v => ∃ a vs, v = .ref a ∧ T a vs ∧ Dgs L T ds vs
 | .dict _, _ => False
def Dgs (L T : Addr → List V → Prop) : List PyData → List V → Prop
 | [], vs => vs = []
 | d :: ds, vs => ∃ v r, vs = v :: r ∧ Dg L T d v ∧ Dgs L T ds r
end
mutual
theorem Dg.mono {L T L' T' : Addr → List V → Prop} (hL : ∀ a vs, L a vs → L' a vs) (hT : ∀ a vs, T a vs → T' a vs) : ∀ {d : PyData} {v : V}, Dg L T d v → Dg L' T' d v
 | .none, _, h => by simpa only [Dg] using h
 | .bool _, _, h => by simpa only [Dg] using h
 | .int _, _, h => by simpa only [Dg] using h
 | .str _, _, h => by simpa only [Dg] using h
 | .list ds, _, h => by
  simp only [Dg] at h ⊢
  obtain ⟨a, vs, e, l, q⟩ := h
  exact ⟨a, vs, e, hL a vs l, Dgs.mono hL hT q⟩
 | .tuple ds, _, h => by
  simp only [Dg] at h ⊢
  obtain ⟨a, vs, e, l, q⟩ := h
  exact ⟨a, vs, e, hT a vs l, Dgs.mono hL hT q⟩
 | .dict _, _, h => by simp only [Dg] at h
theorem Dgs.mono {L T L' T' : Addr → List V → Prop} (hL : ∀ a vs, L a vs → L' a vs) (hT : ∀ a vs, T a vs → T' a vs) : ∀ {ds : List PyData} {vs : List V}, Dgs L T ds vs → Dgs L' T' ds vs
 | [], _, h => by simpa only [Dgs] using h
 | d :: ds, _, h => by
  simp only [Dgs] at h ⊢
  obtain ⟨v, r, e, l, q⟩ := h
  exact ⟨v, r, e, Dg.mono hL hT l, Dgs.mono hL hT q⟩
end
section
variable {L T : Addr → List V → Prop}
theorem dg_int {i : Int} {v : V} : Dg L T (.int i) v ↔ v = .int i := by simp only [Dg]
theorem dg_list {ds : List PyData} {v : V} : Dg L T (.list ds) v ↔ ∃ a vs, v = .ref a ∧ L a vs ∧ Dgs L T ds vs := by simp only [Dg]
theorem dg_tuple {ds : List PyData} {v : V} : Dg L T (.tuple ds) v ↔ ∃ a vs, v = .ref a ∧ T a vs ∧ Dgs L T ds vs := by simp only [Dg]
theorem dgs_nil {vs : List V} : Dgs L T [] vs ↔ vs = [] := by simp only [Dgs]
theorem dgs_cons {d : PyData} {ds : List PyData} {vs : List V} : Dgs L T (d :: ds) vs ↔ ∃ v r, vs = v :: r ∧ Dg L T d v ∧ Dgs L T ds r := by simp only [Dgs]
theorem Dgs.length : ∀ {ds : List PyData} {vs : List V}, Dgs L T ds vs → vs.length = ds.length
 | [], _, h => by rw [dgs_nil.mp h]; rfl
 | d :: ds, _, h => by
  obtain ⟨v, r, rfl, _, q⟩ := dgs_cons.mp h
  rw [List.length_cons, List.length_cons, Dgs.length q]
theorem dgs_ints : ∀ {ns : List Int} {vs : List V}, Dgs L T (ns.map .int) vs ↔ vs = ns.map V.int
 | [], vs => dgs_nil
 | n :: ns, vs => by
  rw [List.map_cons, dgs_cons]
  constructor
  ·rintro ⟨v, r, rfl, h1, h2⟩
   rw [dg_int.mp h1, dgs_ints.mp h2]; rfl
  ·rintro rfl
   exact ⟨_, _, rfl, dg_int.mpr rfl, dgs_ints.mpr rfl⟩
theorem Dgs.append : ∀ {ds es : List PyData} {vs us : List V}, Dgs L T ds vs → Dgs L T es us → Dgs L T (ds ++ es) (vs ++ us)
 | [], _, _, _, h, k => by rw [dgs_nil.mp h]; exact k
 | d :: ds, _, _, _, h, k => by
  obtain ⟨v, r, rfl, h1, q⟩ := dgs_cons.mp h
  exact dgs_cons.mpr ⟨v, _, rfl, h1, Dgs.append q k⟩
theorem Dgs.one {d : PyData} {v : V} (h : Dg L T d v) : Dgs L T [d] [v] := dgs_cons.mpr ⟨v, [], rfl, h, dgs_nil.mpr rfl⟩
theorem Dgs.two {d e : PyData} {v u : V} (h : Dg L T d v) (k : Dg L T e u) : Dgs L T [d, e] [v, u] := dgs_cons.mpr ⟨v, [u], rfl, h, .one k⟩
theorem Dgs.get : ∀ {ds : List PyData} {vs : List V} {i : Nat} {v : V}, Dgs L T ds vs → vs[i]? = some v → ∃ d, ds[i]? = some d ∧ Dg L T d v
 | [], _, _, _, h, e => by rw [dgs_nil.mp h] at e; simp at e
 | d :: ds, _, 0, v, h, e => by
  obtain ⟨x, r, rfl, h1, q⟩ := dgs_cons.mp h
  simp at e; subst e
  exact ⟨d, rfl, h1⟩
 | d :: ds, _, i + 1, v, h, e => by
  obtain ⟨x, r, rfl, h1, q⟩ := dgs_cons.mp h
  obtain ⟨d', e1, e2⟩ := Dgs.get (i := i) (v := v) q (by simpa using e)
  exact ⟨d', by simpa using e1, e2⟩
theorem Dgs.insert : ∀ {ds : List PyData} {vs : List V} (i : Nat) {d : PyData} {v : V}, Dgs L T ds vs → Dg L T d v → Dgs L T (ds.take i ++ d :: ds.drop i) (vs.take i ++ v :: vs.drop i)
 | ds, vs, 0, d, v, h, k => dgs_cons.mpr ⟨v, vs, by simp, k, by simpa using h⟩
 | [], vs, i + 1, d, v, h, k => by rw [dgs_nil.mp h]; simpa using Dgs.one k
 | x :: ds, vs, i + 1, d, v, h, k => by
  obtain ⟨y, r, rfl, h1, q⟩ := dgs_cons.mp h
  exact dgs_cons.mpr ⟨y, _, rfl, h1, Dgs.insert i q k⟩
end
abbrev Da (K : PySem.W.Frag) (H : Hp) : PyData → V → Prop := Dg (SqL K H) (SqT K H)
abbrev Das (K : PySem.W.Frag) (H : Hp) : List PyData → List V → Prop := Dgs (SqL K H) (SqT K H)
theorem same_tseq {K : PySem.W.Frag} {H H' : Hp} {a : Addr} {xs : List V} (e : Same H H') (h : SqT K H a xs) : SqT K H' a xs := by
 rcases h with (h | ⟨o, h⟩) | h
 ·exact .inl (.inl (e _ _ h))
 ·exact .inl (.inr ⟨o, e _ _ h⟩)
 ·exact .inr h
theorem Da.same {K : PySem.W.Frag} {H H' : Hp} (e : Same H H') {d : PyData} {v : V} (h : Da K H d v) : Da K H' d v := Dg.mono (fun _ _ q => e.seq q) (fun _ _ q => same_tseq e q) h
theorem Das.same {K : PySem.W.Frag} {H H' : Hp} (e : Same H H') {d : List PyData} {v : List V} (h : Das K H d v) : Das K H' d v := Dgs.mono (fun _ _ q => e.seq q) (fun _ _ q => same_tseq e q) h
section
variable {X : Cx} {pins : List (Addr × Obj)} {σ : St} {H : Hp} {s : Shared}
mutual
theorem Da.reads (I : Inv X pins σ H s) : ∀ {d : PyData} {v : V} {u : Value}, Da X.K H d v → RelV v u → ∃ as, Reads s.heap u d as
 | .none, v, u, h, r => by
  have e : v = .non := by simpa only [Dg] using h
  subst e; cases r; exact ⟨_, .none⟩
 | .bool b, v, u, h, r => by
  have e : v = .bl b := by simpa only [Dg] using h
  subst e; cases r; exact ⟨_, .bool b⟩
 | .int i, v, u, h, r => by
  have e : v = .int i := by simpa only [Dg] using h
  subst e; obtain ⟨t, rfl⟩ := r; exact ⟨_, .int i t⟩
 | .str i, v, u, h, r => by
  have e : v = .str i := by simpa only [Dg] using h
  subst e; obtain ⟨t, rfl⟩ := r; exact ⟨_, .str i t⟩
 | .list ds, v, u, h, r => by
  obtain ⟨a, vs, rfl, l, q⟩ := dg_list.mp h
  cases r
  obtain ⟨its, rv, p, hz⟩ := I.list l
  obtain ⟨as, rs⟩ := Das.reads I q rv
  obtain ⟨o, ho, hc, n, hd⟩ := p.isList
  exact ⟨_, .list ho hc hd (by simpa using rs)⟩
 | .tuple ds, v, u, h, r => by
  obtain ⟨a, vs, rfl, l, q⟩ := dg_tuple.mp h
  cases r
  obtain ⟨its, rv, p, hz⟩ := I.tuple l
  obtain ⟨as, rs⟩ := Das.reads I q rv
  obtain ⟨o, ho, hc, n, hd⟩ := p
  exact ⟨_, .tuple ho hc hd (by simpa using rs)⟩
 | .dict _, v, u, h, r => by simp only [Dg] at h
theorem Das.reads (I : Inv X pins σ H s) : ∀ {ds : List PyData} {vs : List V} {us : List Value}, Das X.K H ds vs → Vals vs us → ∃ as, ReadsAll s.heap us ds as
 | [], vs, us, h, r => by
  rw [dgs_nil.mp h] at r; cases r; exact ⟨_, .nil⟩
 | d :: ds, vs, us, h, r => by
  obtain ⟨v, w, rfl, h1, q⟩ := dgs_cons.mp h
  cases r with
  | cons r1 r2 =>
   obtain ⟨as, e1⟩ := Da.reads I h1 r1
   obtain ⟨bs, e2⟩ := Das.reads I q r2
   exact ⟨_, .cons e1 e2⟩
end
end
section
variable {X : Cx}
def OkD (d : PyData) : Prop := d.canLay0 = true ∧ d.depth ≤ 20
def rEqD (K : PySem.W.Frag) : R2 := fun x y H Q => ∃ d e, Da K H d x ∧ Da K H e y ∧ OkD d ∧ OkD e ∧ Q (.bl (PyData.eqv d e)) H
theorem op_eqD (hu : X.A.units + 64 < cLine) : OpR X (compareOp .Eq) (rEqD X.K) := by
 intro pins s σ H x y v u Q I rx ry h
 obtain ⟨d, e, h1, h2, o1, o2, q⟩ := h
 obtain ⟨as, r1⟩ := Da.reads I h1 rx
 obtain ⟨bs, r2⟩ := Da.reads I h2 ry
 exact SeqAt.compareEq_reads r1 r2 o1.1 o2.1 (by have := o1.2; have := o2.2; omega) ⟨.bl _, H, I, rfl, q⟩
def OkDs (ds : List PyData) : Prop := PyData.canLayAll0 ds = true ∧ PyData.depthAll ds ≤ 20
def rInD (K : PySem.W.Frag) (neg : Bool) : R2 := fun x y H Q => ∃ ds d, Da K H (.list ds) y ∧ Da K H d x ∧ OkDs ds ∧ OkD d ∧ Q (.bl (if neg then !(ds.any fun z => PyData.eqv z d) else ds.any fun z => PyData.eqv z d)) H
theorem op_inD (hu : X.A.units + 64 < cLine) : OpR X (compareOp .In) (rInD X.K false) := by
 intro pins s σ H x y v u Q I rx ry h
 obtain ⟨ds, d, h1, h2, o1, o2, q⟩ := h
 obtain ⟨as, r1⟩ := Da.reads I h1 ry
 obtain ⟨bs, r2⟩ := Da.reads I h2 rx
 exact SeqAt.in_list_reads r1 r2 o1.1 o2.1 (by have := o1.2; have := o2.2; omega) ⟨.bl _, H, I, rfl, q⟩
theorem op_notInD (hu : X.A.units + 64 < cLine) : OpR X (compareOp .NotIn) (rInD X.K true) := by
 intro pins s σ H x y v u Q I rx ry h
 obtain ⟨ds, d, h1, h2, o1, o2, q⟩ := h
 obtain ⟨as, r1⟩ := Da.reads I h1 ry
 obtain ⟨bs, r2⟩ := Da.reads I h2 rx
 exact SeqAt.notIn_list_reads r1 r2 o1.1 o2.1 (by have := o1.2; have := o2.2; omega) ⟨.bl _, H, I, rfl, q⟩
end
theorem canLayAll0_map {α : Type} {f : α → PyData} (h : ∀ x, (f x).canLay0 = true) : ∀ l : List α, PyData.canLayAll0 (l.map f) = true
 | [] => by simp [PyData.canLayAll0]
 | x :: l => by simp [PyData.canLayAll0, h x, canLayAll0_map h l]
theorem depthAll_map {α : Type} {f : α → PyData} {k : Nat} (h : ∀ x, (f x).depth ≤ k) : ∀ l : List α, PyData.depthAll (l.map f) ≤ k
 | [] => by simp [PyData.depthAll]
 | x :: l => by
  simp only [List.map_cons, PyData.depthAll]
  exact Nat.max_le.mpr ⟨h x, depthAll_map h l⟩
def dI (ns : List Int) : PyData := .list (ns.map .int)
def dP (p : Int × Int) : PyData := .tuple [.int p.1, .int p.2]
def dJ (js : List (Int × Int)) : PyData := .list (js.map dP)
def dL (l : Int × List (Int × Int)) : PyData := .tuple [.int l.1, dJ l.2]
theorem okD_int (i : Int) : OkD (.int i) := ⟨rfl, by simp [PyData.depth]⟩
theorem okD_ints (ns : List Int) : OkD (dI ns) := ⟨by simp only [dI, PyData.canLay0]; exact canLayAll0_map (fun _ => rfl) ns, by
 simp only [dI, PyData.depth]
 have := depthAll_map (f := PyData.int) (k := 0) (fun _ => by simp [PyData.depth]) ns
 omega⟩
theorem canLay_P (p : Int × Int) : (dP p).canLay0 = true := by simp [dP, PyData.canLay0, PyData.canLayAll0]
theorem depth_P (p : Int × Int) : (dP p).depth ≤ 1 := by simp [dP, PyData.depth, PyData.depthAll]
theorem okD_P (p : Int × Int) : OkD (dP p) := ⟨canLay_P p, by have := depth_P p; omega⟩
theorem okDs_P (js : List (Int × Int)) : OkDs (js.map dP) := ⟨canLayAll0_map canLay_P js, by have := depthAll_map depth_P js; omega⟩
theorem depth_J (js : List (Int × Int)) : (dJ js).depth ≤ 2 := by simp only [dJ, PyData.depth]; have := depthAll_map depth_P js; omega
theorem okD_J (js : List (Int × Int)) : OkD (dJ js) := ⟨by simp only [dJ, PyData.canLay0]; exact canLayAll0_map canLay_P js, by have := depth_J js; omega⟩
theorem eqv_same {d : PyData} (h : OkD d) : PyData.eqv d d = true := SeqAt.eqv_refl d h.1
theorem eqv_list_nil (ds : List PyData) : PyData.eqv (.list ds) (.list []) = ds.isEmpty := by
 cases ds <;> simp [PyData.eqv, PyData.eqvAll]
theorem okD_nil : OkD (.list []) := okD_ints []
end TL
namespace TL
open PySem PySem.Spec PyProof.Rows L2
section
variable {X : Cx}
theorem ins_arr (its : List Value) (k : Nat) (y : Value) : (its.toArray.extract 0 k).push y ++ its.toArray.extract k = (its.take k ++ y :: its.drop k).toArray := PySem.W.kl_ins_eq its k y
def rInsert : V → List V → Hp → VK → Prop := fun x vs H Q => ∃ l xs i y, x = .ref l ∧ vs = [.int i, y] ∧ H l = some (.lst xs) ∧ 0 ≤ i ∧ i ≤ xs.length ∧ xs.length < sizeLine ∧ Q .non (upd H l (.lst (xs.take i.toNat ++ y :: xs.drop i.toNat)))
theorem mt_insert : MtM X "list.insert" rInsert := by
 intro pins s σ H x vs v us Q I rx rv h
 obtain ⟨l, xs, i, y, rfl, rfl, hH, h0, h1, hz, q⟩ := h
 cases rx
 obtain ⟨ui, u, rfl, ri, ru⟩ := rv.two
 obtain ⟨t, rfl⟩ := ri
 obtain ⟨z, its, n, r, hl, e⟩ := I.lstM hH
 have hs : its.toArray.size ≤ sizeLine := by rw [List.size_toArray]; omega
 have hf : Builtin.List.listFitsIndex i = true := by
  unfold Builtin.List.listFitsIndex
  have h63 : (sizeLine : Nat) < 2 ^ 62 := by rw [sizeLine_eq]; decide
  simp only [Bool.and_eq_true, decide_eq_true_eq]
  constructor <;> omega
 refine call_meets PySem.F.slot_list_insert ⟨_, e, rfl⟩ PySem.F.entry_list_insert (PySem.F.args_list_insert_3 _ _ _) (PySem.AutoSeq1.list_insert_list_int_val_1 l its.toArray n i t u (by simp [hf]) hs) ⟨e, ?_⟩
 refine ⟨.non, _, I.lset (its' := its.take i.toNat ++ u :: its.drop i.toNat) (ys := xs.take i.toNat ++ y :: xs.drop i.toNat) hH e ?_ ((r.take i.toNat).append (.cons ru (r.drop i.toNat))) ?_, rfl, q⟩
 ·have hk : (if i < 0 then (i + (its.toArray.size : Int)).toNat else min i.toNat its.toArray.size) = i.toNat := by
   rw [if_neg (by omega), List.size_toArray]
   omega
  show (its.toArray.extract 0 (if i < 0 then (i + (its.toArray.size : Int)).toNat else min i.toNat its.toArray.size)).push u ++ its.toArray.extract (if i < 0 then (i + (its.toArray.size : Int)).toNat else min i.toNat its.toArray.size) = _
  rw [hk, ins_arr]
 ·rw [List.length_append, List.length_cons, List.length_take, List.length_drop]
  omega
end
def srt (ns : List Int) : List Int := ns.mergeSort (fun a b => decide (a ≤ b))
theorem srt_perm (ns : List Int) : (srt ns).Perm ns := List.mergeSort_perm ns _
theorem srt_pair (ns : List Int) : (srt ns).Pairwise (· ≤ ·) := by
 have h := List.pairwise_mergeSort (le := fun a b : Int => decide (a ≤ b)) (by intro a b c h1 h2; simp only [decide_eq_true_eq] at *; omega) (by intro a b; simp only [Bool.or_eq_true, decide_eq_true_eq]; omega) ns
 exact h.imp (by intro a b h; simpa using h)
theorem srt_unique {a b : List Int} (hp : a.Perm b) (ha : a.Pairwise (· ≤ ·)) (hb : b.Pairwise (· ≤ ·)) : a = b := PySem.W.ksm_same hp ha hb
theorem srt_eq {a ns : List Int} (hp : a.Perm ns) (ha : a.Pairwise (· ≤ ·)) : a = srt ns := srt_unique (hp.trans (srt_perm ns).symm) ha (srt_pair ns)
theorem srt_mem {ns : List Int} {x : Int} : x ∈ srt ns ↔ x ∈ ns := (srt_perm ns).mem_iff
theorem srt_length (ns : List Int) : (srt ns).length = ns.length := (srt_perm ns).length_eq
section
variable {X : Cx}
theorem call_sorted : CallR X (.builtin "sorted") (fun xs H Q => ∃ a ns, xs = [.ref a] ∧ SqL X.K H a (ns.map V.int) ∧ ns.length < 64 ∧ ∀ p, H p = none → Q (.ref p) (upd H p (.lst ((srt ns).map V.int)))) := by
 intro pins s σ H xs us Q I r h
 obtain ⟨a, ns, rfl, hx, h64, q⟩ := h
 obtain ⟨u, rfl, ru⟩ := vals1 r
 cases ru
 obtain ⟨its, rv, p, hz⟩ := I.list hx
 have hlen := rv.length
 rw [List.length_map] at hlen
 refine sorted_ints p.isList (intsAre_of rv) (by omega) fun out ns' h1 h2 h3 => ?_
 obtain ⟨e, he⟩ := sortedAll_at s.heap its out
 have e' : ns' = srt ns := srt_eq h2 h3
 subst e'
 have vo : Vals ((srt ns).map V.int) out.toList := vals_ints h1
 refine ⟨.ref (s.heap.objs.size + 1), _, I.laid (t' := s.toks) (o := .lst ((srt ns).map V.int)) (fun b ob q => sortedAll_old q) (Nat.le_succ _) ⟨?_, out.toList, e, vo, ?_⟩, rfl, q _ (I.hok.fresh (Nat.le_succ _))⟩
 ·rw [List.length_map, srt_length]
  rw [List.length_map] at hz
  exact hz
 ·rw [he, Array.toArray_toList]
end
theorem Inv.turnedTup {X : Cx} {pins : List (Addr × Obj)} {σ : St} {H : Hp} {s : Shared} {h' : Heap} {t' : Nat} {ch : List Addr} {xs : List V} {us : List Value} (I : Inv X pins σ H s) (hf : ∀ b ∈ ch, FpOk X pins H b)
  (keep : ∀ b o, b ∉ ch → s.heap.get? b = some o → h'.get? b = some o) (r : Vals xs us) (hz : xs.length ≤ sizeLine) (ht : h'.get? s.heap.objs.size = some { cls := .type "tuple", data := .seq us.toArray }) :
  Inv X pins σ (upd H s.heap.objs.size (.tup xs)) { s with heap := h', toks := t' } := by
 have hn : H s.heap.objs.size = none := I.fresh
 have nch : ∀ b u, H b = some u → b ∉ ch := fun b u q z => by rw [(hf b z).1] at q; cases q
 refine I.step (g' := s.gens) (d' := s.drawn) (ch := ch) (fun b hb => ?_) (fun b o _ _ hc q _ => keep b o hc q) (fun b o _ _ hc q _ => ⟨o.slots, keep b o hc q⟩) (fun b o _ q n => ?_)
  (fun b o hc q => ⟨o, keep b o hc q⟩) (fun b ys q => by rw [upd_ne (ne_of_none q hn)]; exact q) (fun b o ys q => by rw [upd_ne (ne_of_none q hn)]; exact q) (fun b ps q => ⟨#[], by rw [upd_ne (ne_of_none q hn), q]; simp⟩) (fun m hm => ?_) (fun b u q => ?_) I.bare
 ·obtain ⟨f0, f1, f2, f3, f4, f5⟩ := hf b hb
  exact ⟨f3, f1, f4, f5⟩
 ·rw [upd_ne (Nat.ne_of_lt (Heap.lt_size q))]; exact n
 ·obtain ⟨o, es, ep, ho, r⟩ := hm
  exact ⟨o, es, ep, keep _ o (fun z => (hf _ z).2.1 rfl) ho, r⟩
 ·by_cases hb : b = s.heap.objs.size
  ·subst hb
   rw [upd_same] at q
   cases q
   exact ⟨hz, us, r, ⟨_, ht, rfl, _, rfl⟩⟩
  ·rw [upd_ne hb] at q
   refine (I.hok b u q).stay (fun c v hc q' => keep c v ?_ q') (fun c z => by rw [upd_ne (ne_of_none z hn)]; exact z) fun c ys z => by rw [upd_ne (ne_of_none z hn)]; exact z
   rcases hc with z | z
   ·rw [z]; exact nch b u q
   ·exact nch c _ z
def Ite (K : PySem.W.Frag) (a : Addr) : It :=
 ⟨fun i H => ∃ xs x, SqL K H a xs ∧ xs[i]? = some x, fun i H x H' => ∃ p, H p = none ∧ x = .ref p ∧ ∀ xs y, SqL K H a xs → xs[i]? = some y → H' = upd H p (.tup [.int i, y]), fun i H => ∃ xs, SqL K H a xs ∧ xs.length ≤ i⟩
theorem turn_enum {P : Program} {w : World} {K : PySem.W.Frag} {es : List Expr} {x1 : Nat} {pt : Pos} (a e it : Addr) (hne : e ≠ it) :
  Turn P w K (.Tuple es x1 pt) (Ite K a) [e, it] e (fun i h => ∃ old, IsEnum h e it i old ∧ h.IsListIter it a i) where
 mem := by simp
 obj := fun i h st b hb => by
  obtain ⟨old, h1, h2⟩ := st
  rcases List.mem_cons.mp hb with z | z
  ·subst z; exact ⟨_, h1, fun v z => by cases z⟩
  ·have z : b = it := by simpa using z
   subst z
   obtain ⟨o, ho, c, d⟩ := h2
   exact ⟨o, ho, fun v z => by rw [d] at z; cases z⟩
 keep := fun i h h' ⟨old, h1, h2⟩ k => ⟨old, k e (by simp) _ h1, h2.at fun o q => k it (by simp) o q⟩
 item := by
  intro X hP hw hK hc i pins s σ H E I hf st hg
  subst hP hw hK
  obtain ⟨old, h1, h2⟩ := st
  obtain ⟨xs, x, hq, hx⟩ := hg
  obtain ⟨its, rv, p, hz⟩ := I.list hq
  obtain ⟨u, hu, ru⟩ := rv.get hx
  have lt1 : e < s.heap.objs.size := Heap.lt_size h1
  refine wpAny_pyNext_enum_item h1 h2 p.isList (x := u) (by simpa using hu) hne fun h' k1 k2 k3 k4 k5 => ?_
  refine ⟨_, rfl, ?_⟩
  refine wpAny_letOwnedTupleGo_enum (s := { s with heap := h', toks := s.toks + 1 }) k1 fun h'' m1 m2 => ?_
  have keep : ∀ b o, b ∉ [e, it] → s.heap.get? b = some o → h''.get? b = some o := fun b o hb q => m2.extBut b o (fun z => hb (by simp [z])) (k5 b o (fun z => hb (by simp [z])) (fun z => hb (by simp [z])) q)
  have ht : h''.get? s.heap.objs.size = some { cls := .type "tuple", data := .seq [Value.int i s.toks, u].toArray } := m2.extBut _ _ (Nat.ne_of_gt lt1) k3
  have J1 : Inv X pins σ (upd H s.heap.objs.size (.tup [.int i, x])) { s with heap := h'', toks := s.toks + 1 } := Inv.turnedTup I hf keep (.cons ⟨_, rfl⟩ (.cons ru .nil)) (by show 2 ≤ sizeLine; decide) ht
  have hn : H s.heap.objs.size = none := I.fresh
  refine ⟨.ref s.heap.objs.size, _, J1, rfl, ⟨_, hn, rfl, fun ys y hy h => ?_⟩, ⟨u, ?_, ?_⟩, fun b hb => ?_⟩
  ·have e1 := I.list_inj hy hq
   subst e1
   rw [hx] at h
   cases h
   rfl
  ·have e1 : ((i + 1 : Nat) : Int) = (i : Int) + 1 := by omega
   rw [e1]; exact m1
  ·exact k2.extBut m2.extBut (Ne.symm hne)
  ·obtain ⟨o, q, _⟩ : ∃ o, s.heap.get? b = some o ∧ True := by
    rcases List.mem_cons.mp hb with z | z
    ·subst z; exact ⟨_, h1, trivial⟩
    ·have z : b = it := by simpa using z
     subst z
     obtain ⟨o, ho, _⟩ := h2
     exact ⟨o, ho, trivial⟩
   rw [upd_ne (Nat.ne_of_lt (Heap.lt_size q))]
   exact (hf b hb).1
 done := by
  intro X hP hw hK hc i pins s σ H E I hf st hg
  subst hP hw hK
  obtain ⟨old, h1, h2⟩ := st
  obtain ⟨xs, hq, hx⟩ := hg
  obtain ⟨its, rv, p, hz⟩ := I.list hq
  obtain ⟨g0, g1, g2, g3, g4, g5⟩ := hf it (by simp)
  have hl := rv.length
  exact wpAny_pyNext_enum_end (I.ok.hd hc) h1 h2 p.isList (by simp; omega) fun h' eb => ⟨rfl, I.turned (t' := s.toks) (fun b o hb e => eb b o hb e) g0 g1 g3 g4 g5⟩
 self := fun _ _ _ _ _ ⟨old, h1, h2⟩ h => wpAny_pyIter_enum h1 h
section
variable {X : Cx}
def iEnum (K : PySem.W.Frag) (ta : TA) : TI := fun σ H R => ta σ H fun vs H1 => ∃ a, vs = [.ref a] ∧ (∃ xs, SqL K H1 a xs) ∧ R (Ite K a) H1
theorem pi_enum {a : Expr} {ta : TA} {p pos : Pos} {es : List Expr} {x1 : Nat} {pt : Pos} (hg : Gl X "enumerate") (hm : X.mg "enumerate" = none) (ha : PA X [a] ta) (hs : starEach [a] X.env = [(false, eval a X.env)] := by rfl) : PI X (.Tuple es x1 pt) (.Call (.Name "enumerate" p) [a] [] pos) (iEnum X.K ta) := by
 intro pins s σ H R I h
 refine Call_ (ld_blt I hg hm boot_enumerate (PyProof.Rows.callWith_type1 (thn (ha pos pins s σ H _ I h) fun us s1 ⟨vs, H1, I1, r1, q1⟩ => ?_) hs rfl))
 obtain ⟨a, e, ⟨xs, hq⟩, q⟩ := q1
 subst e
 obtain ⟨u, rfl, ru⟩ := vals1 r1
 cases ru
 obtain ⟨its, rv, pl, hz⟩ := I1.list hq
 refine call_enumerate_list pl.isList fun h' k1 k2 k3 k4 => ?_
 refine wpAny_pyIter_enum (s := { s1 with heap := h' }) k1 ?_
 refine ⟨s1.heap.objs.size + 1, [s1.heap.objs.size + 1, s1.heap.objs.size], _, _, H1, rfl, I1.kept (t' := s1.toks) k4, turn_enum a _ _ (Nat.succ_ne_self _), ⟨.none, k1, k2⟩, fun b hb => ?_, q⟩
 have hb' : s1.heap.objs.size ≤ b := by
  rcases List.mem_cons.mp hb with z | z
  ·rw [z]; exact Nat.le_succ _
  ·have z : b = s1.heap.objs.size := by simpa using z
   rw [z]; exact Nat.le_refl _
 exact I1.fpOk hb' (I1.hok.fresh hb')
end
theorem for_enum {K : PySem.W.Frag} {a : Addr} {xs : List V} {g : TG} {tb : TS} {D : Ends} {σ : St} {H : Hp} (Pv : Nat → St → Hp → Prop) (h0 : Pv 0 σ H) (hl : ∀ i σ H, i ≤ xs.length → Pv i σ H → SqL K H a xs)
  (hs : ∀ i x σ H p, xs[i]? = some x → Pv i σ H → H p = none → g (.ref p) σ (upd H p (.tup [.int i, x])) fun σ2 H2 => tb { D with nx := Pv (i + 1), ct := Pv (i + 1), bk := D.nx } σ2 H2) (hd : ∀ σ H, Pv xs.length σ H → D.nx σ H) :
  ∃ W : Nat → Nat → St → Hp → Prop, (∃ m, W 0 m σ H) ∧ ∀ i m σ H, W i m σ H →
   ((Ite K a).stop i H ∧ D.nx σ H) ∨ ((Ite K a).go i H ∧ ∃ N : St → Hp → Prop, (∀ σ' H', N σ' H' → ∃ m', m' < m ∧ W (i + 1) m' σ' H') ∧ ∀ x H', (Ite K a).yld i H x H' → g x σ H' fun σ2 H2 => tb { D with nx := N, ct := N, bk := D.nx } σ2 H2) := by
 refine ⟨fun i m σ H => m = xs.length - i ∧ i ≤ xs.length ∧ Pv i σ H, ⟨xs.length, by simp, Nat.zero_le _, h0⟩, ?_⟩
 rintro i m σ H ⟨rfl, hi, p⟩
 have q := hl i σ H hi p
 by_cases hlt : i < xs.length
 ·refine .inr ⟨⟨xs, xs[i], q, by simp [hlt]⟩, Pv (i + 1), fun σ' H' p' => ⟨xs.length - (i + 1), by omega, rfl, hlt, p'⟩, fun x H' y => ?_⟩
  obtain ⟨pa, hp, e, y⟩ := y
  subst e
  have hx : xs[i]? = some xs[i] := by simp [hlt]
  rw [y xs _ q hx]
  exact hs i _ σ H pa hx p hp
 ·have e : i = xs.length := by omega
  subst e
  exact .inl ⟨⟨xs, q, Nat.le_refl _⟩, hd σ H p⟩
section
variable {X : Cx} {tg : Expr}
end
section
variable {X : Cx} {e : Expr} {te : TE} {pos p2 : Pos}
end
end TL
namespace TL
open PySem PySem.Spec PyProof.Rows L2
theorem call_isinst {X : Cx} : CallR X (.builtin "isinstance") (fun xs H Q => ∃ x c t b, xs = [x, .ty c] ∧ TyOf X.K H x t ∧ PySem.W.kitOne X.K t (.type c) = some b ∧ Q (.bl b) H) := by
 intro pins s σ H xs us Q I r h
 obtain ⟨x, c, t, b, rfl, ty, e, q⟩ := h
 obtain ⟨u, u2, rfl, ru, rc⟩ := vals2 r
 cases rc
 exact isinst_ok I ru ty e fun tk => ⟨.bl b, H, I.tok tk, rfl, q⟩
theorem kit_same {K : PySem.W.Frag} {t : Value} : PySem.W.kitOne K t t = some true := by unfold PySem.W.kitOne; rw [if_pos (by simp)]
structure Bl (mg : Str → Option Value) : Prop where
 len : mg "len" = none
 range : mg "range" = none
 sorted : mg "sorted" = none
 enumerate : mg "enumerate" = none
 reversed : mg "reversed" = none
 min : mg "min" = none
 max : mg "max" = none
 list : mg "list" = none
 int : mg "int" = none
 isinstance : mg "isinstance" = none
structure Fn (K : PySem.W.Frag) (mg : Str → Option Value) (x : Str) (st : Stmt) (ps : List Str) (f : Addr) (fd : FuncData) : Prop where
 F : Fun K x x st f fd
 m : mg x = some (.ref f)
 b : Binds K fd ps []
def below (js : List (Int × Int)) (e : Int) : List Int := (js.filter fun p => decide (p.2 = e)).map (·.1)
def above (js : List (Int × Int)) (e : Int) : List Int := (js.filter fun p => decide (p.1 = e)).map (·.2)
def inc (js : List (Int × Int)) (e : Int) : Nat := (below js e).length + (above js e).length
def jn (js : List (Int × Int)) (e : Int) : List Int := srt (below js e ++ above js e)
structure LineOk (l : Int × List (Int × Int)) : Prop where
 one : 1 ≤ l.1
 most : l.1 ≤ 40
 len : l.2.length ≤ 80
 inc : ∀ e, inc l.2 e ≤ 60
 ends : ∀ p ∈ l.2, 0 ≤ p.1 ∧ p.1 ≤ p.2 ∧ p.2 < 2 * l.1
theorem inc_le (js : List (Int × Int)) (e : Int) : inc js e ≤ 2 * js.length := by
 unfold inc below above
 rw [List.length_map, List.length_map]
 have h1 := List.length_filter_le (fun p : Int × Int => decide (p.2 = e)) js
 have h2 := List.length_filter_le (fun p : Int × Int => decide (p.1 = e)) js
 omega
def NewInts (H : Hp) (ns : List Int) (Q : VK) : Prop := ∀ (p : Addr) (H' : Hp), Same H H' → H p = none → H' p = some (.lst (ns.map V.int)) → Q (.ref p) H'
theorem Same.upd {H H' : Hp} {l : Addr} {o : HO} (s : Same H H') (hn : H l = none) : Same H (upd H' l o) := fun b u e => by rw [upd_ne (ne_of_none e hn)]; exact s b u e
theorem da_ints {K : PySem.W.Frag} {H : Hp} {ns : List Int} {v : V} : Da K H (dI ns) v ↔ ∃ a, v = .ref a ∧ SqL K H a (ns.map V.int) := by
 unfold dI
 refine Iff.trans dg_list ?_
 constructor
 ·rintro ⟨a, vs, rfl, h, q⟩
  rw [dgs_ints.mp q] at h
  exact ⟨a, rfl, h⟩
 ·rintro ⟨a, rfl, h⟩
  exact ⟨a, _, rfl, h, dgs_ints.mpr rfl⟩
theorem da_line {K : PySem.W.Frag} {H : Hp} {l : Int × List (Int × Int)} {v : V} (h : Da K H (dL l) v) : ∃ a b, v = .ref a ∧ SqT K H a [.int l.1, .ref b] ∧ ∃ vs, SqL K H b vs ∧ Das K H (l.2.map dP) vs := by
 unfold dL at h
 obtain ⟨a, vs, rfl, ht, q⟩ := dg_tuple.mp h
 obtain ⟨v1, r, rfl, h1, q⟩ := dgs_cons.mp q
 obtain ⟨v2, r, rfl, h2, q⟩ := dgs_cons.mp q
 cases dgs_nil.mp q
 cases dg_int.mp h1
 unfold dJ at h2
 obtain ⟨b, us, rfl, hl, q⟩ := dg_list.mp h2
 exact ⟨a, b, rfl, ht, us, hl, q⟩
theorem das_pair {K : PySem.W.Frag} {H : Hp} {js : List (Int × Int)} {vs : List V} {i : Nat} {x : V} (h : Das K H (js.map dP) vs) (e : vs[i]? = some x) : ∃ a p, js[i]? = some p ∧ x = .ref a ∧ SqT K H a [.int p.1, .int p.2] := by
 obtain ⟨d, e1, hd⟩ := Dgs.get h e
 rw [List.getElem?_map] at e1
 cases q : js[i]? with
 | none => rw [q] at e1; cases e1
 | some p =>
  rw [q] at e1
  cases e1
  unfold dP at hd
  obtain ⟨a, us, rfl, ht, q⟩ := dg_tuple.mp hd
  obtain ⟨v1, r, rfl, h1, q⟩ := dgs_cons.mp q
  obtain ⟨v2, r, rfl, h2, q⟩ := dgs_cons.mp q
  cases dgs_nil.mp q
  cases dg_int.mp h1
  cases dg_int.mp h2
  exact ⟨a, p, rfl, rfl, ht⟩
theorem okDs_I (ms : List Int) : OkDs (ms.map PyData.int) := ⟨canLayAll0_map (fun _ => rfl) ms, by have := depthAll_map (f := PyData.int) (k := 0) (fun _ => by simp [PyData.depth]) ms; omega⟩
theorem any_I (ms : List Int) (x : Int) : ((ms.map PyData.int).any fun z => PyData.eqv z (.int x)) = decide (x ∈ ms) := by
 rw [List.any_map, Bool.eq_iff_iff, List.any_eq_true, decide_eq_true_iff]
 constructor
 ·rintro ⟨y, hy, e⟩
  have e' : PyData.eqv (.int y) (.int x) = true := e
  simp only [PyData.eqv, beq_iff_eq] at e'
  rw [← e']; exact hy
 ·intro h
  exact ⟨x, h, by show PyData.eqv (.int x) (.int x) = true; simp [PyData.eqv]⟩
theorem yes_if {σ : St} {H : Hp} {A B : Hp → Prop} (h : A H) : tYes σ H (fun b H3 => if b = true then A H3 else B H3) := iteT (A := A H) (B := B H) h
theorem name_yes {i : Nat} {x : V} {σ : St} {H : Hp} {te : TE} {P1 : VK} {P0 : Hp → Prop} (h : te (σ.set i (some x)) H P1) : gName i x σ H (fun σ2 H2 => tYes σ2 H2 fun b H3 => if b = true then te σ2 H3 P1 else P0 H3) := iteT (A := te (σ.set i (some x)) H P1) (B := P0 H) h
theorem filt_true {α : Type} (xs : List α) : (xs.filter fun _ => true) = xs := by simp
section
variable {X : Cx} {K : PySem.W.Frag}
theorem op_inDk (hK : X.K = K) (hu : X.A.units + 64 < cLine) : OpR X (compareOp .In) (rInD K false) := hK ▸ op_inD hu
theorem op_eqDk (hK : X.K = K) (hu : X.A.units + 64 < cLine) : OpR X (compareOp .Eq) (rEqD K) := hK ▸ op_eqD hu
theorem ix_listk (hK : X.K = K) : IxR X (rIxL K) := hK ▸ ix_list
theorem ix_tupk (hK : X.K = K) : IxR X (rIxT K) := hK ▸ ix_tup
theorem sl_listk (hK : X.K = K) : SlR X (rSlL K) := hK ▸ sl_list
end
structure JS (J : It) (n : Nat) (H1 : Hp) (it : Nat → V → Prop) : Prop where
 go : ∀ i H, Same H1 H → i < n → J.go i H
 yld : ∀ i H x H', Same H1 H → i < n → J.yld i H x H' → H' = H ∧ it i x
 stop : ∀ H, Same H1 H → J.stop n H
theorem js_list {K : PySem.W.Frag} {a : Addr} {xs : List V} {H1 : Hp} (hx : SqL K H1 a xs) : JS (Itl K a) xs.length H1 (fun i x => xs[i]? = some x) :=
 ⟨fun i H s hi => ⟨xs, xs[i], s.seq hx, by simp⟩, fun i H x H' s hi y => ⟨y.1, y.2 xs (s.seq hx)⟩, fun H s => ⟨xs, s.seq hx, Nat.le_refl _⟩⟩
theorem js_range {lo : Int} {n : Nat} {H1 : Hp} : JS (Itr lo n) n H1 (fun i x => x = .int (lo + i)) :=
 ⟨fun i H s hi => hi, fun i H x H' s hi y => y, fun H s => Nat.le_refl _⟩
theorem lc_pureJ {α : Type} {J : It} {n : Nat} {it : Nat → V → Prop} {l : Addr} {g : TG} {tt : TT} {te : TE} {cap : List (Option Nat)} {σ : St} {Q : VK} {H1 : Hp} (S : JS J n H1 it) (ds : List α) (p : α → Bool) (f : α → V) (hn : H1 l = none) (hlen : n = ds.length) (hz : n < sizeLine)
  (hs : ∀ (i : Nat) x d H, it i x → ds[i]? = some d → Same H1 H → ∀ (P1 : VK) (P0 : Hp → Prop), (p d = true → P1 (f d) H) → (p d = false → P0 H) →
   g x (capSt cap σ) H fun σ2 H2 => tt σ2 H2 fun b H3 => if b = true then te σ2 H3 P1 else P0 H3)
  (hq : Q (.ref l) (upd H1 l (.lst ((ds.filter p).map f)))) : LcW J g tt te cap σ Q l H1 := by
 refine ⟨fun i m acc H => m = n - i ∧ i ≤ n ∧ acc = ((ds.take i).filter p).map f ∧ H = upd H1 l (.lst acc), ⟨n, by simp, Nat.zero_le _, rfl, rfl⟩, ?_⟩
 rintro i m acc H ⟨rfl, hi, e1, e2⟩
 have sm : Same H1 H := by rw [e2]; exact same_upd hn
 by_cases hlt : i < n
 ·refine .inr ⟨S.go i H sm hlt, fun acc' H' => acc' = ((ds.take (i + 1)).filter p).map f ∧ H' = upd H1 l (.lst acc'), fun acc' H' ⟨p1, p2⟩ => ⟨n - (i + 1), by omega, rfl, hlt, p1, p2⟩, fun x H' y0 => ?_⟩
  obtain ⟨e, y⟩ := S.yld i H x H' sm hlt y0
  clear y0
  subst e
  have hd : ds[i]? = some (ds[i]'(by omega)) := by simp
  generalize ds[i]'(by omega) = d at hd
  have step : ((ds.take (i + 1)).filter p).map f = acc ++ (if p d = true then [f d] else []) := by
   rw [take_succ_filter p ds i d hd, List.map_append, e1]
   cases p d <;> rfl
  refine hs i x d H' y hd sm _ _ (fun hp => ?_) (fun hp => ?_)
  ·refine ⟨by rw [e2, upd_same], ?_, ?_, ?_⟩
   ·have h1 : acc.length ≤ i := by
     rw [e1, List.length_map]
     exact Nat.le_trans (List.length_filter_le _ _) (by rw [List.length_take]; omega)
    omega
   ·rw [step, hp]; rfl
   ·rw [e2, upd_upd]
  ·refine ⟨?_, e2⟩
   rw [step, hp, if_neg Bool.false_ne_true, List.append_nil]
 ·have e : i = n := by omega
  subst e
  refine .inl ⟨S.stop H sm, ?_⟩
  rw [hlen, List.take_length] at e1
  rw [e2, e1]
  exact hq
end TL
namespace TL
open PySem PySem.Spec PyProof.Rows L2
abbrev Mv := (Str × Int) × List Int
theorem sqt_upd {K : PySem.W.Frag} {H : Hp} {t b : Addr} {vs xs : List V} {o : HO} (ht : H t = some (.lst vs)) (h : SqT K H b xs) : SqT K (upd H t o) b xs := by
 rcases h with (h | ⟨o, h⟩) | h
 ·exact .inl (.inl (by rw [upd_ne (ne_of h ht (by intro z; cases z))]; exact h))
 ·exact .inl (.inr ⟨o, by rw [upd_ne (ne_of h ht (by intro z; cases z))]; exact h⟩)
 ·exact .inr h
end TL
namespace TL
open PySem PySem.Spec PyProof.Rows L2
abbrev NoL : Addr → List V → Prop := fun _ _ => False
abbrev Ps (K : PySem.W.Frag) (H : Hp) (js : List (Int × Int)) (vs : List V) : Prop := Dgs NoL (SqT K H) (js.map dP) vs
theorem Ps.same {K : PySem.W.Frag} {H H' : Hp} {js : List (Int × Int)} {vs : List V} (D : Ps K H js vs) (S : Same H H') : Ps K H' js vs := Dgs.mono (fun _ _ h => h) (fun _ _ h => same_tseq S h) D
theorem Ps.updt {K : PySem.W.Frag} {H : Hp} {js : List (Int × Int)} {vs us : List V} {t : Addr} {o : HO} (D : Ps K H js vs) (ht : H t = some (.lst us)) : Ps K (upd H t o) js vs := Dgs.mono (fun _ _ h => h) (fun _ _ h => sqt_upd ht h) D
theorem Ps.das {K : PySem.W.Frag} {H : Hp} {js : List (Int × Int)} {vs : List V} (D : Ps K H js vs) : Das K H (js.map dP) vs := Dgs.mono (fun _ _ h => h.elim) (fun _ _ h => h) D
theorem Ps.da {K : PySem.W.Frag} {H : Hp} {js : List (Int × Int)} {vs : List V} {t : Addr} (D : Ps K H js vs) (ht : H t = some (.lst vs)) : Da K H (dJ js) (.ref t) := dg_list.mpr ⟨t, vs, rfl, SqL.of ht, D.das⟩
theorem Ps.len {K : PySem.W.Frag} {H : Hp} {js : List (Int × Int)} {vs : List V} (D : Ps K H js vs) : vs.length = js.length := by rw [D.length, List.length_map]
theorem pair_dg {K : PySem.W.Frag} {H : Hp} {p : Addr} {x : Int × Int} (h : H p = some (.tup [.int x.1, .int x.2])) : Dg NoL (SqT K H) (dP x) (.ref p) := dg_tuple.mpr ⟨p, _, rfl, SqT.of h, Dgs.two (dg_int.mpr rfl) (dg_int.mpr rfl)⟩
theorem Ps.push {K : PySem.W.Frag} {H : Hp} {js : List (Int × Int)} {vs : List V} {t p : Addr} {x : Int × Int} {o : HO} (D : Ps K H js vs) (ht : H t = some (.lst vs)) (hp : H p = some (.tup [.int x.1, .int x.2])) : Ps K (upd H t o) (js ++ [x]) (vs ++ [.ref p]) := by
 show Dgs _ _ ((js ++ [x]).map dP) _
 rw [List.map_append]
 exact (D.updt ht).append (.one (Dg.mono (fun _ _ h => h) (fun _ _ h => sqt_upd ht h) (pair_dg hp)))
theorem Ps.ins {K : PySem.W.Frag} {H : Hp} {js : List (Int × Int)} {vs : List V} {t p : Addr} {x : Int × Int} {o : HO} (i : Nat) (D : Ps K H js vs) (ht : H t = some (.lst vs)) (hp : H p = some (.tup [.int x.1, .int x.2])) : Ps K (upd H t o) (js.take i ++ x :: js.drop i) (vs.take i ++ .ref p :: vs.drop i) := by
 show Dgs _ _ ((js.take i ++ x :: js.drop i).map dP) _
 rw [List.map_append, List.map_cons, List.map_take, List.map_drop]
 exact Dgs.insert i (D.updt ht) (Dg.mono (fun _ _ h => h) (fun _ _ h => sqt_upd ht h) (pair_dg hp))
theorem da_mkline {K : PySem.W.Frag} {H : Hp} {l : Int × List (Int × Int)} {p t : Addr} (h : H p = some (.tup [.int l.1, .ref t])) (hd : Da K H (dJ l.2) (.ref t)) : Da K H (dL l) (.ref p) := dg_tuple.mpr ⟨p, _, rfl, SqT.of h, Dgs.two (dg_int.mpr rfl) hd⟩
theorem perm_ins {α : Type} (l : List α) (i : Nat) (x : α) : (l.take i ++ x :: l.drop i).Perm (x :: l) := by
 have h := List.perm_middle (a := x) (l₁ := l.take i) (l₂ := l.drop i)
 rw [List.take_append_drop] at h
 exact h
theorem min_if (i j : Int) : (if j < i then j else i) = min i j := by omega
theorem max_if (i j : Int) : (if j > i then j else i) = max i j := by omega
theorem at_int {ns : List Int} {i : Int} (h0 : 0 ≤ i) (h1 : i < ns.length) : ∃ x, ns[i.toNat]? = some x ∧ x ∈ ns ∧ atI (ns.map V.int) i = some (V.int x) := by
 have hlt : i.toNat < ns.length := by omega
 refine ⟨ns[i.toNat], by simp, List.getElem_mem _, ?_⟩
 have h := atI_nat (xs := ns.map V.int) (j := i.toNat) (v := V.int ns[i.toNat]) (by rw [List.getElem?_map]; simp)
 have e1 : ((i.toNat : Nat) : Int) = i := by omega
 rw [e1] at h
 exact h
def NewLine (K : PySem.W.Frag) (H : Hp) (Q : VK) : Prop := ∀ (v : V) (l : Int × List (Int × Int)) (H' : Hp), Same H H' → Da K H' (dL l) v → LineOk l → Q v H'
end TL
namespace L2
open PySem PySem.Spec PySem.Calls PyProof.Rows PySem.W
section
variable {prog : Program} {w : World} {A : Around} {E : Value → Shared → Prop} {s : Shared} {K : Frag} {a C : Addr} {o : Obj}
end
end L2
namespace L2
open PySem PySem.Spec PySem.Calls PyProof.Rows PySem.W
section
variable {P : Program} {w : World} {H H1 : Hp} {h : Heap} {a : Addr} {o : HO}
end
structure Fl0 (P : Program) (w : World) (base : Heap) (l : List Env) (H H1 : Hp) (h0 B h : Heap) : Prop where
 bas : base.StaysIn B
 hok : HOk P w H1 B
 kp : ∀ b o, h0.get? b = some o → H b = none → b ∉ frs l → B.get? b = some o
 thr : ∀ b o, h0.get? b = some o → b ∉ frs l → ∃ o', B.get? b = some o'
 un : Un (frs l) [] H H1 h0 h
structure Fl (P : Program) (w : World) (base : Heap) (l : List Env) (H H1 : Hp) (h0 : Heap) (e C : Addr) (B h : Heap) : Prop extends Fl0 P w base l H H1 h0 B h where
 fly : ∃ a0, Heap.FlyingW B l e (.ref C) a0 h
def CXr (P : Program) (w : World) (base : Heap) : CXT := fun l H s E ev s' =>
 ∃ e C H1 B, ev = .ref e ∧ s'.os = s.os ∧ AllBare s'.gens ∧ Fl P w base l H H1 s.heap e C B s'.heap ∧ E (.ref C) (some e) H1
section
variable {X : Cx} {pins : List (Addr × Obj)} {σ : St} {H H1 : Hp} {s s' : Shared} {e C : Addr} {B : Heap}
end
section
variable {P : Program} {w : World} {K : PySem.W.Frag} {mg : Str → Option Value} {base : Heap} {N : List Str} {qual : Str} {scope : Scope} {f : Addr} {cd : Value} {A : Around} {outer : List Env} {s₀ : Shared} {H₀ : Hp} {E : XK}
end
end L2
namespace L2
open PySem PySem.Spec PySem.Calls PyProof.Rows PySem.W
section
variable {X : Cx} {E : XK} {x : Str} {np cpos pos : Pos} {C : Addr} {bmB : List Value} {Bn newId initId : String} {e₀ : Expr} {rest : List Expr} {ta : TA}
end
section
variable {X : Cx} {pins : List (Addr × Obj)} {σ : St} {H H1 : Hp} {s s' : Shared} {e C : Addr} {B : Heap}
abbrev Cx.caught (X : Cx) (e : Addr) : Cx := { X with A := X.A.mark (some (.ref e)), calm := false, xe := fun _ _ => False }
end
end L2
namespace L2
open PySem PySem.Spec PySem.Calls PyProof.Rows PySem.W
section
variable {X : Cx} {CX : CXT} {k : Nat} {f : Addr} {fd : FuncData} {ps : List Str} {sp : Sp} {dvs : List V} {ds : List Value} {E : St → XK} {x : Str} {p pos : Pos} {e : Expr} {es : List Expr} {t : TA}
end
abbrev Cx.trying (X : Cx) (pn : List (Addr × Obj)) (W : Value → Shared → Prop) : Cx := { X with pn := X.pn ++ pn, xe := W }
section
variable {X : Cx} {pins pn : List (Addr × Obj)} {σ : St} {H : Hp} {s : Shared} {W : Value → Shared → Prop}
end
abbrev Ends.gone (D : Ends) (j : Nat) : Ends := { nx := fun σ H => D.nx (σ.set j none) H, rt := D.rt, bk := fun σ H => D.bk (σ.set j none) H, ct := fun σ H => D.ct (σ.set j none) H }
section
variable {X : Cx} {body suite : List Stmt} {b₀ : Stmt} {x n : Str} {np hpos pos : Pos} {D : Addr} {j : Nat} {tb : (St → XK) → TS} {th : TS}
end
end L2
namespace L2
open PySem PySem.Spec PySem.Calls PyProof.Rows PySem.W TL
section
variable {P : Program} {w : World} {K : PySem.W.Frag} {mg : Str → Option Value} {base : Heap}
end
abbrev bmV : List Value := [.type "ValueError", .type "Exception", .type "BaseException", .type "object"]
section
variable {X : Cx}
end
end L2
namespace L2
open PySem PySem.Spec PySem.Calls PyProof.Rows PySem.W TL
section
variable {K : Frag} {h : Heap} {mg : Str → Option Value} {x : Str} {C D : Addr}
variable {c1 c2 c3 c4 c5 c6 c7 : Addr}
end
end L2
namespace TL
open PySem PySem.Spec PyProof.Rows L2
structure Bm (mg : Str → Option Value) : Prop extends Bl mg where
 zip : mg "zip" = none
 sum : mg "sum" = none
 all : mg "all" = none
 set : mg "set" = none
 tuple : mg "tuple" = none
 abs : mg "abs" = none
 bool : mg "bool" = none
 dict : mg "dict" = none
 str : mg "str" = none
section
variable {X : Cx}
theorem boolsAre_of : ∀ {bs : List Bool} {us : List Value}, Vals (bs.map V.bl) us → us = bs.map Value.bool
 | [], _, .nil => rfl
 | b :: bs, _, .cons r t => by
  cases r
  rw [boolsAre_of t]; rfl
theorem call_all (hc : X.calm = true) : CallR X (.builtin "all") (fun xs H Q => ∃ (a : Addr) (bs : List Bool), xs = [.ref a] ∧ SqL X.K H a (bs.map V.bl) ∧ Q (.bl (bs.all id)) H) := by
 intro pins s σ H xs us Q I r h
 obtain ⟨a, bs, rfl, hx, q⟩ := h
 obtain ⟨u, rfl, ru⟩ := vals1 r
 cases ru
 obtain ⟨its, rv, p, hz⟩ := I.list hx
 have e := boolsAre_of rv
 subst e
 have hl := p.isList
 have hlt : a < s.heap.objs.size := by obtain ⟨_, e, _⟩ := hl; exact Heap.lt_size e
 refine call_all_walk (wpAny_pyIter_list hl ?_)
 refine ⟨s.heap.objs.size, [s.heap.objs.size, a], [s.heap.objs.size], (bs.map Value.bool).toArray.size, _, _, fun i => (bs[i]?).getD true, rfl, Walks.list (A := X.A.in1) (I.ok.hd hc) _ a (Nat.ne_of_lt hlt) (bs.map Value.bool).toArray,
  ⟨⟨_, Heap.get?_push_size _ rfl, rfl, rfl⟩, hl.push _⟩, fun i v s' Q' E' hP hQ => ?_, fun h' tk hk => ?_⟩
 ·have hP' : (bs.map Value.bool)[i]? = some v := by simpa using hP
  rw [List.getElem?_map] at hP'
  cases q : bs[i]? with
  | none => rw [q] at hP'; cases hP'
  | some b =>
   rw [q] at hP'
   cases hP'
   have hQ' : Q' b s' := by simpa [q] using hQ
   exact wpAny_truthy_bool hQ'
 ·have e : ((List.range (bs.map Value.bool).toArray.size).all fun i => (bs[i]?).getD true) = bs.all id := by
   rw [List.size_toArray, List.length_map]; exact PyProof.Rows.LSm.range_all bs
  rw [e]
  have kk : ∀ b x, s.heap.get? b = some x → h'.get? b = some x := fun b x e => hk b x (fun hm => by rw [List.mem_singleton.mp hm] at e; exact Nat.lt_irrefl _ (Heap.lt_size e)) (Heap.get?_push_of_some _ e)
  exact ⟨.bl (bs.all id), H, I.kept (t' := tk) kk, rfl, q⟩
end
section
variable {K : PySem.W.Frag} {l : Addr} {g : TG} {tt : TT} {te : TE} {cap : List (Option Nat)} {σ : St} {Q : VK} {H1 : Hp} {J : It}
theorem lc_any (n : Nat) (Pv : Nat → List V → Hp → Prop) (h0 : Pv 0 [] (upd H1 l (.lst []))) (go : ∀ i acc H, i < n → Pv i acc H → J.go i H) (st : ∀ acc H, Pv n acc H → J.stop n H)
  (hs : ∀ i x acc H H', i < n → Pv i acc H → J.yld i H x H' → g x (capSt cap σ) H' fun σ2 H2 => tt σ2 H2 fun b H3 =>
    if b = true then te σ2 H3 fun y H4 => H4 l = some (.lst acc) ∧ acc.length < sizeLine ∧ Pv (i + 1) (acc ++ [y]) (upd H4 l (.lst (acc ++ [y])))
    else Pv (i + 1) acc H3) (hd : ∀ acc H, Pv n acc H → Q (.ref l) H) : LcW J g tt te cap σ Q l H1 := by
 refine ⟨fun i m acc H => m = n - i ∧ i ≤ n ∧ Pv i acc H, ⟨n, by simp, Nat.zero_le _, h0⟩, ?_⟩
 rintro i m acc H ⟨rfl, hi, p⟩
 by_cases hlt : i < n
 ·exact .inr ⟨go i acc H hlt p, fun acc' H' => Pv (i + 1) acc' H', fun acc' H' p' => ⟨n - (i + 1), by omega, rfl, hlt, p'⟩, fun x H' y => hs i x acc H H' hlt p y⟩
 ·have e : i = n := by omega
  subst e
  exact .inl ⟨st acc H p, hd acc H p⟩
theorem lc_grow {α : Type} (n : Nat) (ds : List α) (p : α → Bool) (f : α → V) (hn : H1 l = none) (hlen : n = ds.length) (hz : n < sizeLine) (go : ∀ i H, Same H1 H → i < n → J.go i H) (st : ∀ H, Same H1 H → J.stop n H)
  (hs : ∀ i x d H H', Same H1 H → J.yld i H x H' → ds[i]? = some d → ∀ (P1 : VK) (P0 : Hp → Prop), (∀ H2, p d = true → Same H H2 → P1 (f d) H2) → (∀ H2, p d = false → Same H H2 → P0 H2) →
   g x (capSt cap σ) H' fun σ2 H2 => tt σ2 H2 fun b H3 => if b = true then te σ2 H3 P1 else P0 H3)
  (hq : ∀ H', Same H1 H' → H' l = some (.lst ((ds.filter p).map f)) → Q (.ref l) H') : LcW J g tt te cap σ Q l H1 := by
 refine lc_any n (fun i acc H => acc = ((ds.take i).filter p).map f ∧ Same H1 H ∧ H l = some (.lst acc)) ⟨rfl, same_upd hn, upd_same⟩ (fun i acc H hi ⟨_, s, _⟩ => go i H s hi) (fun acc H ⟨_, s, _⟩ => st H s) ?_ ?_
 ·rintro i x acc H H' hi ⟨e1, s, hl⟩ y
  have hd : ds[i]? = some (ds[i]'(by omega)) := by simp
  generalize ds[i]'(by omega) = d at hd
  have step : ((ds.take (i + 1)).filter p).map f = acc ++ (if p d = true then [f d] else []) := by
   rw [List.take_add_one, hd, List.filter_append, List.map_append, e1]
   congr 1
   by_cases hp : p d = true
   ·simp [hp]
   ·have hp' : p d = false := by simpa using hp
    simp [hp']
  have la : acc.length < sizeLine := by
   have h1 : acc.length ≤ i := by
    rw [e1, List.length_map]
    exact Nat.le_trans (List.length_filter_le _ _) (by rw [List.length_take]; omega)
   omega
  refine hs i x d H H' s y hd _ _ (fun H2 hp s2 => ?_) (fun H2 hp s2 => ?_)
  ·refine ⟨s2 _ _ hl, la, ?_, Same.upd (s.trans s2) hn, upd_same⟩
   rw [step, if_pos hp]
  ·refine ⟨?_, s.trans s2, s2 _ _ hl⟩
   rw [step, if_neg (by rw [hp]; exact Bool.false_ne_true), List.append_nil]
 ·rintro acc H ⟨e1, s, hl⟩
  rw [List.take_of_length_le (by omega)] at e1
  subst e1
  exact hq H s hl
end
end TL
namespace TL
open PySem PySem.Spec PyProof.Rows L2
section
variable {X : Cx} {pins : List (Addr × Obj)} {σ : St} {H : Hp} {s : Shared}
theorem isInt_self (k : Int) (t : Tok) : Value.isInt k (.int k t) = true := by simp [Value.isInt]
end
section
variable {X : Cx} {pins : List (Addr × Obj)} {σ : St} {H1 : Hp} {s2 : Shared} {scope : Scope} {N : List Str} {own : Nat} {cap : List (Option Nat)} {cl : List (Str × Addr)} {fp : List Addr}
 {tg iter elt : Expr} {ifs : List Expr} {pos : Pos} {g : TG} {tt : TT} {te : TE} {wi : TI}
end
section
variable {X : Cx}
end
section
variable {l : Addr} {g : TG} {tt : TT} {te : TE} {cap : List (Option Nat)} {σ : St} {Q : VK} {H1 : Hp} {J : It}
end
end TL
namespace TL
open PySem PySem.Spec PyProof.Rows L2
def hid (p : Addr) (H : Hp) : Hp := fun b => if b = p then none else H b
theorem hid_same {p : Addr} {H : Hp} : Same (hid p H) H := fun b o h => by
 unfold hid at h
 by_cases e : b = p
 ·rw [if_pos e] at h; cases h
 ·rw [if_neg e] at h; exact h
theorem hid_ne {p b : Addr} {H : Hp} (h : b ≠ p) : hid p H b = H b := by unfold hid; rw [if_neg h]
theorem hid_self {p : Addr} {H : Hp} : hid p H p = none := by unfold hid; rw [if_pos rfl]
theorem hid_mono {p : Addr} {H H' : Hp} (s : Same H H') : Same (hid p H) (hid p H') := fun b o h => by
 by_cases e : b = p
 ·subst e; rw [hid_self] at h; cases h
 ·rw [hid_ne e] at h ⊢; exact s _ _ h
theorem hid_upd {p : Addr} {H : Hp} {o : HO} : hid p (upd H p o) = hid p H := by
 funext b
 by_cases e : b = p
 ·subst e; rw [hid_self, hid_self]
 ·rw [hid_ne e, hid_ne e, upd_ne e]
section
variable {L T : Addr → List V → Prop}
end
section
variable {K : PySem.W.Frag} {l : Addr} {g : TG} {tt : TT} {te : TE} {cap : List (Option Nat)} {σ : St} {Q : VK} {H1 : Hp} {J : It}
theorem lc_data {α : Type} (n : Nat) (ds : List α) (d' : α → PyData) (hn : H1 l = none) (hlen : n = ds.length) (hz : n < sizeLine) (go : ∀ i H, Same H1 H → i < n → J.go i H) (st : ∀ H, Same H1 H → J.stop n H)
  (hs : ∀ i x d H H', Same H1 H → (∃ us, H l = some (.lst us)) → J.yld i H x H' → ds[i]? = some d → ∀ (P1 : VK) (P0 : Hp → Prop), (∀ v H2, Same H H2 → Da K (hid l H2) (d' d) v → P1 v H2) →
   g x (capSt cap σ) H' fun σ2 H2 => tt σ2 H2 fun b H3 => if b = true then te σ2 H3 P1 else P0 H3)
  (hq : ∀ vs H', Same H1 H' → H' l = some (.lst vs) → Das K (hid l H') (ds.map d') vs → Q (.ref l) H') : LcW J g tt te cap σ Q l H1 := by
 refine lc_any n (fun i acc H => Das K (hid l H) ((ds.take i).map d') acc ∧ Same H1 H ∧ H l = some (.lst acc)) ⟨dgs_nil.mpr rfl, same_upd hn, upd_same⟩ (fun i acc H hi ⟨_, s, _⟩ => go i H s hi) (fun acc H ⟨_, s, _⟩ => st H s) ?_ ?_
 ·rintro i x acc H H' hi ⟨e1, s, hl⟩ y
  have hd : ds[i]? = some (ds[i]'(by omega)) := by simp
  generalize ds[i]'(by omega) = d at hd
  refine hs i x d H H' s ⟨_, hl⟩ y hd _ _ (fun v H2 s2 dv => ?_)
  have la := Dgs.length e1
  rw [List.length_map, List.length_take] at la
  refine ⟨s2 _ _ hl, by omega, ?_, Same.upd (s.trans s2) hn, upd_same⟩
  rw [hid_upd, List.take_add_one, hd, List.map_append]
  exact Dgs.append (Das.same (hid_mono s2) e1) (Dgs.one dv)
 ·rintro acc H ⟨e1, s, hl⟩
  rw [List.take_of_length_le (by omega)] at e1
  exact hq acc H s hl e1
end
end TL
namespace TL
open PySem PySem.Spec PyProof.Rows L2
section
variable {X : Cx} {pins : List (Addr × Obj)} {σ : St} {H : Hp} {s : Shared} {a : Addr} {kvs : List (List Key × V)}
end
section
variable {prog : Program} {w : World} {A : Around} {E : Value → Shared → Prop} {s : Shared} {d it : Addr} {o : Obj} {es : Array DictEntry} {ep i : Nat}
end
section
variable {X : Cx}
end
end TL
namespace TL
open PySem PySem.Spec PyProof.Rows L2
section
variable {X : Cx} {pins : List (Addr × Obj)} {σ : St} {H : Hp} {s : Shared} {a b : Addr} {kvs : List (List Key × V)} {k : List Key} {v : V} {r : Value} {A : Around} {E : Value → Shared → Prop}
end
section
variable {X : Cx} {K : PySem.W.Frag}
end
end TL
namespace TL
open PySem PySem.Spec PyProof.Rows L2
abbrev Ln := Int × List (Int × Int)
theorem jn_iff {l : Ln} (ok : LineOk l) {e x : Int} : x ∈ jn l.2 e ↔ (min e x, max e x) ∈ l.2 := by
 unfold jn
 rw [srt_mem, List.mem_append]
 constructor
 ·rintro (z | z)
  ·obtain ⟨p, hp, rfl⟩ := List.mem_map.mp z
   obtain ⟨h1, h2⟩ := List.mem_filter.mp hp
   have h2 : p.2 = e := by simpa using h2
   have := ok.ends p h1
   have e1 : (min e p.1, max e p.1) = p := Prod.ext (by show min e p.1 = p.1; omega) (by show max e p.1 = p.2; omega)
   rw [e1]; exact h1
  ·obtain ⟨p, hp, rfl⟩ := List.mem_map.mp z
   obtain ⟨h1, h2⟩ := List.mem_filter.mp hp
   have h2 : p.1 = e := by simpa using h2
   have := ok.ends p h1
   have e1 : (min e p.2, max e p.2) = p := Prod.ext (by show min e p.2 = p.1; omega) (by show max e p.2 = p.2; omega)
   rw [e1]; exact h1
 ·intro h
  by_cases hx : e ≤ x
  ·have e1 : (min e x, max e x) = (e, x) := Prod.ext (by show min e x = e; omega) (by show max e x = x; omega)
   rw [e1] at h
   exact .inr (List.mem_map.mpr ⟨(e, x), List.mem_filter.mpr ⟨h, by simp⟩, rfl⟩)
  ·have e1 : (min e x, max e x) = (x, e) := Prod.ext (by show min e x = x; omega) (by show max e x = e; omega)
   rw [e1] at h
   exact .inl (List.mem_map.mpr ⟨(x, e), List.mem_filter.mpr ⟨h, by simp⟩, rfl⟩)
end TL
namespace TL
open PySem PySem.Spec PyProof.Rows L2
abbrev Ent := List Int × Option (List Int × (Str × Int))
end TL
namespace TS
open PySem
def lcg : Nat → Nat → Nat
 | 0, x => x
 | d + 1, x => 5 * lcg d x + 1
theorem lcg_add (d : Nat) : ∀ e x, lcg (e + d) x = lcg e (lcg d x)
 | 0, x => by rw [Nat.zero_add]; rfl
 | e + 1, x => by rw [Nat.add_right_comm]; show 5 * lcg (e + d) x + 1 = 5 * lcg e (lcg d x) + 1; rw [lcg_add d e x]
theorem lcg_pow : ∀ k, ∃ q, q % 2 = 1 ∧ ∀ x, lcg (2 ^ k) x = x + 2 ^ k * q * (4 * x + 1)
 | 0 => ⟨1, rfl, fun x => by show 5 * x + 1 = _; omega⟩
 | k + 1 => by
  obtain ⟨q, hq, h⟩ := lcg_pow k
  refine ⟨q * (1 + 2 * 2 ^ k * q), ?_, fun x => ?_⟩
  ·have e : q * (1 + 2 * 2 ^ k * q) = q + 2 * (q * 2 ^ k * q) := by
    rw [Nat.mul_add, Nat.mul_one, Nat.mul_assoc 2, Nat.mul_left_comm q 2, Nat.mul_assoc q]
   rw [e, Nat.add_mul_mod_self_left]; exact hq
  ·rw [Nat.pow_succ, Nat.mul_two, lcg_add, h x, h]
   generalize 2 ^ k = p
   have e : ∀ y, p * q * (4 * (x + y) + 1) = p * q * (4 * x + 1) + 4 * (p * q * y) := fun y => by
    rw [show 4 * (x + y) + 1 = (4 * x + 1) + 4 * y by omega, Nat.mul_add, Nat.mul_left_comm (p * q) 4 y]
   rw [e]
   have e2 : (p + p) * (q * (1 + 2 * p * q)) * (4 * x + 1) = 2 * (p * q * (4 * x + 1)) + 4 * (p * q * (p * q * (4 * x + 1))) := by
    have a1 : (p + p) * (q * (1 + 2 * p * q)) = 2 * (p * q) + 4 * (p * q * (p * q)) := by
     rw [← Nat.two_mul, Nat.mul_assoc, ← Nat.mul_assoc p q, Nat.mul_add, Nat.mul_one, Nat.mul_add]
     congr 1
     rw [Nat.mul_assoc 2 p q, Nat.mul_left_comm (p * q) 2, ← Nat.mul_assoc]
    rw [a1, Nat.add_mul, Nat.mul_assoc 2, Nat.mul_assoc 4, Nat.mul_assoc (p * q)]
   rw [e2]
   omega
theorem lcg_all : ∀ k x y, ∃ d, d < 2 ^ k ∧ lcg d x % 2 ^ k = y % 2 ^ k
 | 0, x, y => ⟨0, Nat.one_pos, by simp [Nat.mod_one]⟩
 | k + 1, x, y => by
  obtain ⟨d, hd, e⟩ := lcg_all k x y
  have hp : 0 < 2 ^ k := Nat.two_pow_pos k
  have h2 : 2 ^ (k + 1) = 2 ^ k * 2 := Nat.pow_succ ..
  obtain ⟨q, hq, h⟩ := lcg_pow k
  have split : ∀ a, a % (2 ^ k * 2) = a % 2 ^ k + 2 ^ k * (a / 2 ^ k % 2) := fun a => Nat.mod_mul
  by_cases c : lcg d x / 2 ^ k % 2 = y / 2 ^ k % 2
  ·exact ⟨d, by omega, by rw [h2, split, split, e, c]⟩
  ·refine ⟨2 ^ k + d, by omega, ?_⟩
   rw [lcg_add, h, h2, split, split]
   generalize hz : lcg d x = z at *
   have h4 : (q * (4 * z + 1)) % 2 = 1 := by
    rw [Nat.mul_mod, hq, show (4 * z + 1) % 2 = 1 by omega]
   have e1 : (z + 2 ^ k * q * (4 * z + 1)) % 2 ^ k = z % 2 ^ k := by rw [Nat.mul_assoc, Nat.add_mul_mod_self_left]
   have e2 : (z + 2 ^ k * q * (4 * z + 1)) / 2 ^ k = z / 2 ^ k + q * (4 * z + 1) := by rw [Nat.mul_assoc, Nat.add_mul_div_left _ _ hp]
   rw [e1, e2, e]
   congr 2
   have := Nat.mod_two_eq_zero_or_one (z / 2 ^ k)
   have := Nat.mod_two_eq_zero_or_one (y / 2 ^ k)
   omega
open SetTable
def adv (mask : Nat) (p : Probe) : Probe :=
 if p.more > 0 then { p with j := p.j + 1, more := p.more - 1 } else
 { p with j := (leap mask p.i p.perturb).1, more := runEnd mask (leap mask p.i p.perturb).1 - (leap mask p.i p.perturb).1, i := (leap mask p.i p.perturb).1, perturb := (leap mask p.i p.perturb).2 }
theorem adv_eq (t : SetTable) (p : Probe) : t.advance p = adv t.mask p := by unfold advance adv; split <;> rfl
def pAt (mask : Nat) (h : Int) : Nat → Probe
 | 0 => { j := bits h % (mask + 1), more := runEnd mask (bits h % (mask + 1)) - bits h % (mask + 1), i := bits h % (mask + 1), perturb := bits h, dummy := none }
 | n + 1 => adv mask (pAt mask h n)
theorem pAt_start (t : SetTable) (h : Int) : t.probeStart h = pAt t.mask h 0 := rfl
theorem pAt_dummy (mask : Nat) (h : Int) : ∀ n, (pAt mask h n).dummy = none
 | 0 => rfl
 | n + 1 => by
  show (adv mask (pAt mask h n)).dummy = none
  unfold adv
  split <;> exact pAt_dummy mask h n
def lpI (mask : Nat) (h : Int) : Nat → Nat × Nat
 | 0 => (bits h % (mask + 1), bits h)
 | r + 1 => leap mask (lpI mask h r).1 (lpI mask h r).2
def lpT (mask : Nat) (h : Int) : Nat → Nat
 | 0 => 0
 | r + 1 => lpT mask h r + (runEnd mask (lpI mask h r).1 - (lpI mask h r).1) + 1
theorem runEnd_ge (mask i : Nat) : i ≤ runEnd mask i := by unfold runEnd; split <;> omega
theorem runEnd_le (mask i : Nat) : runEnd mask i ≤ i + 9 := by unfold runEnd; split <;> omega
theorem runEnd_mask {mask i : Nat} (h : i ≤ mask) : runEnd mask i ≤ mask := by unfold runEnd; split <;> omega
theorem pAt_leap (mask : Nat) (h : Int) : ∀ r d, d ≤ runEnd mask (lpI mask h r).1 - (lpI mask h r).1 →
  pAt mask h (lpT mask h r + d) = { j := (lpI mask h r).1 + d, more := runEnd mask (lpI mask h r).1 - (lpI mask h r).1 - d, i := (lpI mask h r).1, perturb := (lpI mask h r).2, dummy := none }
 | 0, 0, _ => rfl
 | r + 1, 0, _ => by
  have ih := pAt_leap mask h r _ (Nat.le_refl _)
  show pAt mask h (lpT mask h r + (runEnd mask (lpI mask h r).1 - (lpI mask h r).1) + 1) = _
  show adv mask (pAt mask h (lpT mask h r + (runEnd mask (lpI mask h r).1 - (lpI mask h r).1))) = _
  rw [ih]
  unfold adv
  simp only [Nat.sub_self, gt_iff_lt, Nat.lt_irrefl, if_false]
  rfl
 | r, d + 1, hd => by
  have ih := pAt_leap mask h r d (by omega)
  show adv mask (pAt mask h (lpT mask h r + d)) = _
  rw [ih]
  unfold adv
  rw [if_pos (by show _ > 0; simp only; omega)]
  simp only [Probe.mk.injEq, and_true, true_and]
  omega
theorem lpI_le (mask : Nat) (h : Int) : ∀ r, (lpI mask h r).1 ≤ mask
 | 0 => Nat.le_of_lt_succ (Nat.mod_lt (bits h) (Nat.succ_pos mask))
 | r + 1 => Nat.le_of_lt_succ (Nat.mod_lt ((lpI mask h r).1 * 5 + 1 + (lpI mask h r).2 / 32) (Nat.succ_pos mask))
theorem bits_lt (h : Int) : bits h < 2 ^ 64 := by unfold bits; omega
theorem lpI_pert (mask : Nat) (h : Int) : ∀ r, (lpI mask h r).2 = bits h / 32 ^ r
 | 0 => by simp [lpI]
 | r + 1 => by
  show (lpI mask h r).2 / 32 = _
  rw [lpI_pert mask h r, Nat.div_div_eq_div_mul, Nat.pow_succ]
theorem lpI_zero (mask : Nat) (h : Int) {r : Nat} (hr : 13 ≤ r) : (lpI mask h r).2 = 0 := by
 rw [lpI_pert]
 have h1 := bits_lt h
 have h2 : 32 ^ 13 ≤ 32 ^ r := Nat.pow_le_pow_right (by decide) hr
 exact Nat.div_eq_of_lt (Nat.lt_of_lt_of_le h1 (Nat.le_trans (by decide) h2))
theorem lpI_lcg (mask : Nat) (h : Int) {s : Nat} (hs : 13 ≤ s) : ∀ d, (lpI mask h (s + d)).1 = lcg d (lpI mask h s).1 % (mask + 1)
 | 0 => by show (lpI mask h s).1 = (lpI mask h s).1 % (mask + 1); rw [Nat.mod_eq_of_lt (Nat.lt_succ_of_le (lpI_le mask h s))]
 | d + 1 => by
  have ih := lpI_lcg mask h hs d
  show ((lpI mask h (s + d)).1 * 5 + 1 + (lpI mask h (s + d)).2 / 32) % (mask + 1) = (5 * lcg d (lpI mask h s).1 + 1) % (mask + 1)
  rw [lpI_zero mask h (by omega), ih, Nat.zero_div, Nat.add_zero, Nat.mul_comm _ 5, Nat.add_mod, Nat.mul_mod_mod, ← Nat.add_mod]
theorem lpI_all {mask k : Nat} (hk : mask + 1 = 2 ^ k) (h : Int) (r0 : Nat) {j : Nat} (hj : j ≤ mask) : ∃ r, r0 + 1 ≤ r ∧ r ≤ r0 + mask + 14 ∧ (lpI mask h r).1 = j := by
 obtain ⟨s, h1, h2, h3⟩ : ∃ s, 13 ≤ s ∧ r0 + 1 ≤ s ∧ s ≤ r0 + 14 := by
  by_cases c : 13 ≤ r0 + 1
  ·exact ⟨r0 + 1, c, by omega, by omega⟩
  ·exact ⟨13, by omega, by omega, by omega⟩
 obtain ⟨d, hd, e⟩ := lcg_all k (lpI mask h s).1 j
 refine ⟨s + d, by omega, by omega, ?_⟩
 rw [lpI_lcg mask h h1, hk, e, Nat.mod_eq_of_lt (by omega)]
theorem lpT_le (mask : Nat) (h : Int) (r : Nat) : ∀ e, lpT mask h (r + e) ≤ lpT mask h r + 10 * e
 | 0 => Nat.le_refl _
 | e + 1 => by
  have := lpT_le mask h r e
  have h2 := runEnd_le mask (lpI mask h (r + e)).1
  show lpT mask h (r + e) + (runEnd mask (lpI mask h (r + e)).1 - (lpI mask h (r + e)).1) + 1 ≤ _
  omega
theorem lpT_lt (mask : Nat) (h : Int) (r : Nat) : lpT mask h r < lpT mask h (r + 1) := by
 show _ < lpT mask h r + (runEnd mask (lpI mask h r).1 - (lpI mask h r).1) + 1
 omega
theorem lpT_mono (mask : Nat) (h : Int) (r : Nat) : ∀ e, lpT mask h r ≤ lpT mask h (r + e)
 | 0 => Nat.le_refl _
 | e + 1 => Nat.le_trans (lpT_mono mask h r e) (Nat.le_of_lt (lpT_lt mask h (r + e)))
theorem lpT_find (mask : Nat) (h : Int) : ∀ n, ∃ r, lpT mask h r ≤ n ∧ n < lpT mask h (r + 1)
 | 0 => ⟨0, Nat.le_refl _, lpT_lt mask h 0⟩
 | n + 1 => by
  obtain ⟨r, h1, h2⟩ := lpT_find mask h n
  by_cases c : n + 1 < lpT mask h (r + 1)
  ·exact ⟨r, by omega, c⟩
  ·exact ⟨r + 1, by omega, by have := lpT_lt mask h (r + 1); omega⟩
theorem pAt_all {mask k : Nat} (hk : mask + 1 = 2 ^ k) (h : Int) (n : Nat) {j : Nat} (hj : j ≤ mask) : ∃ m, n ≤ m ∧ m < n + 10 * turns mask ∧ (pAt mask h m).j = j := by
 obtain ⟨r0, h1, h2⟩ := lpT_find mask h n
 obtain ⟨r, h3, h4, e⟩ := lpI_all hk h r0 hj
 refine ⟨lpT mask h r, ?_, ?_, ?_⟩
 ·obtain ⟨x, rfl⟩ : ∃ x, r = r0 + 1 + x := ⟨r - (r0 + 1), by omega⟩
  have := lpT_mono mask h (r0 + 1) x
  omega
 ·obtain ⟨x, rfl⟩ : ∃ x, r = r0 + x := ⟨r - r0, by omega⟩
  have := lpT_le mask h r0 x
  unfold turns
  omega
 ·have := pAt_leap mask h r 0 (Nat.zero_le _)
  rw [Nat.add_zero] at this
  rw [this]
  simpa using e
theorem pAt_le (mask : Nat) (h : Int) (n : Nat) : (pAt mask h n).j ≤ mask := by
 obtain ⟨r, h1, h2⟩ := lpT_find mask h n
 have h3 := runEnd_mask (lpI_le mask h r)
 have h4 := pAt_leap mask h r (n - lpT mask h r) (by
  have : n < lpT mask h r + (runEnd mask (lpI mask h r).1 - (lpI mask h r).1) + 1 := h2
  omega)
 rw [show lpT mask h r + (n - lpT mask h r) = n by omega] at h4
 rw [h4]
 have : n < lpT mask h r + (runEnd mask (lpI mask h r).1 - (lpI mask h r).1) + 1 := h2
 have h5 := runEnd_ge mask (lpI mask h r).1
 show (lpI mask h r).1 + (n - lpT mask h r) ≤ mask
 omega
end TS
namespace TS
open PySem
open SetTable
theorem below_go {xs : Array Nat} {j : Nat} (hs : xs.toList.Pairwise (· < ·)) : ∀ fuel lo hi, hi - lo ≤ fuel → lo ≤ hi → hi ≤ xs.size → (∀ i (h : i < xs.size), i < lo → xs[i] < j) → (∀ i (h : i < xs.size), hi ≤ i → j ≤ xs[i]) →
  below.go xs j fuel lo hi ≤ xs.size ∧ (∀ i (h : i < xs.size), i < below.go xs j fuel lo hi → xs[i] < j) ∧ (∀ i (h : i < xs.size), below.go xs j fuel lo hi ≤ i → j ≤ xs[i])
 | 0, lo, hi, h1, h2, h3, h4, h5 => by
  have : lo = hi := by omega
  subst this
  exact ⟨h3, h4, h5⟩
 | fuel + 1, lo, hi, h1, h2, h3, h4, h5 => by
  unfold below.go
  by_cases c : lo < hi
  ·rw [if_pos c]
   dsimp only
   have hm : (lo + hi) / 2 < xs.size := by omega
   have e : xs.getD ((lo + hi) / 2) j = xs[(lo + hi) / 2] := by simp [Array.getD, hm]
   have mono : ∀ a b (ha : a < xs.size) (hb : b < xs.size), a < b → xs[a] < xs[b] := fun a b ha hb hab => by
    have := List.pairwise_iff_getElem.mp hs a b (by simpa using ha) (by simpa using hb) hab
    simpa using this
   rw [e]
   by_cases d : xs[(lo + hi) / 2] < j
   ·rw [if_pos d]
    refine below_go hs fuel _ _ (by omega) (by omega) h3 (fun i h hi' => ?_) h5
    by_cases q : i = (lo + hi) / 2
    ·subst q; exact d
    ·exact Nat.lt_trans (mono i _ h hm (by omega)) d
   ·rw [if_neg d]
    refine below_go hs fuel _ _ (by omega) (by omega) (by omega) h4 (fun i h hi' => ?_)
    by_cases q : i = (lo + hi) / 2
    ·subst q; omega
    ·have := mono _ i hm h (by omega); omega
  ·rw [if_neg c]
   have : lo = hi := by omega
   subst this
   exact ⟨h3, h4, h5⟩
theorem below_spec {xs : Array Nat} (hs : xs.toList.Pairwise (· < ·)) (j : Nat) :
  below xs j ≤ xs.size ∧ (∀ i (h : i < xs.size), i < below xs j → xs[i] < j) ∧ (∀ i (h : i < xs.size), below xs j ≤ i → j ≤ xs[i]) :=
 below_go hs xs.size 0 xs.size (by omega) (by omega) (Nat.le_refl _) (fun i h c => by omega) fun i h c => by omega
theorem below_at {xs : Array Nat} (hs : xs.toList.Pairwise (· < ·)) {i j : Nat} (h : xs[i]? = some j) : below xs j = i := by
 obtain ⟨h1, h2, h3⟩ := below_spec hs j
 obtain ⟨hi, e⟩ := Array.getElem?_eq_some_iff.mp h
 have mono : ∀ a b (ha : a < xs.size) (hb : b < xs.size), a < b → xs[a] < xs[b] := fun a b ha hb hab => by
  have := List.pairwise_iff_getElem.mp hs a b (by simpa using ha) (by simpa using hb) hab
  simpa using this
 rcases Nat.lt_trichotomy (below xs j) i with c | c | c
 ·have := h3 (below xs j) (by omega) (Nat.le_refl _)
  have := mono _ _ (by omega) hi c
  omega
 ·exact c
 ·have := h2 i hi c
  omega
theorem insert_sorted {xs : Array Nat} (hs : xs.toList.Pairwise (· < ·)) {j : Nat} (hj : j ∉ xs.toList) : (insertAt xs (below xs j) j).toList.Pairwise (· < ·) := by
 obtain ⟨h1, h2, h3⟩ := below_spec hs j
 rw [SetTable.toList_insertAt]
 have a : ∀ y ∈ xs.toList.take (below xs j), y < j := fun y hy => by
  obtain ⟨i, hi, e⟩ := List.mem_iff_getElem.mp hy
  rw [List.length_take] at hi
  rw [List.getElem_take] at e
  rw [← e]
  exact h2 i (by simpa using (show i < xs.toList.length by omega)) (by omega)
 have b : ∀ y ∈ xs.toList.drop (below xs j), j < y := fun y hy => by
  obtain ⟨i, hi, e⟩ := List.mem_iff_getElem.mp hy
  rw [List.length_drop] at hi
  rw [List.getElem_drop] at e
  have hm : y ∈ xs.toList := List.mem_of_mem_drop hy
  have : j ≠ y := fun z => hj (z ▸ hm)
  have := h3 (below xs j + i) (by simpa using (show below xs j + i < xs.toList.length by omega)) (by omega)
  rw [← e] at *
  simp at *
  omega
 refine List.pairwise_append.mpr ⟨hs.sublist (List.take_sublist _ _), List.pairwise_cons.mpr ⟨b, hs.sublist (List.drop_sublist _ _)⟩, fun x hx y hy => ?_⟩
 rcases List.mem_cons.mp hy with rfl | hy
 ·exact a x hx
 ·exact Nat.lt_trans (a x hx) (b y hy)
theorem slot_live {t : SetTable} (hs : t.place.toList.Pairwise (· < ·)) {i j : Nat} (h : t.place[i]? = some j) : t.slot j = .live i := by
 unfold slot
 dsimp only
 rw [below_at hs h, h]
 simp
theorem slot_empty {t : SetTable} (hd : t.dummies = #[]) {j : Nat} (h : j ∉ t.place.toList) : t.slot j = .empty := by
 unfold slot
 dsimp only
 rw [if_neg, hd, if_neg]
 ·simp [has]
 ·intro z
  have z' : t.place[below t.place j]? = some j := by simpa using z
  exact h (by rw [Array.mem_toList_iff]; exact Array.mem_of_getElem? z')
theorem sub_len : ∀ {l m : List Nat}, l.Nodup → (∀ x ∈ l, x ∈ m) → l.length ≤ m.length
 | [], m, _, _ => Nat.zero_le _
 | x :: l, m, hn, hs => by
  rw [List.nodup_cons] at hn
  have hx := hs x List.mem_cons_self
  have := @sub_len l (m.erase x) hn.2 fun y hy => by
   refine (List.mem_erase_of_ne ?_).mpr (hs y (List.mem_cons_of_mem _ hy))
   rintro rfl
   exact hn.1 hy
  have h2 := List.length_erase_of_mem hx
  have h3 : 0 < m.length := List.length_pos_of_mem hx
  rw [List.length_cons]
  omega
theorem some_free {l : List Nat} {mask : Nat} (h : l.length ≤ mask) : ∃ j, j ≤ mask ∧ j ∉ l := by
 refine Classical.byContradiction fun c => ?_
 have := @sub_len (List.range (mask + 1)) l List.nodup_range fun x hx => Classical.byContradiction fun q => c ⟨x, by have := List.mem_range.mp hx; omega, q⟩
 rw [List.length_range] at this
 omega
def ReachAt (mask : Nat) (taken : List Nat) (h : Int) (j : Nat) : Prop := ∃ n, (pAt mask h n).j = j ∧ ∀ m, m < n → (pAt mask h m).j ∈ taken
structure WFT (t : SetTable) (hs : List Int) : Prop where
 pow : ∃ k, 3 ≤ k ∧ t.mask + 1 = 2 ^ k
 small : t.mask ≤ 8191
 dum : t.dummies = #[]
 rise : t.place.toList.Pairwise (· < ·)
 all : ∀ j ∈ t.place.toList, j ≤ t.mask
 len : t.place.size = hs.length
 room : hs.length * 5 < t.mask * 3
 reach : ∀ i (h : i < hs.length) j, t.place[i]? = some j → ReachAt t.mask t.place.toList hs[i] j
theorem WFT.fits {t : SetTable} {hs : List Int} (W : WFT t hs) : t.fits hs.length = true := by
 have := W.room
 simp only [SetTable.fits, SetTable.fill, W.len, W.dum, beq_self_eq_true, Bool.true_and, decide_eq_true_eq]
 show hs.length + 0 ≤ t.mask
 omega
theorem WFT.fresh (a b : Nat) (led : Bool) : WFT (SetTable.fresh a b led) [] :=
 ⟨⟨3, by decide, rfl⟩, (by show 7 ≤ 8191; decide), rfl, List.Pairwise.nil, fun j hj => by simp [SetTable.fresh] at hj, rfl, (by show 0 * 5 < 7 * 3; decide), fun i h => by simp at h⟩
theorem first_hit {P : Nat → Prop} : ∀ d n, P (n + d) → ∃ e, e ≤ d ∧ P (n + e) ∧ ∀ m, n ≤ m → m < n + e → ¬ P m
 | 0, n, h => ⟨0, Nat.le_refl _, h, fun m h1 h2 => by omega⟩
 | d + 1, n, h => by
  by_cases c : P n
  ·exact ⟨0, Nat.zero_le _, c, fun m h1 h2 => by omega⟩
  ·obtain ⟨e, h1, h2, h3⟩ := first_hit (P := P) d (n + 1) (by rw [show n + 1 + d = n + (d + 1) by omega]; exact h)
   refine ⟨e + 1, by omega, by rw [show n + (e + 1) = n + 1 + e by omega]; exact h2, fun m h4 h5 => ?_⟩
   by_cases q : m = n
   ·subst q; exact c
   ·exact h3 m (by omega) (by omega)
theorem WFT.put {t : SetTable} {hs : List Int} (W : WFT t hs) {h : Int} {n : Nat} (he : (pAt t.mask h n).j ∉ t.place.toList) (hn : ∀ m, m < n → (pAt t.mask h m).j ∈ t.place.toList) (b : Bool)
  (hr : (hs.length + 1) * 5 < t.mask * 3) : WFT { (t.put (pAt t.mask h n).j).1 with plain := b } (hs.take (t.put (pAt t.mask h n).j).2 ++ h :: hs.drop (t.put (pAt t.mask h n).j).2) := by
 generalize hj : (pAt t.mask h n).j = j at he
 have hp : (t.put j).2 = below t.place j := rfl
 have hpl : (t.put j).1.place = insertAt t.place (below t.place j) j := rfl
 have hle := (below_spec W.rise j).1
 have hL : (insertAt t.place (below t.place j) j).toList = t.place.toList.take (below t.place j) ++ j :: t.place.toList.drop (below t.place j) := SetTable.toList_insertAt ..
 have hmem : ∀ x, x ∈ t.place.toList → x ∈ (insertAt t.place (below t.place j) j).toList := fun x hx => by
  rw [hL]
  rw [← List.take_append_drop (below t.place j) t.place.toList] at hx
  rcases List.mem_append.mp hx with z | z
  ·exact List.mem_append_left _ z
  ·exact List.mem_append_right _ (List.mem_cons_of_mem _ z)
 have len : (hs.take (below t.place j) ++ h :: hs.drop (below t.place j)).length = hs.length + 1 := by
  rw [List.length_append, List.length_cons, List.length_take, List.length_drop]
  have := W.len
  omega
 refine ⟨W.pow, W.small, ?_, insert_sorted W.rise he, fun x hx => ?_, ?_, ?_, fun i hi x hx => ?_⟩
 ·show (if has t.dummies j then eraseAt t.dummies (below t.dummies j) else t.dummies) = #[]
  rw [W.dum]
  simp [has]
 ·have hx : x ∈ (insertAt t.place (below t.place j) j).toList := hx
  show x ≤ t.mask
  rw [hL] at hx
  rcases List.mem_append.mp hx with z | z
  ·exact W.all x (List.mem_of_mem_take z)
  ·rcases List.mem_cons.mp z with rfl | z
   ·rw [← hj]; exact pAt_le t.mask h n
   ·exact W.all x (List.mem_of_mem_drop z)
 ·rw [hp, len]
  show (insertAt t.place (below t.place j) j).size = _
  rw [← Array.length_toList, hL, List.length_append, List.length_cons, List.length_take, List.length_drop, Array.length_toList, W.len]
  have := W.len
  omega
 ·rw [hp, len]; exact hr
 ·rw [hp] at hi
  have hx : (insertAt t.place (below t.place j) j)[i]? = some x := hx
  rw [← Array.getElem?_toList, hL] at hx
  have hg : ∀ (y : Int), (hs.take (below t.place j) ++ h :: hs.drop (below t.place j))[i]? = some y → ReachAt t.mask (insertAt t.place (below t.place j) j).toList y x := by
   intro y hy
   have up : ∀ {y x}, ReachAt t.mask t.place.toList y x → ReachAt t.mask (insertAt t.place (below t.place j) j).toList y x := fun {y x} ⟨n, a, b⟩ => ⟨n, a, fun m hm => hmem _ (b m hm)⟩
   have hlt : (hs.take (below t.place j)).length = below t.place j := by rw [List.length_take]; have := W.len; omega
   have hlt2 : (t.place.toList.take (below t.place j)).length = below t.place j := by rw [List.length_take, Array.length_toList]; omega
   rcases Nat.lt_trichotomy i (below t.place j) with c | c | c
   ·rw [List.getElem?_append_left (by omega), List.getElem?_take_of_lt c] at hx hy
    obtain ⟨hl, e⟩ := List.getElem?_eq_some_iff.mp hy
    have := W.reach i hl x (by rw [← Array.getElem?_toList]; exact hx)
    rw [e] at this
    exact up this
   ·subst c
    rw [List.getElem?_append_right (by omega), hlt, Nat.sub_self] at hy
    rw [List.getElem?_append_right (by omega), hlt2, Nat.sub_self] at hx
    simp at hx hy
    subst hx hy
    exact ⟨n, hj, fun m hm => hmem _ (hn m hm)⟩
   ·obtain ⟨i, rfl⟩ : ∃ q, i = q + 1 := ⟨i - 1, by omega⟩
    rw [List.getElem?_append_right (by omega), hlt, show i + 1 - below t.place j = (i - below t.place j) + 1 by omega, List.getElem?_cons_succ, List.getElem?_drop, show below t.place j + (i - below t.place j) = i by omega] at hy
    rw [List.getElem?_append_right (by omega), hlt2, show i + 1 - below t.place j = (i - below t.place j) + 1 by omega, List.getElem?_cons_succ, List.getElem?_drop, show below t.place j + (i - below t.place j) = i by omega] at hx
    obtain ⟨hl, e⟩ := List.getElem?_eq_some_iff.mp hy
    have := W.reach i hl x (by rw [← Array.getElem?_toList]; exact hx)
    rw [e] at this
    exact up this
  exact hg _ (List.getElem?_eq_getElem hi)
end TS
namespace TS
open PySem
open SetTable
def takenIn (owner : Array (Option Nat)) (j : Nat) : Prop := ∃ i, owner[j]? = some (some i)
theorem free_spec {mask : Nat} {owner : Array (Option Nat)} (hz : owner.size = mask + 1) (h : Int) : ∀ fuel r, (∃ r', r ≤ r' ∧ r' < r + fuel ∧ owner[(lpI mask h r').1]? = some none) →
  ∃ n j, layClean.free mask owner fuel (lpI mask h r).1 (lpI mask h r).2 = some j ∧ lpT mask h r ≤ n ∧ (pAt mask h n).j = j ∧ owner[j]? = some none ∧ ∀ m, lpT mask h r ≤ m → m < n → takenIn owner (pAt mask h m).j := by
 intro fuel
 induction fuel with
 | zero => rintro r ⟨r', h1, h2, _⟩; omega
 | succ fuel ih =>
  rintro r ⟨r', h1, h2, h3⟩
  have hrm := runEnd_mask (lpI_le mask h r)
  have hrg := runEnd_ge mask (lpI mask h r).1
  have hget : ∀ k, k < runEnd mask (lpI mask h r).1 + 1 - (lpI mask h r).1 → ∃ o, owner[(lpI mask h r).1 + k]? = some o ∧ owner.getD ((lpI mask h r).1 + k) (some 0) = o := fun k hk => by
   have hl : (lpI mask h r).1 + k < owner.size := by omega
   exact ⟨owner[(lpI mask h r).1 + k], Array.getElem?_eq_getElem hl, by simp [Array.getD, hl]⟩
  have hj : ∀ k, k < runEnd mask (lpI mask h r).1 + 1 - (lpI mask h r).1 → (pAt mask h (lpT mask h r + k)).j = (lpI mask h r).1 + k := fun k hk => by
   rw [pAt_leap mask h r k (by omega)]
  unfold layClean.free
  cases hf : (List.range (runEnd mask (lpI mask h r).1 + 1 - (lpI mask h r).1)).find? fun k => (owner.getD ((lpI mask h r).1 + k) (some 0)).isNone with
  | some k =>
   dsimp only
   obtain ⟨hk1, as, bs, hk2, hk3⟩ := List.find?_eq_some_iff_append.mp hf
   have hkm : k < runEnd mask (lpI mask h r).1 + 1 - (lpI mask h r).1 := by
    have := List.mem_of_find?_eq_some hf
    simpa using this
   obtain ⟨o, o1, o2⟩ := hget k hkm
   rw [o2] at hk1
   have : o = none := by cases o with | none => rfl | some _ => simp at hk1
   subst this
   refine ⟨lpT mask h r + k, _, rfl, Nat.le_add_right _ _, hj k hkm, o1, fun m m1 m2 => ?_⟩
   obtain ⟨k', rfl⟩ : ∃ k', m = lpT mask h r + k' := ⟨m - lpT mask h r, by omega⟩
   obtain ⟨o', o3, o4⟩ := hget k' (by omega)
   rw [hj k' (by omega)]
   have hin : k' ∈ as := by
    have e1 : (List.range (runEnd mask (lpI mask h r).1 + 1 - (lpI mask h r).1))[as.length]? = some k := by rw [hk2]; simp
    have e2 : as.length = k := by
     rw [List.getElem?_eq_some_iff] at e1
     obtain ⟨_, e1⟩ := e1
     simpa using e1
    have e3 : (List.range (runEnd mask (lpI mask h r).1 + 1 - (lpI mask h r).1))[k']? = some k' := by
     rw [List.getElem?_range (by omega)]
    rw [hk2, List.getElem?_append_left (by omega)] at e3
    exact List.mem_of_getElem? e3
   have := hk3 k' hin
   rw [o4] at this
   cases o' with
   | none => simp at this
   | some i => exact ⟨i, o3⟩
  | none =>
   dsimp only
   have hall := List.find?_eq_none.mp hf
   have hno : ∀ k, k < runEnd mask (lpI mask h r).1 + 1 - (lpI mask h r).1 → takenIn owner ((lpI mask h r).1 + k) := fun k hk => by
    obtain ⟨o, o1, o2⟩ := hget k hk
    have := hall k (List.mem_range.mpr hk)
    rw [o2] at this
    cases o with
    | none => simp at this
    | some i => exact ⟨i, o1⟩
   have hne : r' ≠ r := by
    rintro rfl
    obtain ⟨i, e⟩ := hno 0 (by omega)
    rw [Nat.add_zero, h3] at e
    cases e
   obtain ⟨n, j, e1, e2, e3, e4, e5⟩ := ih (r + 1) ⟨r', by omega, by omega, h3⟩
   refine ⟨n, j, e1, Nat.le_trans (Nat.le_of_lt (lpT_lt mask h r)) e2, e3, e4, fun m m1 m2 => ?_⟩
   by_cases c : m < lpT mask h (r + 1)
   ·have c' : m < lpT mask h r + (runEnd mask (lpI mask h r).1 - (lpI mask h r).1) + 1 := c
    obtain ⟨k', rfl⟩ : ∃ k', m = lpT mask h r + k' := ⟨m - lpT mask h r, by omega⟩
    rw [hj k' (by omega)]
    exact hno k' (by omega)
   ·exact e5 m (by omega) m2
structure Laid (mask : Nat) (hs : List Int) (owner : Array (Option Nat)) (k : Nat) : Prop where
 size : owner.size = mask + 1
 only : ∀ (j i : Nat), owner[j]? = some (some i) → i < k
 one : ∀ (i j j' : Nat), owner[j]? = some (some i) → owner[j']? = some (some i) → j = j'
 each : ∀ i (h : i < hs.length), i < k → ∃ (j n : Nat), owner[j]? = some (some i) ∧ (pAt mask hs[i] n).j = j ∧ ∀ m, m < n → takenIn owner (pAt mask hs[i] m).j
theorem laid_free {mask : Nat} {hs : List Int} {owner : Array (Option Nat)} {k : Nat} (L : Laid mask hs owner k) (hk : k ≤ mask) : ∃ j, j ≤ mask ∧ owner[j]? = some none := by
 refine Classical.byContradiction fun c => ?_
 have hall : ∀ j, j ≤ mask → ∃ i, owner[j]? = some (some i) := fun j hj => by
  have hl : j < owner.size := by rw [L.size]; omega
  cases e : owner[j] with
  | none => exact (c ⟨j, hj, by rw [Array.getElem?_eq_getElem hl, e]⟩).elim
  | some i => exact ⟨i, by rw [Array.getElem?_eq_getElem hl, e]⟩
 let f : Nat → Nat := fun j => match owner[j]? with | some (some i) => i | _ => 0
 have hf : ∀ j, j ≤ mask → owner[j]? = some (some (f j)) := fun j hj => by
  obtain ⟨i, e⟩ := hall j hj
  show _ = some (some (match owner[j]? with | some (some i) => i | _ => 0))
  rw [e]
 have := @sub_len ((List.range (mask + 1)).map f) (List.range k) (by
  rw [List.Nodup, List.pairwise_map]
  refine List.Pairwise.imp_of_mem (fun {a b} ha hb hab e => ?_) (List.nodup_range (n := mask + 1))
  have ha := List.mem_range.mp ha
  have hb := List.mem_range.mp hb
  have h1 := hf a (by omega)
  have h2 := hf b (by omega)
  rw [e] at h1
  exact hab (L.one _ _ _ h1 h2)) fun x hx => by
   obtain ⟨j, hj, rfl⟩ := List.mem_map.mp hx
   exact List.mem_range.mpr (L.only j _ (hf j (by have := List.mem_range.mp hj; omega)))
 rw [List.length_map, List.length_range, List.length_range] at this
 omega
def layStep (mask : Nat) (acc : Option (Array (Option Nat) × Nat)) (h : Int) : Option (Array (Option Nat) × Nat) := do
  let (owner, k) ← acc
  let j ← layClean.free mask owner (turns mask) (bits h % (mask + 1)) (bits h)
  pure (owner.setIfInBounds j (some k), k + 1)
theorem lay_step {mask p : Nat} (hp : mask + 1 = 2 ^ p) {hs : List Int} {owner : Array (Option Nat)} {k : Nat} (L : Laid mask hs owner k) (hk : k < hs.length) (hm : hs.length ≤ mask) :
  ∃ owner', layStep mask (some (owner, k)) hs[k] = some (owner', k + 1) ∧ Laid mask hs owner' (k + 1) := by
 obtain ⟨j0, h1, h2⟩ := laid_free L (by omega)
 obtain ⟨r, r1, r2, r3⟩ := lpI_all hp hs[k] 0 h1
 obtain ⟨n, j, e1, e2, e3, e4, e5⟩ := free_spec L.size hs[k] (turns mask) 0 ⟨r, by omega, by unfold turns; omega, by rw [r3]; exact h2⟩
 refine ⟨owner.setIfInBounds j (some k), ?_, ?_⟩
 ·have e1' : layClean.free mask owner (turns mask) (bits hs[k] % (mask + 1)) (bits hs[k]) = some j := e1
  show (layClean.free mask owner (turns mask) (bits hs[k] % (mask + 1)) (bits hs[k]) >>= fun j => pure (owner.setIfInBounds j (some k), k + 1)) = _
  rw [e1']; rfl
 have hj : j < owner.size := (Array.getElem?_eq_some_iff.mp e4).1
 have hself : (owner.setIfInBounds j (some k))[j]? = some (some k) := by simp [hj]
 have hoth : ∀ x, x ≠ j → (owner.setIfInBounds j (some k))[x]? = owner[x]? := fun x hx => by simp [Array.getElem?_setIfInBounds, Ne.symm hx]
 have up : ∀ x, takenIn owner x → takenIn (owner.setIfInBounds j (some k)) x := fun x ⟨i, hi⟩ => by
  by_cases c : x = j
  ·subst c; exact ⟨k, hself⟩
  ·exact ⟨i, by rw [hoth x c]; exact hi⟩
 refine ⟨by simp [L.size], fun x i hx => ?_, fun i x y hx hy => ?_, fun i hi hik => ?_⟩
 ·by_cases c : x = j
  ·subst c; rw [hself] at hx; cases hx; omega
  ·rw [hoth x c] at hx; have := L.only x i hx; omega
 ·by_cases c : x = j
  ·by_cases d : y = j
   ·rw [c, d]
   ·subst c; rw [hself] at hx; cases hx
    rw [hoth y d] at hy; have := L.only y _ hy; omega
  ·rw [hoth x c] at hx
   by_cases d : y = j
   ·subst d; rw [hself] at hy; cases hy; have := L.only x _ hx; omega
   ·rw [hoth y d] at hy; exact L.one i x y hx hy
 ·by_cases c : i = k
  ·subst c
   exact ⟨j, n, hself, e3, fun m hm => up _ (e5 m (Nat.zero_le _) hm)⟩
  ·obtain ⟨x, n', q1, q2, q3⟩ := L.each i hi (by omega)
   refine ⟨x, n', ?_, q2, fun m hm => up _ (q3 m hm)⟩
   rw [hoth x (fun z => by subst z; rw [e4] at q1; cases q1)]
   exact q1
theorem lay_all {mask p : Nat} (hp : mask + 1 = 2 ^ p) (hs : List Int) (hm : hs.length ≤ mask) : ∀ (rest : List Int) (k : Nat) (owner : Array (Option Nat)), hs.drop k = rest → k ≤ hs.length → Laid mask hs owner k →
  ∃ owner', rest.foldl (layStep mask) (some (owner, k)) = some (owner', hs.length) ∧ Laid mask hs owner' hs.length
 | [], k, owner, e, hk, L => by
  have : k = hs.length := by have := congrArg List.length e; rw [List.length_drop] at this; simp at this; omega
  subst this
  exact ⟨owner, rfl, L⟩
 | x :: rest, k, owner, e, hk, L => by
  have hlt : k < hs.length := by have := congrArg List.length e; rw [List.length_drop] at this; simp at this; omega
  have hx : hs[k] = x ∧ hs.drop (k + 1) = rest := by
   rw [List.drop_eq_getElem_cons hlt] at e
   injection e with a b
   exact ⟨a, b⟩
  obtain ⟨o', e1, L'⟩ := lay_step hp L hlt hm
  rw [hx.1] at e1
  obtain ⟨o2, e2, L2⟩ := lay_all hp hs hm rest (k + 1) o' hx.2 hlt L'
  exact ⟨o2, by rw [List.foldl_cons, e1]; exact e2, L2⟩
theorem layClean_ok {mask p : Nat} (hp : mask + 1 = 2 ^ p) {hs : Array Int} (hm : hs.size ≤ mask) : ∃ owner, layClean mask hs = some owner ∧ Laid mask hs.toList owner hs.size := by
 obtain ⟨o, e, L⟩ := lay_all hp hs.toList (by simpa using hm) hs.toList 0 (Array.replicate (mask + 1) none) rfl (Nat.zero_le _)
  ⟨by simp, fun j i h => by simp [Array.getElem?_replicate] at h, fun i j j' h => by simp [Array.getElem?_replicate] at h, fun i _ h => by omega⟩
 refine ⟨o, ?_, by simpa using L⟩
 unfold layClean
 rw [← Array.foldl_toList]
 have e' : hs.toList.foldl (fun acc h => do
  let (owner, k) ← acc
  let j ← layClean.free mask owner (turns mask) (bits h % (mask + 1)) (bits h)
  pure (owner.setIfInBounds j (some k), k + 1)) (some (Array.replicate (mask + 1) none, 0)) = some (o, hs.toList.length) := e
 rw [e']
 rfl
def liveOf (mask : Nat) (owner : Array (Option Nat)) : List (Nat × Nat) := (List.range (mask + 1)).filterMap fun j => (owner.getD j none).map (j, ·)
theorem live_mem {mask : Nat} {owner : Array (Option Nat)} (hz : owner.size = mask + 1) {j i : Nat} : (j, i) ∈ liveOf mask owner ↔ owner[j]? = some (some i) := by
 unfold liveOf
 rw [List.mem_filterMap]
 constructor
 ·rintro ⟨x, hx, e⟩
  have hx := List.mem_range.mp hx
  have hl : x < owner.size := by omega
  have : owner.getD x none = owner[x] := by simp [Array.getD, hl]
  rw [this] at e
  cases q : owner[x] with
  | none => rw [q] at e; simp at e
  | some y =>
   rw [q] at e
   simp at e
   obtain ⟨rfl, rfl⟩ := e
   rw [Array.getElem?_eq_getElem hl, q]
 ·intro h
  obtain ⟨hl, e⟩ := Array.getElem?_eq_some_iff.mp h
  refine ⟨j, List.mem_range.mpr (by omega), ?_⟩
  simp [Array.getD, hl, e]
theorem live_rise (owner : Array (Option Nat)) (mask : Nat) : (liveOf mask owner).Pairwise fun a b => a.1 < b.1 := by
 unfold liveOf
 rw [List.pairwise_filterMap]
 refine List.Pairwise.imp (fun {a b} hab x hx y hy => ?_) (List.pairwise_lt_range (n := mask + 1))
 rw [Option.map_eq_some_iff] at hx hy
 obtain ⟨_, _, rfl⟩ := hx
 obtain ⟨_, _, rfl⟩ := hy
 exact hab
theorem perm_range {l : List Nat} {n : Nat} (hn : l.Nodup) (h : ∀ i, i ∈ l ↔ i < n) : l.Perm (List.range n) := by
 refine (List.perm_ext_iff_of_nodup hn List.nodup_range).mpr fun i => ?_
 rw [h i, List.mem_range]
theorem laid_ok {mask p : Nat} (hp : mask + 1 = 2 ^ p) (h3 : 3 ≤ p) {hs : Array Int} (hm : hs.size * 5 < mask * 3) (hsm : mask ≤ 8191) (fg mv : Nat) (led plain : Bool) :
  ∃ t order, SetTable.laid mask fg mv led plain hs = some (t, order) ∧ t.led = led ∧ t.mask = mask ∧ order.toList.Perm (List.range hs.size) ∧ WFT t (order.toList.map fun i => hs.getD i 0) := by
 obtain ⟨owner, e, L⟩ := layClean_ok hp (hs := hs) (by omega)
 refine ⟨_, _, by unfold SetTable.laid; rw [e]; rfl, rfl, rfl, ?_, ?_⟩
 ·show ((liveOf mask owner).map (·.2)).toArray.toList.Perm _
  rw [List.toList_toArray]
  refine perm_range ?_ fun i => ?_
  ·rw [List.Nodup, List.pairwise_map]
   refine List.Pairwise.imp_of_mem (fun {a b} ha hb hab z => ?_) (live_rise owner mask)
   have ha := (live_mem L.size (j := a.1) (i := a.2)).mp ha
   have hb := (live_mem L.size (j := b.1) (i := b.2)).mp hb
   rw [z] at ha
   have := L.one _ _ _ ha hb
   omega
  ·rw [List.mem_map]
   constructor
   ·rintro ⟨⟨j, i'⟩, hj, rfl⟩
    exact L.only j i' ((live_mem L.size).mp hj)
   ·intro hi
    obtain ⟨j, n, e1, _⟩ := L.each i (by simpa using hi) hi
    exact ⟨(j, i), (live_mem L.size).mpr e1, rfl⟩
 ·have hperm : ((liveOf mask owner).map (·.2)).Perm (List.range hs.size) := by
   refine perm_range ?_ fun i => ?_
   ·rw [List.Nodup, List.pairwise_map]
    refine List.Pairwise.imp_of_mem (fun {a b} ha hb hab z => ?_) (live_rise owner mask)
    have ha := (live_mem L.size (j := a.1) (i := a.2)).mp ha
    have hb := (live_mem L.size (j := b.1) (i := b.2)).mp hb
    rw [z] at ha
    have := L.one _ _ _ ha hb
    omega
   ·rw [List.mem_map]
    constructor
    ·rintro ⟨⟨j, i'⟩, hj, rfl⟩
     exact L.only j i' ((live_mem L.size).mp hj)
    ·intro hi
     obtain ⟨j, n, e1, _⟩ := L.each i (by simpa using hi) hi
     exact ⟨(j, i), (live_mem L.size).mpr e1, rfl⟩
  have hlen : (liveOf mask owner).length = hs.size := by
   have := hperm.length_eq
   rw [List.length_map, List.length_range] at this
   exact this
  refine ⟨⟨p, h3, hp⟩, hsm, rfl, ?_, fun j hj => ?_, ?_, ?_, fun i hi j hj => ?_⟩
  ·show ((liveOf mask owner).map (·.1)).toArray.toList.Pairwise (· < ·)
   rw [List.toList_toArray, List.pairwise_map]
   exact live_rise owner mask
  ·have hj : j ∈ ((liveOf mask owner).map (·.1)).toArray.toList := hj
   rw [List.toList_toArray] at hj
   obtain ⟨⟨a, b⟩, hab, rfl⟩ := List.mem_map.mp hj
   have := (Array.getElem?_eq_some_iff.mp ((live_mem L.size).mp hab)).1
   show a ≤ mask
   have := L.size
   omega
  ·show ((liveOf mask owner).map (·.1)).toArray.size = (((liveOf mask owner).map (·.2)).toArray.toList.map _).length
   simp
  ·show (((liveOf mask owner).map (·.2)).toArray.toList.map _).length * 5 < mask * 3
   rw [List.toList_toArray, List.length_map, List.length_map, hlen]
   exact hm
  ·have hj : ((liveOf mask owner).map (·.1)).toArray[i]? = some j := hj
   rw [List.getElem?_toArray, List.getElem?_map] at hj
   have hi' : i < (liveOf mask owner).length := by simpa [liveOf] using hi
   rw [List.getElem?_eq_getElem hi'] at hj
   simp only [Option.map_some, Option.some.injEq] at hj
   have hmem : (liveOf mask owner)[i] ∈ liveOf mask owner := List.getElem_mem hi'
   have ho := (live_mem L.size (j := (liveOf mask owner)[i].1) (i := (liveOf mask owner)[i].2)).mp hmem
   have hlt := L.only _ _ ho
   obtain ⟨j', n, e1, e2, e3⟩ := L.each (liveOf mask owner)[i].2 (by simpa using hlt) hlt
   have hjj := L.one _ _ _ ho e1
   have hh : (((liveOf mask owner).map (·.2)).toArray.toList.map fun i => hs.getD i 0)[i]'(by simpa using hi') = hs.toList[(liveOf mask owner)[i].2]'(by simpa using hlt) := by
    simp [Array.getD, hlt]
   show ReachAt mask _ _ j
   refine ⟨n, ?_, fun m hm' => ?_⟩
   ·have : (pAt mask ((((liveOf mask owner).map (·.2)).toArray.toList.map fun i => hs.getD i 0)[i]'(by simpa using hi')) n).j = j := by rw [hh, e2, ← hj, hjj]
    exact this
   ·have h5 := e3 m hm'
    have : (pAt mask ((((liveOf mask owner).map (·.2)).toArray.toList.map fun i => hs.getD i 0)[i]'(by simpa using hi')) m).j ∈ ((liveOf mask owner).map (·.1)).toArray.toList := by
     rw [hh, List.toList_toArray]
     obtain ⟨i2, h6⟩ := h5
     exact List.mem_map.mpr ⟨(_, i2), (live_mem L.size).mpr h6, rfl⟩
    exact this
theorem sizeAbove_go : ∀ fuel size n, (∃ k, 3 ≤ k ∧ size = 2 ^ k) → n < size * 2 ^ fuel → ∃ k, 3 ≤ k ∧ sizeAbove.go n fuel size = 2 ^ k ∧ n < sizeAbove.go n fuel size
 | 0, size, n, ⟨k, hk, e⟩, h => ⟨k, hk, e, by simpa [sizeAbove.go] using h⟩
 | fuel + 1, size, n, ⟨k, hk, e⟩, h => by
  unfold sizeAbove.go
  by_cases c : size ≤ n
  ·rw [if_pos c]
   exact sizeAbove_go fuel (size * 2) n ⟨k + 1, by omega, by rw [Nat.pow_succ, e]⟩ (by rw [Nat.mul_assoc, ← Nat.pow_succ']; exact h)
  ·rw [if_neg c]
   exact ⟨k, hk, e, by omega⟩
theorem sizeAbove_ok {n : Nat} (h : n < 2 ^ 60) : ∃ k, 3 ≤ k ∧ sizeAbove n = 2 ^ k ∧ n < sizeAbove n :=
 sizeAbove_go 64 8 n ⟨3, by decide, rfl⟩ (Nat.lt_trans h (by decide))
theorem sizeAbove_le : ∀ fuel size n k, (∃ q, q ≤ k ∧ size = 2 ^ q) → n < 2 ^ k → sizeAbove.go n fuel size ≤ 2 ^ k
 | 0, size, n, k, ⟨q, h1, h2⟩, h => by unfold sizeAbove.go; rw [h2]; exact Nat.pow_le_pow_right (by decide) h1
 | fuel + 1, size, n, k, ⟨q, h1, h2⟩, h => by
  unfold sizeAbove.go
  by_cases c : size ≤ n
  ·rw [if_pos c]
   refine sizeAbove_le fuel (size * 2) n k ⟨q + 1, ?_, by rw [h2, Nat.pow_succ]⟩ h
   refine Classical.byContradiction fun z => ?_
   have : q = k := by omega
   subst this
   omega
  ·rw [if_neg c, h2]; exact Nat.pow_le_pow_right (by decide) h1
end TS
namespace TL
open PySem TS
section
variable {prog : Program} {w : World} {K : Type} [DecidableEq K] {knd : KeyKind prog w K} {A : Around} {E : Value → Shared → Prop} {s : Shared}
def entS (knd : KeyKind prog w K) (x : List K × Addr) : Int × Value := (tupleKeyHash knd x.1, .ref x.2)
def SetH (knd : KeyKind prog w K) (h : Heap) (a : Addr) (xs : List (List K × Addr)) : Prop :=
 ∃ o es ep t, h.get? a = some o ∧ o.ExactSet ∧ o.data = .set es ep t ∧ es.toList = xs.map (entS knd) ∧ (xs.map (·.1)).Nodup ∧ WFT t (xs.map fun x => tupleKeyHash knd x.1)
end
end TL
namespace TL
open PySem TS
section
variable {prog : Program} {w : World} {K : Type} [DecidableEq K] {knd : KeyKind prog w K} {A : Around} {E : Value → Shared → Prop} {s : Shared}
theorem storeS {h : Heap} {a : Addr} {o : Obj} {es : Array (Int × Value)} {ep : Nat} {t : SetTable} (ho : h.get? a = some o) (hd : o.data = .set es ep t) (es' : Array (Int × Value)) (t' : SetTable) :
  (h.update a (Obj.putSet es' t')).get? a = some { o with data := .set es' (ep + 1) t' } := by
 have := Heap.get?_update_self (Obj.putSet es' t') ho (by rw [putSet_of es' t' hd]; rfl)
 rw [putSet_of es' t' hd] at this; exact this
theorem perm_map_getD {α : Type} {order : List Nat} {xs : List α} (hp : order.Perm (List.range xs.length)) : (order.filterMap fun i => xs[i]?).Perm xs := by
 have := hp.filterMap (fun i => xs[i]?)
 rw [List.filterMap_getElem?_range_length] at this
 exact this
theorem filterMap_map_order {α β : Type} (f : α → β) {order : List Nat} {xs : List α} : (order.filterMap fun i => (xs.map f)[i]?) = (order.filterMap fun i => xs[i]?).map f := by
 rw [List.map_filterMap]
 congr 1
 funext i
 rw [List.getElem?_map]
theorem order_hash {order : List Nat} {hs : List Int} (hp : order.Perm (List.range hs.length)) : (order.map fun i => hs.getD i 0) = order.filterMap fun i => hs[i]? := by
 have hall : ∀ i ∈ order, i < hs.length := fun i hi => List.mem_range.mp (hp.mem_iff.mp hi)
 clear hp
 induction order with
 | nil => rfl
 | cons x l ih =>
  have hx := hall x List.mem_cons_self
  rw [List.map_cons, List.filterMap_cons, List.getElem?_eq_getElem hx, ih fun i hi => hall i (List.mem_cons_of_mem _ hi), List.getD_eq_getElem?_getD, List.getElem?_eq_getElem hx]
  rfl
theorem insert_map {α β : Type} (f : α → β) (xs : List α) (x : α) (p : Nat) : (xs.map f).take p ++ f x :: (xs.map f).drop p = (xs.take p ++ x :: xs.drop p).map f := by
 rw [List.map_append, List.map_cons, List.map_take, List.map_drop]
end
end TL
namespace TL
open PySem TS
def byT (w : World) : Bool := w.params.followText "set-order"
def entZ (x : Int × Tok) : Int × Value := (hashInt x.1, .int x.1 x.2)
def SetE (w : World) (h : Heap) (a : Addr) (ep : Nat) (xs : List (Int × Tok)) : Prop :=
 ∃ o es t, h.get? a = some o ∧ o.ExactSet ∧ o.data = .set es ep t ∧ es.toList = xs.map entZ ∧ (xs.map (·.1)).Nodup ∧ WFT t (xs.map fun x => hashInt x.1) ∧ t.plain = true ∧ (t.led = true ∨ byT w = true)
theorem laid_plain {mask fg mv : Nat} {led plain : Bool} {hs : Array Int} {t : SetTable} {o : Array Nat} (h : SetTable.laid mask fg mv led plain hs = some (t, o)) : t.plain = plain ∧ t.led = led := by
 unfold SetTable.laid at h
 cases e : SetTable.layClean mask hs with
 | none => rw [e] at h; cases h
 | some owner => rw [e] at h; cases h; exact ⟨rfl, rfl⟩
theorem free_go {t : SetTable} {hs : List Int} (W : WFT t hs) {h : Int} : ∀ (d fuel n : Nat), d < fuel → (pAt t.mask h (n + d)).j ∉ t.place.toList → (∀ m, n ≤ m → m < n + d → (pAt t.mask h m).j ∈ t.place.toList) →
  SetTable.probe.go t (fun _ => h + 1) h fuel (pAt t.mask h n) = some (.empty (pAt t.mask h (n + d)).j none) := by
 intro d
 induction d with
 | zero =>
  intro fuel n hf z _
  obtain ⟨f, rfl⟩ : ∃ f, fuel = f + 1 := ⟨fuel - 1, by omega⟩
  unfold SetTable.probe.go
  rw [Nat.add_zero] at z ⊢
  rw [slot_empty W.dum z, pAt_dummy]
 | succ d ih =>
  intro fuel n hf z hno
  obtain ⟨f, rfl⟩ : ∃ f, fuel = f + 1 := ⟨fuel - 1, by omega⟩
  have n1 := hno n (Nat.le_refl _) (by omega)
  obtain ⟨i, hi⟩ := Array.mem_iff_getElem?.mp (Array.mem_toList_iff.mp n1)
  unfold SetTable.probe.go
  rw [slot_live W.rise hi]
  dsimp only
  rw [if_neg (by simp; omega), adv_eq]
  have := ih f (n + 1) (by omega) (by rw [show n + 1 + d = n + (d + 1) by omega]; exact z) fun m h1 h2 => hno m (by omega) (by omega)
  rw [show n + (d + 1) = n + 1 + d by omega]
  exact this
theorem free_slot {t : SetTable} {hs : List Int} (W : WFT t hs) (h : Int) : ∃ m0, (pAt t.mask h m0).j ∉ t.place.toList ∧ (∀ m, m < m0 → (pAt t.mask h m).j ∈ t.place.toList) ∧ t.freeSlot h = some ((pAt t.mask h m0).j, false) := by
 obtain ⟨k, _, hk⟩ := W.pow
 obtain ⟨j, hj, hf⟩ := @some_free t.place.toList t.mask (by
  have := W.room; have h1 := W.len
  rw [Array.length_toList]; omega)
 obtain ⟨m, h1, h2, e⟩ := pAt_all hk h 0 hj
 obtain ⟨e', h3, h4, h5⟩ := first_hit (P := fun n => (pAt t.mask h n).j ∉ t.place.toList) m 0 (by rw [Nat.zero_add, e]; exact hf)
 rw [Nat.zero_add] at h4
 have g : ∀ m, m < e' → (pAt t.mask h m).j ∈ t.place.toList := fun q hq => Classical.byContradiction fun c => h5 q (Nat.zero_le _) (by omega) c
 refine ⟨e', h4, g, ?_⟩
 have := free_go W e' (10 * SetTable.turns t.mask) 0 (by omega) (by rw [Nat.zero_add]; exact h4) fun m _ hm => g m (by omega)
 unfold SetTable.freeSlot SetTable.probe
 rw [pAt_start, this, Nat.zero_add]
 rfl
section
variable {prog : Program} {w : World} {A : Around} {E : Value → Shared → Prop} {s : Shared}
theorem SetE.elems {xs : List (Int × Tok)} : ElemsOf (intKind prog w) (xs.map entZ) := fun e he => by
 obtain ⟨x, _, rfl⟩ := List.mem_map.mp he
 exact ⟨⟨x.1, by show Value.isInt x.1 (.int x.1 x.2) = true; simp [Value.isInt], rfl⟩, rfl⟩
theorem SetE.setOf {h : Heap} {a : Addr} {ep : Nat} {xs : List (Int × Tok)} (hS : SetE w h a ep xs) (hb : xs.length < 4096) : h.SetOf (intKind prog w) a (fun k => decide (k ∈ xs.map (·.1))) xs.length := by
 obtain ⟨o, es, t, ho, hex, hd, he, hn, W, _, _⟩ := hS
 have hsz : es.size = xs.length := by rw [← Array.length_toList, he, List.length_map]
 refine ⟨o, es, ep, t, ho, hex, hd, by rw [he]; exact SetE.elems, fun k => ?_, by rw [hsz]; exact hb, ?_, hsz⟩
 ·rw [decide_eq_true_eq, he]
  constructor
  ·intro hk
   obtain ⟨x, hx, rfl⟩ := List.mem_map.mp hk
   exact ⟨entZ x, List.mem_map_of_mem hx, by show Value.isInt x.1 (.int x.1 x.2) = true; simp [Value.isInt]⟩
  ·rintro ⟨e, hz, hk⟩
   obtain ⟨x, hx, rfl⟩ := List.mem_map.mp hz
   obtain ⟨t', e⟩ := Value.isInt_shape (k := k) (v := (entZ x).2) hk
   have : x.1 = k := by
    have e : Value.int x.1 x.2 = .int k t' := e
    injection e
   exact this ▸ List.mem_map_of_mem hx
 ·have := W.fits; rw [List.length_map] at this; rw [hsz]; exact this
theorem wp_addZ {a : Addr} {ep : Nat} {xs : List (Int × Tok)} {k : Int} {tk : Tok} {Q : Bool → Shared → Prop} (hS : SetE w s.heap a ep xs) (hroom : xs.length < 2000)
  (hold : k ∈ xs.map (·.1) → Q false s) (hnew : k ∉ xs.map (·.1) → ∀ h' ep' xs', Heap.SameBut a s.heap h' → SetE w h' a ep' xs' → xs'.Perm (xs ++ [(k, tk)]) → Q true { s with heap := h' }) :
  wpAny (model prog w) A (setAddHashed a (.int k tk) (hashInt k)) Q E s := by
 obtain ⟨o, es, t, ho, hex, hd, he, hnd, W, hp, hl⟩ := id hS
 have hsz : es.size = xs.length := by rw [← Array.length_toList, he, List.length_map]
 have hfit : t.fits es.size = true := by have := W.fits; rw [List.length_map] at this; rw [hsz]; exact this
 have hel : ElemsOf (intKind prog w) es.toList := by rw [he]; exact SetE.elems
 have hkey : (intKind prog w).is k (.int k tk) = true := by show Value.isInt k (.int k tk) = true; simp [Value.isInt]
 have hb4 : scanBound = 4096 := rfl
 unfold setAddHashed setAddHashedIn
 refine wpAny_holding (wpAny_bind (wpAny_setState_of ho hd hfit ?_))
 dsimp only
 rw [byScan_of (knd := intKind prog w) rfl (by rw [hsz, hb4]; omega) hel]
 simp only [if_true]
 unfold setAddByScan
 refine wpAny_bind ?_
 refine wpAny_bind (wpAny_rule ?_)
 refine wpAny_bind (wpAny_setScan_of (knd := intKind prog w) (k := k) hkey ho hd hfit hel ?_)
 have his : ∀ x : Int × Tok, (intKind prog w).is k (entZ x).2 = decide (x.1 = k) := fun x => by
  show Value.isInt k (.int x.1 x.2) = _
  rw [Bool.eq_iff_iff]
  simp [Value.isInt]
 cases hr : List.findIdx? (fun e => (intKind prog w).is k e.2) es.toList with
 | some j =>
  dsimp only
  obtain ⟨hj, hpj, _⟩ := List.findIdx?_eq_some_iff_getElem.mp hr
  refine wpAny_pure (wpAny_pure (hold ?_))
  have hm : es.toList[j] ∈ xs.map entZ := by rw [← he]; exact List.getElem_mem hj
  obtain ⟨x, hx, ex⟩ := List.mem_map.mp hm
  rw [← ex, his] at hpj
  have : x.1 = k := by simpa using hpj
  exact this ▸ List.mem_map_of_mem hx
 | none =>
  dsimp only
  have hn : k ∉ xs.map (·.1) := fun hk => by
   obtain ⟨x, hx, rfl⟩ := List.mem_map.mp hk
   have := List.findIdx?_eq_none_iff.mp hr (entZ x) (by rw [he]; exact List.mem_map_of_mem hx)
   rw [his] at this
   simp at this
  obtain ⟨m0, g1, g2, gf⟩ := free_slot W (hashInt k)
  generalize hp0 : (t.put (pAt t.mask (hashInt k) m0).j).2 = p
  have hp' : p = SetTable.below t.place (pAt t.mask (hashInt k) m0).j := by rw [← hp0]; rfl
  have hple : p ≤ xs.length := by
   have h1 := (below_spec W.rise (pAt t.mask (hashInt k) m0).j).1
   have h2 := W.len
   rw [List.length_map] at h2
   omega
  generalize hes : SetTable.insertAt es p (hashInt k, Value.int k tk) = es1
  generalize ht2 : (t.put (pAt t.mask (hashInt k) m0).j).1 = t2
  have he1 : es1.toList = (xs.take p ++ (k, tk) :: xs.drop p).map entZ := by
   rw [← hes, SetTable.toList_insertAt, he]
   exact insert_map entZ xs (k, tk) p
  have hperm : (xs.take p ++ (k, tk) :: xs.drop p).Perm (xs ++ [(k, tk)]) := by
   refine List.perm_middle.trans ?_
   rw [List.take_append_drop]
   exact (List.perm_append_singleton (k, tk) xs).symm
  have hl1 : (xs.take p ++ (k, tk) :: xs.drop p).length = xs.length + 1 := by rw [hperm.length_eq]; simp
  have hs1 : es1.size = xs.length + 1 := by rw [← Array.length_toList, he1, List.length_map, hl1]
  have hnd1 : ((xs.take p ++ (k, tk) :: xs.drop p).map (·.1)).Nodup := by
   refine (hperm.map (·.1)).nodup_iff.mpr ?_
   rw [List.map_append]
   refine List.nodup_append.mpr ⟨hnd, by simp, fun x hx y hy => ?_⟩
   simp at hy
   subst hy
   exact fun z => hn (z ▸ hx)
  have hh1 : (xs.take p ++ (k, tk) :: xs.drop p).map (fun x => hashInt x.1) = (xs.map fun x => hashInt x.1).take p ++ hashInt k :: (xs.map fun x => hashInt x.1).drop p :=
   (insert_map (fun x : Int × Tok => hashInt x.1) xs (k, tk) p).symm
  have hmask : t2.mask = t.mask := by rw [← ht2]; rfl
  have hplain2 : t2.plain = true := by rw [← ht2]; exact hp
  have hled2 : t2.led = true ∨ byT w = true := by rw [← ht2]; exact hl
  have hpl2 : t2.place.size = xs.length + 1 := by
   have h2 := W.len
   rw [List.length_map] at h2
   have : t2.place = SetTable.insertAt t.place p (pAt t.mask (hashInt k) m0).j := by rw [← ht2, hp']; rfl
   rw [this, ← Array.length_toList, SetTable.toList_insertAt, List.length_append, List.length_cons, List.length_take, List.length_drop, Array.length_toList]
   omega
  have hdum2 : t2.dummies = #[] := by
   rw [← ht2]
   show (if SetTable.has t.dummies _ then SetTable.eraseAt t.dummies _ else t.dummies) = #[]
   rw [W.dum]
   simp [SetTable.has]
  have hfill : t2.fill = xs.length + 1 := by unfold SetTable.fill; rw [hpl2, hdum2]; rfl
  have hroomW := W.room
  rw [List.length_map] at hroomW
  have h7 : 7 ≤ t.mask := by
   obtain ⟨q, q1, q2⟩ := W.pow
   have : 2 ^ 3 ≤ 2 ^ q := Nat.pow_le_pow_right (by decide) q1
   omega
  have hz1 : es1.size ≤ sizeLine := by rw [hs1, sizeLine_eq]; omega
  have hfit1 : t2.fits es1.size = true := by
   simp only [SetTable.fits, hfill, hpl2, hs1, beq_self_eq_true, Bool.true_and, decide_eq_true_eq, hmask]
   omega
  have hlay : layNew t es (hashInt k) (.int k tk) = (es1, t2, false, false) := by
   unfold layNew
   rw [gf]
   dsimp only
   rw [hp0, ht2, hes]
   unfold SetTable.orStandIn
   rw [hfit1]
   rfl
  rw [hlay]
  dsimp only
  refine wpAny_bind (m := _) (wpAny_pure ?_)
  rw [hplain2]
  simp only [if_true]
  rw [hashByValue_scannable 8 rfl]
  refine wpAny_bind (wpAny_pure ?_)
  simp only [plainKind, if_true]
  refine wpAny_bind (wpAny_storeSet_of ho hd ?_ hz1)
  have ho1 := storeS ho hd es1 t2
  have sb1 : Heap.SameBut a s.heap (s.heap.update a (Obj.putSet es1 t2)) := Heap.SameBut.update s.heap a (Obj.putSet es1 t2)
  by_cases full : t2.tooFull = true
  ·rw [full]
   simp only [Bool.not_false, Bool.and_self, if_true]
   have hgr : SetTable.grown es1.size = 4 * (xs.length + 1) := by
    unfold SetTable.grown
    rw [hs1, if_neg (by omega)]
    omega
   obtain ⟨q, q1, q2, q3⟩ := sizeAbove_ok (n := SetTable.grown es1.size) (by rw [hgr]; omega)
   have hle : SetTable.sizeAbove (SetTable.grown es1.size) ≤ 2 ^ 13 := sizeAbove_le 64 8 _ 13 ⟨3, by decide, rfl⟩ (by rw [hgr]; omega)
   generalize hbig : SetTable.sizeAbove (SetTable.grown es1.size) = big at q2 q3 hle
   have hhs : (es1.map (·.1)).toList = (xs.take p ++ (k, tk) :: xs.drop p).map (fun x => hashInt x.1) := by
    rw [Array.toList_map, he1, List.map_map]; rfl
   have hhsz : (es1.map (·.1)).size = xs.length + 1 := by rw [Array.size_map]; exact hs1
   have hb8 : 2 ^ 13 = 8192 := by decide
   obtain ⟨t3, order, e3, _, _, pe, W3⟩ := laid_ok (mask := big - 1) (p := q) (by omega) q1 (hs := es1.map (·.1)) (by rw [hhsz]; omega) (by omega) t2.finger (t2.movedTo (big - 1)) t2.led t2.plain
   have e3' : t2.relaid (es1.map (·.1)) (SetTable.grown es1.size) = some (t3, order) := by
    unfold SetTable.relaid
    rw [hbig]; exact e3
   obtain ⟨p3, l3⟩ := laid_plain e3
   have pe' : order.toList.Perm (List.range (xs.take p ++ (k, tk) :: xs.drop p).length) := by rw [hl1, ← hhsz]; exact pe
   have he2 : (order.filterMap (es1[·]?)).toList = ((order.toList.filterMap fun i => (xs.take p ++ (k, tk) :: xs.drop p)[i]?)).map entZ := by
    rw [Array.toList_filterMap, ← filterMap_map_order, ← he1]
    congr 1
    funext i
    rw [Array.getElem?_toList]
   have hpm := perm_map_getD pe'
   have hs2 : (order.filterMap (es1[·]?)).size = es1.size := by
    rw [← Array.length_toList, he2, List.length_map, hpm.length_eq, hl1, hs1]
   have W3' : WFT t3 ((order.toList.filterMap fun i => (xs.take p ++ (k, tk) :: xs.drop p)[i]?).map (fun x => hashInt x.1)) := by
    have : (order.toList.map fun i => (es1.map (·.1)).getD i 0) = (order.toList.filterMap fun i => (xs.take p ++ (k, tk) :: xs.drop p)[i]?).map (fun x => hashInt x.1) := by
     rw [← filterMap_map_order, ← hhs, ← order_hash (by rw [hhs, List.length_map]; exact pe')]
     congr 1
     funext i
     simp [Array.getD_eq_getD_getElem?, List.getD_eq_getElem?_getD]
    rw [← this]
    exact W3
   have hfit3 : t3.fits (order.filterMap (es1[·]?)).size = true := by
    have := W3'.fits
    rw [List.length_map, hpm.length_eq, hl1, ← hs1, ← hs2] at this
    exact this
   have hcov : coversAll order es1.size = true := by
    unfold coversAll
    rw [List.isPerm_iff, hs1, ← hl1]
    exact pe'
   have hrel : relayAll t2 es1 (SetTable.grown es1.size) = (order.filterMap (es1[·]?), t3, false) := by
    unfold relayAll
    rw [e3']
    dsimp only
    rw [hcov, hfit3]
    rfl
   rw [hrel]
   dsimp only
   refine wpAny_bind (m := _) (wpAny_pure ?_)
   refine wpAny_bind (wpAny_storeSet_of (s := { s with heap := s.heap.update a (Obj.putSet es1 t2) }) ho1 rfl ?_ (by rw [hs2]; exact hz1))
   refine wpAny_pure (wpAny_pure (hnew hn _ _ _ (sb1.trans (Heap.SameBut.update _ a _)) ⟨_, _, t3, storeS ho1 rfl _ _, hex, rfl, he2, ?_, W3', p3.trans hplain2, ?_⟩ (hpm.trans hperm)))
   ·exact ((hpm.map (·.1)).nodup_iff).mpr hnd1
   ·rw [l3]; exact hled2
  ·have full' : t2.tooFull = false := by cases h : t2.tooFull with | false => rfl | true => exact (full h).elim
   rw [full']
   simp only [Bool.and_false, Bool.false_eq_true, if_false]
   refine wpAny_pure (wpAny_pure (hnew hn _ _ _ sb1 ⟨_, es1, t2, ho1, hex, rfl, he1, hnd1, ?_, hplain2, hled2⟩ hperm))
   rw [hh1, ← ht2, ← hp0]
   have := W.put g1 g2 (t.put (pAt t.mask (hashInt k) m0).j).1.plain (by
    rw [List.length_map]
    unfold SetTable.tooFull at full'
    rw [hfill, hmask] at full'
    simp at full'
    omega)
   exact this
theorem wp_newSetZ {Q : Value → Shared → Prop}
  (h : ∀ led : Bool, SetE w (s.heap.push { cls := .type "set", dict := none, data := .set #[] 0 (.fresh 0 0 led) }) s.heap.objs.size 0 [] →
   Q (.ref s.heap.objs.size) { s with heap := s.heap.push { cls := .type "set", dict := none, data := .set #[] 0 (.fresh 0 0 led) } }) :
  wpAny (model prog w) A (newSet (.type "set")) Q E s := by
 unfold newSet setsByText
 refine wpAny_bind (wpAny_bind (wpAny_askSetting (wpAny_pure ?_)))
 dsimp only
 simp only [newObj]
 refine wpAny_bind (wpAny_alloc (wpAny_pure (h _ ⟨_, #[], _, Heap.get?_push_size _ rfl, ⟨rfl, rfl, rfl⟩, rfl, rfl, List.nodup_nil, WFT.fresh _ _ _, rfl, ?_⟩)))
 show (!w.params.followText "set-order") = true ∨ byT w = true
 unfold byT
 cases w.params.followText "set-order"
 ·exact .inl rfl
 ·exact .inr rfl
theorem call_set_addZ {a : Addr} {ep : Nat} {xs : List (Int × Tok)} {k : Int} {tk : Tok} {Q : Value → Shared → Prop} (hS : SetE w s.heap a ep xs) (hroom : xs.length < 2000)
  (hold : k ∈ xs.map (·.1) → Q .none { s with toks := s.toks + 1 }) (hnew : k ∉ xs.map (·.1) → ∀ h' ep' xs', Heap.SameBut a s.heap h' → SetE w h' a ep' xs' → xs'.Perm (xs ++ [(k, tk)]) → Q .none { s with heap := h', toks := s.toks + 1 }) :
  wpAny (model prog w) A (call (.builtin "set.add") [.ref a, .int k tk]) Q E s := by
 have hT : s.TypeIs (.ref a) "set" := let ⟨o, _, _, ho, hc, _⟩ := hS; ⟨o, ho, hc.1⟩
 refine wpAny_call_entry F.slot_set_add hT F.entry_set_add ?_ (F.args_set_add_2 _ _)
 unfold Builtin.«set.add» Builtin.Frozenset.oneOther
 simp only [List.isEmpty_nil, bind_assoc]
 unfold Builtin.Frozenset.addrOf setAdd
 refine wpAny_bind (wpAny_pure ?_)
 try dsimp only
 refine wpAny_bind (wpAny_pure ?_)
 try dsimp only
 refine wpAny_bind ?_
 refine wpAny_holding ?_
 refine wpAny_bind ((intKind prog w).pyHash (k := k) (by show Value.isInt k (.int k tk) = true; simp [Value.isInt]) ?_)
 refine wp_addZ (s := { s with toks := s.toks + 1 }) hS hroom (fun z => ?_) fun z h' ep' xs' q1 q2 q3 => ?_
 ·show wpAny _ _ (ret Value.none) _ _ _
  exact wpAny_pure ⟨_, rfl, hold z⟩
 ·show wpAny _ _ (ret Value.none) _ _ _
  exact wpAny_pure ⟨_, rfl, hnew z h' ep' xs' q1 q2 q3⟩
end
end TL
namespace TL
open PySem TS PyProof.Rows PySem.W
theorem slot_si_next : Slot "set_iterator" "__next__" "set_iterator.__next__" :=
 .of (owner := "set_iterator") (n := "__next__") (by rw [typeLookup_type, builtinLookup_eq_fast]; kernel_rfl) (by decide +kernel) (by decide +kernel) (by decide +kernel)
  (by first | exact .inl (by decide +kernel) | exact .inr (by decide +kernel)) (by rw [isSubtype_type]; kernel_rfl)
theorem slot_si_iter : Slot "set_iterator" "__iter__" "set_iterator.__iter__" :=
 .of (owner := "set_iterator") (n := "__iter__") (by rw [typeLookup_type, builtinLookup_eq_fast]; kernel_rfl) (by decide +kernel) (by decide +kernel) (by decide +kernel)
  (by first | exact .inl (by decide +kernel) | exact .inr (by decide +kernel)) (by rw [isSubtype_type]; kernel_rfl)
theorem entry_si_next : entryFor table "set_iterator.__next__" = some Builtin.«set_iterator.__next__» := entryFor_of_tree (by kernel_rfl)
theorem entry_si_iter : entryFor table "set_iterator.__iter__" = some Builtin.«dict_keyiterator.__iter__» :=
 entryFor_alias (id' := "dict_keyiterator.__iter__") (by kernel_rfl) rfl (by decide +kernel) (by kernel_rfl)
theorem entry_set_iter : entryFor table "set.__iter__" = some Builtin.«frozenset.__iter__» :=
 entryFor_alias (id' := "frozenset.__iter__") (by kernel_rfl) rfl (by decide +kernel) (by kernel_rfl)
theorem owner_si : Manifest.owners.lookup (String.ofList ['r', 'o', 't', 'a', 'r', 'e', 't', 'i', '_', 't', 'e', 's'].reverse) = some Manifest.sig_set_iterator := by kernel_rfl
theorem args_si_next (a : Value) : argsOk "set_iterator.__next__" ⟨[a], []⟩ := by
 unfold argsOk; rw [signature?_of (id := "set_iterator.__next__") (n := ['_', '_', 't', 'x', 'e', 'n', '_', '_']) (o := ['r', 'o', 't', 'a', 'r', 'e', 't', 'i', '_', 't', 'e', 's']) (by kernel_rfl) owner_si]; kernel_rfl
theorem args_si_iter (a : Value) : argsOk "set_iterator.__iter__" ⟨[a], []⟩ := by
 unfold argsOk; rw [signature?_of (id := "set_iterator.__iter__") (n := ['_', '_', 'r', 'e', 't', 'i', '_', '_']) (o := ['r', 'o', 't', 'a', 'r', 'e', 't', 'i', '_', 't', 'e', 's']) (by kernel_rfl) owner_si]; kernel_rfl
theorem perm_map_inv {α β : Type} {f : α → β} : ∀ {l : List β} {xs : List α}, l.Perm (xs.map f) → ∃ ys : List α, ys.Perm xs ∧ l = ys.map f
 | [], xs, h => by
  have := h.length_eq
  rw [List.length_map] at this
  have : xs = [] := List.length_eq_zero_iff.mp this.symm
  subst this
  exact ⟨[], List.Perm.refl _, rfl⟩
 | b :: l, xs, h => by
  have hb : b ∈ xs.map f := h.mem_iff.mp List.mem_cons_self
  obtain ⟨x, hx, rfl⟩ := List.mem_map.mp hb
  obtain ⟨p, q, rfl⟩ := List.append_of_mem hx
  have h2 : (f x :: l).Perm (f x :: (p ++ q).map f) := by
   refine h.trans ?_
   rw [List.map_append, List.map_cons, List.map_append]
   exact List.perm_middle
  obtain ⟨ys, h3, rfl⟩ := perm_map_inv (List.Perm.cons_inv h2)
  exact ⟨x :: ys, (List.Perm.cons x h3).trans List.perm_middle.symm, rfl⟩
theorem pick_go {α : Type} (nx : Nat → Nat) : ∀ (fuel k : Nat) (left : List α) (out : Array α), fuel = left.length → (pickOrder.go nx fuel k left out).toList.Perm (out.toList ++ left)
 | 0, k, left, out, h => by
  have : left = [] := List.length_eq_zero_iff.mp h.symm
  subst this
  unfold pickOrder.go
  rw [List.append_nil]
 | fuel + 1, k, left, out, h => by
  unfold pickOrder.go
  have hl : nx k % left.length < left.length := Nat.mod_lt _ (by omega)
  rw [List.getElem?_eq_getElem hl]
  dsimp only
  refine (pick_go nx fuel (k + 1) _ _ (by rw [List.length_eraseIdx, if_pos hl]; omega)).trans ?_
  rw [Array.toList_push, List.append_assoc]
  refine List.Perm.append_left _ ?_
  rw [List.eraseIdx_eq_take_drop_succ]
  refine List.Perm.trans (List.perm_middle (l₁ := List.take (nx k % left.length) left)).symm ?_
  rw [← List.drop_eq_getElem_cons hl, List.take_append_drop]
theorem pick_perm {α : Type} (nx : Nat → Nat) (xs : Array α) : (pickOrder nx xs).toList.Perm xs.toList := by
 have := pick_go nx xs.size 0 xs.toList #[] (by simp)
 simpa [pickOrder] using this
def ordZ (w : World) (a : Addr) (ep : Nat) (es : Array (Int × Value)) : Array (Int × Value) := if byT w = true then pickOrder (w.params.setOrder a ep) es else es
theorem ordZ_perm (w : World) (a : Addr) (ep : Nat) (es : Array (Int × Value)) : (ordZ w a ep es).toList.Perm es.toList := by
 unfold ordZ
 split
 ·exact pick_perm _ _
 ·exact List.Perm.refl _
def IsSI (h : Heap) (it a : Addr) (j i n ep : Nat) : Prop :=
 ∃ o, h.get? it = some o ∧ o.cls = .type "set_iterator" ∧ o.data = .fields #[.int j 0, .int i 0, .ref a, .int n 0, .int ep 0]
theorem IsSI.typeIs {s : Shared} {it a : Addr} {j i n ep : Nat} (x : IsSI s.heap it a j i n ep) : s.TypeIs (.ref it) "set_iterator" := let ⟨o, ho, hc, _⟩ := x; ⟨o, ho, hc⟩
structure Walk (w : World) (a : Addr) (o : Obj) (es : Array (Int × Value)) (ep : Nat) (t : SetTable) (hs : List Int) : Prop where
 d : o.data = .set es ep t
 f : t.fits es.size = true
 W : WFT t hs
 l : hs.length = es.size
 p : t.plain = true
 led : t.led = true ∨ byT w = true
section
variable {prog : Program} {w : World} {A : Around} {E : Value → Shared → Prop} {s : Shared} {it a : Addr} {o : Obj} {es : Array (Int × Value)} {ep : Nat} {t : SetTable} {hs : List Int} {i j : Nat}
theorem wp_setNext {Q : Option (Value × Nat) → Shared → Prop} (ho : s.heap.get? a = some o) (V : Walk w a o es ep t hs) (hj : byT w = false → SetTable.below t.place j = i)
  (h1 : ∀ e j', (ordZ w a ep es)[i]? = some e → (byT w = false → SetTable.below t.place j' = i + 1) → Q (some (e.2, j')) s) (h2 : (ordZ w a ep es)[i]? = none → Q none s) : wpAny (model prog w) A (setNext a j i ep) Q E s := by
 unfold setNext
 refine wpAny_bind (wpAny_setState_of ho V.d V.f ?_)
 dsimp only
 unfold setsByText
 refine wpAny_bind (wpAny_bind (wpAny_askSetting (wpAny_pure ?_)))
 cases hb : byT w with
 | true =>
  have hb' : w.params.followText "set-order" = true := hb
  show wpAny _ _ (if w.params.followText "set-order" = true then _ else _) _ _ _
  rw [hb', if_pos rfl]
  rw [if_neg (by simp)]
  refine wpAny_bind ?_
  unfold setWalk
  refine wpAny_bind (wpAny_setState_of ho V.d V.f ?_)
  dsimp only
  unfold setsByText
  refine wpAny_bind (wpAny_bind (wpAny_askSetting (wpAny_pure ?_)))
  show wpAny _ _ (if w.params.followText "set-order" = true then _ else _) _ _ _
  rw [hb', if_pos rfl]
  refine wpAny_bind (wpAny_askSetting (wpAny_pure (wpAny_pure ?_)))
  have e0 : ordZ w a ep es = pickOrder (w.params.setOrder a ep) es := by unfold ordZ; rw [hb, if_pos rfl]
  rw [e0] at h1 h2
  show Q (((pickOrder (w.params.setOrder a ep) es)[i]?).map fun e => (e.2, j)) s
  cases hq : (pickOrder (w.params.setOrder a ep) es)[i]? with
  | none => exact h2 hq
  | some e => exact h1 e j hq (fun z => by rw [hb] at z; cases z)
 | false =>
  have hb' : w.params.followText "set-order" = false := hb
  have hl : t.led = true := V.led.resolve_right (by rw [hb]; decide)
  have hi := hj hb
  show wpAny _ _ (if w.params.followText "set-order" = true then _ else _) _ _ _
  rw [hb', if_neg Bool.false_ne_true]
  show wpAny _ _ (if (!t.plain && decide (es.size > 1)) = true then _ else _) _ _ _
  rw [V.p]
  simp only [Bool.not_true, Bool.false_and, Bool.false_eq_true, if_false]
  refine wpAny_bind ?_
  show wpAny _ _ (if (!t.led && !es.isEmpty) = true then _ else _) _ _ _
  rw [hl]
  simp only [Bool.not_true, Bool.false_and, Bool.false_eq_true, if_false]
  refine wpAny_pure (wpAny_pure ?_)
  rw [hi]
  have ho : ordZ w a ep es = es := by unfold ordZ; rw [hb, if_neg Bool.false_ne_true]
  have hlen : t.place.size = es.size := by rw [V.W.len, V.l]
  rw [ho] at h1 h2
  by_cases c : i < es.size
  ·have c2 : i < t.place.size := by omega
   rw [Array.getElem?_eq_getElem c, Array.getElem?_eq_getElem c2]
   refine h1 _ (t.place[i] + 1) (Array.getElem?_eq_getElem c) (fun _ => ?_)
   obtain ⟨b1, b2, b3⟩ := below_spec V.W.rise (t.place[i] + 1)
   have g1 : i < SetTable.below t.place (t.place[i] + 1) := Classical.byContradiction fun z => by
    have := b3 i c2 (by omega)
    omega
   refine Classical.byContradiction fun z => ?_
   have c3 : i + 1 < SetTable.below t.place (t.place[i] + 1) := by omega
   have c4 : i + 1 < t.place.size := by omega
   have l1 := b2 (i + 1) c4 c3
   have l2 := List.pairwise_iff_getElem.mp V.W.rise i (i + 1) (by simpa using c2) (by simpa using c4) (by omega)
   have l2 : t.place[i] < t.place[i + 1] := by simpa using l2
   omega
  ·have e1 : es[i]? = none := Array.getElem?_eq_none (by omega)
   rw [e1]
   exact h2 e1
theorem wp_siNext_item {Q : Option Value → Shared → Prop} {n : Nat} {e : Int × Value} (hit : IsSI s.heap it a j i n ep) (ho : s.heap.get? a = some o) (hn : n = es.size) (V : Walk w a o es ep t hs) (hj : byT w = false → SetTable.below t.place j = i) (he : (ordZ w a ep es)[i]? = some e)
  (hQ : ∀ j' h', (byT w = false → SetTable.below t.place j' = i + 1) → IsSI h' it a j' (i + 1) n ep → Heap.SameBut it s.heap h' → Q (some e.2) { s with heap := h' }) :
  wpAny (model prog w) A (pyNext (.ref it)) Q E s := by
 obtain ⟨oi, hoi, hc, hd⟩ := id hit
 unfold pyNext
 refine wpAny_bind (wpAny_attempt (wpAny_callSpecial?_slot (name := Str.ofString "__next__") hit.typeIs slot_si_next (wpAny_call_entry slot_si_next hit.typeIs entry_si_next ?_ (args_si_next _))))
 unfold Builtin.«set_iterator.__next__»
 refine wpAny_bind (m := slotArgs _ _ _) (wpAny_pure ?_)
 refine wpAny_bind (wpAny_fieldsOf hoi hd ?_)
 dsimp only
 refine wpAny_bind (wpAny_setEntries_of ho V.d V.f ?_)
 rw [if_neg (by rw [hn]; simp)]
 simp only [Int.toNat_natCast]
 refine wpAny_bind (wp_setNext ho V hj (fun e' j' q1 q2 => ?_) fun q => by rw [he] at q; cases q)
 rw [he] at q1
 cases q1
 dsimp only
 refine wpAny_bind (wpAny_setField hoi hd (by simp) ?_)
 have ho1 : (s.heap.update it (Obj.mapFields (·.setIfInBounds 0 (rawInt (j' : Int))))).get? it = some (Obj.mapFields (·.setIfInBounds 0 (rawInt (j' : Int))) oi) := Heap.get?_update_self _ hoi (Obj.isFreed_of_fields (Obj.data_mapFields hd _))
 refine wpAny_bind (wpAny_setField (s := { s with heap := s.heap.update it (Obj.mapFields (·.setIfInBounds 0 (rawInt (j' : Int)))) }) ho1 (Obj.data_mapFields hd _) (by simp) ?_)
 refine wpAny_pure ⟨_, rfl, wpAny_pure (hQ j' _ q2 ⟨_, Heap.get?_update_self _ ho1 (Obj.isFreed_of_fields (Obj.data_mapFields (Obj.data_mapFields hd _) _)), ?_, ?_⟩ ((Heap.SameBut.update ..).trans (Heap.SameBut.update ..)))⟩
 ·exact (Obj.cls_mapFields ..).trans ((Obj.cls_mapFields ..).trans hc)
 ·rw [Obj.data_mapFields (Obj.data_mapFields hd _)]
  simp [rawInt]
theorem wp_siNext_end {Q : Option Value → Shared → Prop} {n : Nat} (hh : A.handled = none) (hit : IsSI s.heap it a j i n ep) (ho : s.heap.get? a = some o) (hn : n = es.size) (V : Walk w a o es ep t hs) (hj : byT w = false → SetTable.below t.place j = i) (he : (ordZ w a ep es)[i]? = none)
  (hQ : ∀ h', Heap.ExtBut it s.heap h' → Q none { s with heap := h' }) : wpAny (model prog w) A (pyNext (.ref it)) Q E s := by
 obtain ⟨oi, hoi, hc, hd⟩ := id hit
 unfold pyNext
 refine wpAny_bind (wpAny_attempt (wpAny_callSpecial?_slot (name := Str.ofString "__next__") hit.typeIs slot_si_next (wpAny_call_entry slot_si_next hit.typeIs entry_si_next ?_ (args_si_next _))))
 unfold Builtin.«set_iterator.__next__»
 refine wpAny_bind (m := slotArgs _ _ _) (wpAny_pure ?_)
 refine wpAny_bind (wpAny_fieldsOf hoi hd ?_)
 dsimp only
 refine wpAny_bind (wpAny_setEntries_of ho V.d V.f ?_)
 rw [if_neg (by rw [hn]; simp)]
 simp only [Int.toNat_natCast]
 refine wpAny_bind (wp_setNext ho V hj (fun e' j' q1 q2 => by rw [he] at q1; cases q1) fun _ => ?_)
 dsimp only
 refine wpAny_bind (wpAny_setField hoi hd (by simp) ?_)
 show wpAny _ _ (newExc (.type "StopIteration") [] >>= _) _ _ _
 refine wpAny_bind ?_
 simp only [newExc, newTuple]
 refine wpAny_bind (wpAny_newObj_type ?_ (by size_fits))
 refine wpAny_bind (m := firstArgMember _ _) (wpAny_of_eq (a := Value.none) (by first | rfl | (simp only [firstArgMember]; rfl)) ?_)
 refine wpAny_newObj_type ?_ (by size_fits)
 simp only [raiseNew]
 refine wpAny_bind (wpAny_handled ?_)
 rw [show A.in1.handled = none from hh]
 refine wpAny_bind (wpAny_pure (wpAny_throw ?_))
 refine wpAny_bind (wpAny_isInstance (T := "StopIteration") (b := true) ⟨_, Heap.get?_push_size _ rfl, rfl⟩ isSubtype_stop ?_)
 exact wpAny_pure (hQ _ (((Heap.SameBut.update ..).extBut.push _).push _))
theorem wp_iter_si {Q : Value → Shared → Prop} {n : Nat} (hit : IsSI s.heap it a j i n ep) (h : Q (.ref it) s) : wpAny (model prog w) A (pyIter (.ref it)) Q E s := by
 refine wpAny_pyIter_slot hit.typeIs slot_si_iter (wpAny_call_entry slot_si_iter hit.typeIs entry_si_iter ?_ (args_si_iter _))
 show wpAny _ _ (ret (.ref it)) _ _ s
 exact wpAny_pure ⟨_, rfl, "set_iterator", _, hit.typeIs, slot_si_next.lookup, h⟩
theorem wp_iter_set {Q : Value → Shared → Prop} (ho : s.heap.get? a = some o) (hex : o.ExactSet) (V : Walk w a o es ep t hs)
  (hQ : Q (.ref s.heap.objs.size) { s with heap := s.heap.push { cls := .type "set_iterator", data := .fields #[.int 0 0, .int 0 0, .ref a, .int es.size 0, .int ep 0] } }) : wpAny (model prog w) A (pyIter (.ref a)) Q E s := by
 have hT : s.TypeIs (.ref a) "set" := ⟨o, ho, hex.1⟩
 refine wpAny_pyIter_slot hT F.slot_set_iter (wpAny_call_entry F.slot_set_iter hT entry_set_iter ?_ (F.args_set_iter_1 _))
 unfold Builtin.«frozenset.__iter__» Builtin.Frozenset.slot0
 refine wpAny_bind (m := _) (wpAny_bind (m := slotArgs _ _ _) (wpAny_pure ?_))
 unfold Builtin.Frozenset.addrOf
 refine wpAny_pure ?_
 unfold Builtin.Frozenset.sizeOf
 refine wpAny_bind (wpAny_bind (wpAny_setEntries_of ho V.d V.f (wpAny_pure ?_)))
 unfold setDrawn
 refine wpAny_bind (wpAny_bind (wpAny_setState_of ho V.d V.f ?_))
 dsimp only
 unfold setsByText
 refine wpAny_bind (wpAny_bind (wpAny_askSetting (wpAny_pure ?_)))
 refine wpAny_pure ?_
 have hdr : (!w.params.followText "set-order" && (!t.plain && decide (es.size > 1))) = false := by rw [V.p]; simp
 show wpAny _ _ (if (!w.params.followText "set-order" && (!t.plain && decide (es.size > 1))) = true then _ else _) _ _ _
 rw [hdr, if_neg Bool.false_ne_true]
 refine wpAny_bind (wpAny_pure ?_)
 refine wpAny_bind (wpAny_setEpoch_of ho V.d V.f ?_)
 refine wpAny_bind (wpAny_newObj_type (wpAny_pure ⟨_, rfl, "set_iterator", _, ⟨_, Heap.get?_push_size _ rfl, rfl⟩, slot_si_next.lookup, ?_⟩))
 exact hQ
theorem walks_set (hh : A.handled = none) (I : Addr) (hne : a ≠ I) (V : Walk w a o es ep t hs) :
  Walks prog w A I [I, a] [I] es.size (fun i v => ∃ e, (ordZ w a ep es)[i]? = some e ∧ e.2 = v) (fun i h => h.get? a = some o ∧ ∃ j, IsSI h I a j i es.size ep ∧ (byT w = false → SetTable.below t.place j = i)) where
 sub := fun b hb => by simp at hb; simp [hb]
 frame := fun _ _ _ ⟨st, j, ⟨oi, hoi, x⟩, hj⟩ hk => ⟨hk a (by simp) o st, j, ⟨oi, hk I (by simp) oi hoi, x⟩, hj⟩
 item := fun i s Q E hi ⟨ho, j, hit, hj⟩ hQ => by
  have hsz : (ordZ w a ep es).size = es.size := by rw [← Array.length_toList, (ordZ_perm w a ep es).length_eq, Array.length_toList]
  obtain ⟨e, he⟩ : ∃ e, (ordZ w a ep es)[i]? = some e := ⟨_, Array.getElem?_eq_getElem (by omega)⟩
  refine wp_siNext_item hit ho rfl V hj he fun j' h' q1 q2 q3 => ?_
  exact hQ e.2 h' s.toks ⟨e, he, rfl⟩ ⟨q3.extBut a o hne ho, j', q2, q1⟩ fun b ob hb x => q3.extBut b ob (fun z => hb (by simp [z])) x
 done := fun s Q E ⟨ho, j, hit, hj⟩ hQ => by
  have hsz : (ordZ w a ep es).size = es.size := by rw [← Array.length_toList, (ordZ_perm w a ep es).length_eq, Array.length_toList]
  exact wp_siNext_end hh hit ho rfl V hj (Array.getElem?_eq_none (by omega)) fun h' he' => hQ h' s.toks fun b o hb e => he' b o (fun h => hb (by simp [h])) e
 self := fun _ _ _ _ ⟨_, _, hit, _⟩ hQ => wp_iter_si hit hQ
theorem hint_set {r : Addr} {Q : Bool → Shared → Prop} (hT : s.TypeIs (.ref r) "set") (h : Q false s) : wpAny (model prog w) A (Builtin.List.listLengthHint (.ref r)) Q E s := by
 unfold Builtin.List.listLengthHint
 refine wpAny_bind (wpAny_specialOf hT PySem.F.slot_set_len.lookup ?_)
 generalize hid : ("set.__len__" : String) = id0
 wp_delta
 rw [show splitId id0 = some ("set", "__len__") from by subst hid; decide +kernel]
 subst hid
 refine wpAny_bind (wpAny_isInstance (T := "set") (b := true) hT (by rw [isSubtype_type]; kernel_rfl) ?_)
 refine wpAny_ite_split (fun hab => absurd hab (by decide)) (fun _ => ?_)
 refine wpAny_ite_split (fun _ => ?_) (fun hab => absurd (by decide +kernel) hab)
 refine wpAny_bind (wpAny_typeOf hT ?_)
 exact wpAny_pure h
theorem src_set (hex : o.ExactSet) (V : Walk w a o es ep t hs) : KdlSrc prog w "set" a a es.size (fun i v => ∃ e, (ordZ w a ep es)[i]? = some e ∧ e.2 = v) (fun h => h.get? a = some o) where
 type := fun _ ho => ⟨o, ho, hex.1⟩
 there := fun _ ho => ⟨Heap.lt_size ho, Heap.lt_size ho⟩
 keep := fun _ _ ho hk => hk a (.inl rfl) o ho
 notList := by decide
 notTuple := by decide
 hint := fun _ _ _ _ ho hq => hint_set ⟨o, ho, hex.1⟩ hq
 iter := fun A s hh ho => ⟨_, _, (fun _ _ hq => wp_iter_set ho hex V hq), walks_set hh _ (Nat.ne_of_lt (Heap.lt_size ho)) V, ⟨Heap.get?_push_of_some _ ho, 0, ⟨_, Heap.get?_push_size _ rfl, rfl, rfl⟩, fun _ => by
  obtain ⟨b1, b2, b3⟩ := below_spec V.W.rise 0
  refine Classical.byContradiction fun z => ?_
  have := b2 0 (by omega) (by omega)
  omega⟩⟩
end
theorem SetE.walk {w : World} {h : Heap} {a : Addr} {ep : Nat} {xs : List (Int × Tok)} (hS : SetE w h a ep xs) : ∃ o es t, h.get? a = some o ∧ o.ExactSet ∧ es.toList = xs.map entZ ∧ Walk w a o es ep t (xs.map fun x => hashInt x.1) := by
 obtain ⟨o, es, t, ho, hex, hd, he, hn, W, p, l⟩ := hS
 have hsz : es.size = xs.length := by rw [← Array.length_toList, he, List.length_map]
 refine ⟨o, es, t, ho, hex, he, hd, ?_, W, by rw [List.length_map, hsz], p, l⟩
 have := W.fits; rw [List.length_map] at this; rw [hsz]; exact this
section
variable {prog : Program} {w : World} {A : Around} {E : Value → Shared → Prop} {s : Shared} {a : Addr} {ep : Nat} {xs : List (Int × Tok)}
theorem collectZ {T : String} {r d : Addr} {n : Nat} {P : Nat → Value → Prop} {OK : Heap → Prop} {R : List Value → Shared → Prop} (K : KdlSrc prog w T r d n P OK) (hh : A.handled = none) (hok : OK s.heap) (hn : n ≤ sizeLine)
  (h : ∀ (h' : Heap) (tk : Nat) (acc : Array Value), (∀ b o, s.heap.get? b = some o → h'.get? b = some o) → s.heap.objs.size < h'.objs.size → ItemsOf P acc n → R acc.toList { s with heap := h', toks := tk }) :
  wpAny (model prog w) A (collect (.ref r)) R E s := by
 have hlt := K.there _ hok
 unfold collect
 refine wpAny_bind (wpAny_runValue (codeAny_builtin entry_proto_collect' ?_))
 rw [Around.under_plainId PySem.F.plain_proto_collect _]
 show wpAny _ A.in1 (newList [] >>= fun l => again (.builtin "list.__iadd__" ⟨[l, .ref r], []⟩)) _ _ s
 refine wpAny_bind (wpAny_newObj_type (wpAny_pure ⟨plainId_quiet PySem.F.plain_list_iadd _, codeAny_builtin entry_list_iadd' ?_⟩))
 rw [Around.under_plainId PySem.F.plain_list_iadd _]
 generalize hz : s.heap.objs.size = z at *
 have hS : (s.heap.push { cls := .type "list", data := .seq ([] : List Value).toArray }).get? z = some { cls := .type "list", data := .seq #[] } := by rw [← hz]; exact Heap.get?_push_size _ rfl
 show wpAny _ A.in1 (Builtin.List.listExtendWith (.ref z) (.ref r) (.ref z)) _ _ _
 have fin : ∀ (h' : Heap) (tk : Nat) (acc : Array Value) (c : Nat), (∀ b o, s.heap.get? b = some o → h'.get? b = some o) → h'.get? z = some { cls := .type "list", dict := none, data := .seq acc c, slots := #[] } → ItemsOf P acc n →
   wpAny (model prog w) A (do match (← load z).data with | .seq xs _ => pure xs.toList | _ => unsupported "internal:collect") R E { s with heap := h', toks := tk } := fun h' tk acc c hk hS' hacc =>
  wpAny_bind (wpAny_load hS' (wpAny_pure (h h' tk acc hk (Heap.lt_size hS') hacc)))
 refine wpAny_mono (kdl_extend (A := A) (s := { s with heap := s.heap.push { cls := .type "list", data := .seq ([] : List Value).toArray } })
  (R := fun q s' => ∃ h' tk acc c, q = .ok (.ret (.ref z)) ∧ s' = { s with heap := h', toks := tk } ∧ (∀ b o, s.heap.get? b = some o → h'.get? b = some o) ∧ h'.get? z = some { cls := .type "list", dict := none, data := .seq acc c, slots := #[] } ∧ ItemsOf P acc n)
  K hh (K.keep _ _ hok fun b _ o e => Heap.get?_push_of_some _ e) z (Nat.ne_of_gt hlt.1) (Nat.ne_of_gt hlt.2) (.ref z) 0 hS
  (fun h' tk acc c hk hS' hacc => ⟨h', tk, acc, c, rfl, rfl, fun b o e => hk b o (Nat.ne_of_lt (hz ▸ Heap.lt_size e)) (Heap.get?_push_of_some _ e), hS', hacc⟩) hn) (fun fl s' x => ?_) fun e s' x => ?_
 ·cases fl with
  | done f =>
   obtain ⟨h', tk, acc, c, e, rfl, q1, q2, q3⟩ := x
   cases e
   exact fin h' tk acc c q1 q2 q3
  | again c1 =>
   refine ⟨x.1, codeAny_mono x.2 fun q s2 y => ?_⟩
   obtain ⟨h', tk, acc, c, rfl, rfl, q1, q2, q3⟩ := y
   exact fin h' tk acc c q1 q2 q3
 ·obtain ⟨_, _, _, _, e', _⟩ := x
  cases e'
theorem sorted_set {Q : Value → Shared → Prop} (hh : A.handled = none) (hS : SetE w s.heap a ep xs) (h64 : xs.length < 64)
  (h : ∀ (b : Addr) (h' : Heap) (tk e : Nat) (out : Array Value) (ns' : List Int), (∀ c o, s.heap.get? c = some o → h'.get? c = some o) → s.heap.objs.size ≤ b → h'.get? b = some (seqObj "list" out e) → IntsAre out.toList ns' → ns'.Perm (xs.map (·.1)) → ns'.Pairwise (· ≤ ·) → Q (.ref b) { s with heap := h', toks := tk }) :
  wpAny (model prog w) A (call (.builtin "sorted") [.ref a]) Q E s := by
 obtain ⟨o, es, t, ho, hex, he, V⟩ := hS.walk
 have hsz : es.size = xs.length := by rw [← Array.length_toList, he, List.length_map]
 refine Calls.call_function_entry kind_sorted plain_sorted entry_sorted (args_sorted1 _) ?_
 unfold Builtin.«sorted»
 refine wpAny_bind (m := checkCount "sorted" 1 1 _) (wpAny_pure ?_)
 refine wpAny_bind (collectZ (A := A.in1) (src_set hex V) hh ho (by rw [sizeLine_eq]; omega) fun h' tk acc hk hsize hacc => ?_)
 have hl : acc.toList.length = es.size := by rw [Array.length_toList]; exact hacc.1
 refine wpAny_bind (wpAny_newList ?_ (by rw [hl, sizeLine_eq]; omega))
 have hoL : (h'.push (seqObj "list" acc.toList.toArray 0)).get? h'.objs.size = some (seqObj "list" acc.toList.toArray 0) := Heap.get?_push_size _ rfl
 have hperm := ordZ_perm w a ep es
 have hac : acc.toList = (ordZ w a ep es).toList.map (·.2) := by
  refine List.ext_getElem? fun i => ?_
  rw [List.getElem?_map, Array.getElem?_toList, Array.getElem?_toList]
  have hsz2 : (ordZ w a ep es).size = es.size := by rw [← Array.length_toList, hperm.length_eq, Array.length_toList]
  by_cases c : i < es.size
  ·have c1 : i < acc.size := by have := hacc.1; omega
   have := hacc.2 i _ (Array.getElem?_eq_getElem c1)
   obtain ⟨e, e1, e2⟩ := this
   rw [Array.getElem?_eq_getElem c1, e1, ← e2]
   rfl
  ·rw [Array.getElem?_eq_none (by have := hacc.1; omega), Array.getElem?_eq_none (by omega)]
   rfl
 obtain ⟨ys, hy1, hy2⟩ : ∃ ys : List (Int × Tok), ys.Perm xs ∧ (ordZ w a ep es).toList = ys.map entZ := by
  rw [he] at hperm
  obtain ⟨ys, h1, h2⟩ := perm_map_inv hperm
  exact ⟨ys, h1, h2⟩
 have hI : IntsAre acc.toList (ys.map (·.1)) := by
  rw [hac, hy2, List.map_map]
  clear hy1 hy2
  induction ys with
  | nil => exact .nil
  | cons y ys ih => exact .cons _ _ ih
 refine wpAny_bind (wpAny_holding (wpAny_call_entry slot_list_sort ⟨_, hoL, rfl⟩ entry_list_sort (list_sort_tree hoL hI (by rw [hl]; omega) fun out ns' a1 a2 a3 => ⟨_, rfl, ?_⟩) (args_list_sort _)))
 obtain ⟨e', he'⟩ := sortedHeap_at (out := out) hoL
 refine wpAny_pure ⟨_, rfl, h h'.objs.size _ tk e' out ns' (fun c ob q => ?_) (Nat.le_of_lt hsize) he' a1 (a2.trans (hy1.map _)) a3⟩
 have lt := Heap.lt_size (hk c ob q)
 rw [sortedHeap_old (Nat.ne_of_lt lt) (Heap.lt_size (Heap.get?_push_of_some _ (hk c ob q)))]
 exact Heap.get?_push_of_some _ (hk c ob q)
end
end TL
namespace TL
open PySem PySem.Spec PyProof.Rows L2 TS
def SetO (P : Program) (w : World) (a : Addr) (xs : List (List Key × Addr)) : HO := .ext fun h => SetH (mixKind P w) h a xs
abbrev keysOf (xs : List (List Key × Addr)) : List (List Key) := xs.map fun x => x.1
section
variable {X : Cx} {pins : List (Addr × Obj)} {σ : St} {H : Hp} {s : Shared}
end
end TL
namespace TL
open PySem PySem.Spec PyProof.Rows L2 TS
theorem sub_lenK {α : Type} [DecidableEq α] : ∀ {l m : List α}, l.Nodup → (∀ x ∈ l, x ∈ m) → l.length ≤ m.length
 | [], m, _, _ => Nat.zero_le _
 | x :: l, m, hn, hs => by
  rw [List.nodup_cons] at hn
  have hx := hs x List.mem_cons_self
  have := @sub_lenK α _ l (m.erase x) hn.2 fun y hy => by
   refine (List.mem_erase_of_ne ?_).mpr (hs y (List.mem_cons_of_mem _ hy))
   rintro rfl
   exact hn.1 hy
  have h2 := List.length_erase_of_mem hx
  have h3 : 0 < m.length := List.length_pos_of_mem hx
  rw [List.length_cons]
  omega
section
variable {prog : Program} {w : World} {A : Around} {R : Result → Shared → Prop} {I : Addr} {fp wr : List Addr} {G : Array GenState → Array GenState → Prop} {n : Nat} {P : Nat → Value → Prop} {St : Nat → Shared → Prop}
end
section
variable {prog : Program} {w : World} {A : Around} {E : Value → Shared → Prop} {s : Shared}
end
section
variable {X : Cx}
end
end TL
namespace TL
open PySem PySem.Spec PyProof.Rows L2 TS
section
variable {X : Cx} {o e : Expr} {es : List Expr} {to : TE} {t : TA} {name : Str} {apos cpos : Pos} {id : String} {r : V → List V → Hp → VK → Prop}
end
end TL
namespace TL
open PySem PySem.Spec PyProof.Rows L2 TS
def SetI (w : World) (a : Addr) (ks : List Int) : HO := .ext fun h => ∃ ep xs, SetE w h a ep xs ∧ (xs.map (·.1)).Perm ks
theorem SetE.stay {w : World} {h1 h2 : Heap} {a : Addr} {ep : Nat} {xs : List (Int × Tok)} (p : SetE w h1 a ep xs) (k : ∀ o, h1.get? a = some o → h2.get? a = some o) : SetE w h2 a ep xs := by
 obtain ⟨o, es, t, ho, r⟩ := p
 exact ⟨o, es, t, k _ ho, r⟩
theorem SetE.obj {P : Program} {w : World} {h : Heap} {H : Hp} {a : Addr} {ep : Nat} {xs : List (Int × Tok)} {ks : List Int} (p : SetE w h a ep xs) (hp : (xs.map (·.1)).Perm ks) : ObjOk P w H h a (SetI w a ks) := by
 obtain ⟨o, es, t, ho, r⟩ := id p
 exact ⟨⟨ep, xs, p, hp⟩, ⟨o, ho⟩, fun h1 h2 ⟨ep, xs, q, z⟩ k => ⟨ep, xs, q.stay k, z⟩⟩
section
variable {X : Cx} {pins : List (Addr × Obj)} {σ : St} {H : Hp} {s : Shared}
theorem Inv.setI {l : Addr} {ks : List Int} (I : Inv X pins σ H s) (h : H l = some (SetI X.w l ks)) : ∃ ep xs, SetE X.w s.heap l ep xs ∧ (xs.map (·.1)).Perm ks := (I.hok l _ h).1
theorem op_notInI : OpR X (compareOp .NotIn) (fun x y H Q => ∃ (l : Addr) (ks : List Int) (k : Int), x = .int k ∧ y = .ref l ∧ H l = some (SetI X.w l ks) ∧ ks.length < 2000 ∧ Q (.bl (!decide (k ∈ ks))) H) := by
 intro pins s σ H x y v u Q I rx ry h
 obtain ⟨l, ks, k, rfl, rfl, hH, hz, q⟩ := h
 obtain ⟨t, rfl⟩ := rx
 cases ry
 obtain ⟨ep, xs, hS, hp⟩ := Inv.setI I hH
 have hl : xs.length = ks.length := by rw [← hp.length_eq, List.length_map]
 refine wpAny_notInSet_of (knd := intKind X.prog X.w) (k := k) (isInt_self k t) rfl (hS.setOf (by omega)) ⟨.bl (!decide (k ∈ ks)), H, I.tok _, ?_, q⟩
 show Value.bool _ = Value.bool _
 rw [decide_eq_decide.mpr hp.mem_iff]
def rSAddI (w : World) : V → List V → Hp → VK → Prop := fun x vs H Q => ∃ (l : Addr) (ks : List Int) (k : Int), x = .ref l ∧ vs = [.int k] ∧ H l = some (SetI w l ks) ∧ ks.length < 2000 ∧ (k ∈ ks → Q .non H) ∧ (k ∉ ks → Q .non (upd H l (SetI w l (ks ++ [k]))))
theorem mt_saddI : MtR X "set.add" (rSAddI X.w) := by
 intro pins s σ H x vs v us Q I rx rv h
 obtain ⟨l, ks, k, rfl, rfl, hH, hz, q1, q2⟩ := h
 cases rx
 obtain ⟨u, rfl, t, rfl⟩ := rv.one
 obtain ⟨ep, xs, hS, hp⟩ := Inv.setI I hH
 have hl : xs.length = ks.length := by rw [← hp.length_eq, List.length_map]
 refine call_set_addZ hS (by omega) (fun z => ⟨.non, H, I.tok _, rfl, q1 (hp.mem_iff.mp z)⟩) fun z h' ep' xs' sb hS' p => ?_
 have hp' : (xs'.map (·.1)).Perm (ks ++ [k]) := by
  refine (p.map (·.1)).trans ?_
  rw [List.map_append]
  exact hp.append_right _
 refine ⟨.non, _, I.write (t' := s.toks + 1) (o := SetI X.w l (ks ++ [k])) (x := l) (e := l) (by rw [hH]; exact trivial) (.inl rfl) (fun b u hb e => sb.extBut b u hb e) ?_ (hS'.obj hp'), rfl, q2 fun c => z (hp.mem_iff.mpr c)⟩
 obtain ⟨o, _, _, e, _⟩ := hS'; exact ⟨o, e⟩
theorem call_sortedI (hc : X.calm = true) : CallR X (.builtin "sorted") (fun xs H Q => ∃ (a : Addr) (ks : List Int), xs = [.ref a] ∧ H a = some (SetI X.w a ks) ∧ ks.length < 64 ∧ ∀ p, H p = none → Q (.ref p) (upd H p (.lst ((srt ks).map V.int)))) := by
 intro pins s σ H xs us Q I r h
 obtain ⟨a, ks, rfl, hH, h64, q⟩ := h
 obtain ⟨u, rfl, ru⟩ := vals1 r
 cases ru
 obtain ⟨ep, xs, hS, hp⟩ := Inv.setI I hH
 have hl : xs.length = ks.length := by rw [← hp.length_eq, List.length_map]
 refine sorted_set (I.ok.hd hc) hS (by omega) fun b h' tk e out ns' hk hb hg h1 h2 h3 => ?_
 have e' : ns' = srt ks := srt_eq (h2.trans hp) h3
 subst e'
 refine ⟨.ref b, _, I.laid (t' := tk) (o := .lst ((srt ks).map V.int)) (fun b ob q => hk b ob q) hb ⟨?_, out.toList, e, vals_ints h1, ?_⟩, rfl, q _ (I.hok.fresh hb)⟩
 ·rw [List.length_map, srt_length, sizeLine_eq]; omega
 ·rw [hg, Array.toArray_toList]
end
section
variable {X : Cx} {o e : Expr} {es : List Expr} {to : TE} {t : TA} {name : Str} {apos cpos : Pos} {id : String} {r : V → List V → Hp → VK → Prop}
def tBMI (w : World) (r : V → List V → Hp → VK → Prop) (to : TE) (t : TA) : TE := fun σ H Q => to σ H fun x H1 => (∃ p ks, x = .ref p ∧ H1 p = some (SetI w p ks)) ∧ t σ H1 fun xs H2 => r x xs H2 Q
theorem pe_bmI (slot : Slot "set" name id) (hty : typeOf (.builtin id) = pure (.type "method_descriptor")) (hm : MtR X id r) (ho : PE X o to) (ha : PA X (e :: es) t)
  (hbase : attributeBase o name X.env (eval o X.env) = eval o X.env := by rfl)
  (hfew : ((backTo cpos (starEach (e :: es) X.env)).all (fun x => !x.1) && (backToKw cpos (keywordEach [] X.env)).all (fun x => x.1.isSome)
   && decide ((e :: es).length + ([] : List Keyword).length + (if ([] : List Keyword).isEmpty then 0 else 1) < 30)) = true := by rfl)
  (hline : (apos.endLine == cpos.line) = true := by rfl) (hs : starEach (e :: es) X.env = (false, eval e X.env) :: starEach es X.env := by rfl) (hplain : (backTo cpos (starEach es X.env)).any (·.1) = false := by rfl) :
  PE X (.Call (.Attribute o name apos) (e :: es) [] cpos) (tBMI X.w r to t) := by
 intro pins s σ H Q I h
 refine wpAny_Call_method_late hbase hfew hline rfl (thn (ho pins s σ H _ I h) fun v s1 ⟨x, H1, I1, r1, ⟨p, ks, ex, hp⟩, q1⟩ => ?_)
 subst ex
 cases r1
 obtain ⟨ep, xs, hS, _⟩ := Inv.setI I1 hp
 obtain ⟨ob, _, _, hob, hcl, _⟩ := hS
 refine ⟨"set", id, PySem.F.plainAttrs_set, slot, hty, ⟨ob, hob, hcl.1⟩, (fun b eb => by cases eb; exact ⟨ob, hob, hcl.2.1⟩), ?_⟩
 have hA := ha cpos pins s1 σ H1 _ I1 q1
 rw [hs] at hA ⊢
 refine Calls.callWith_builtin (by show (false || (backTo cpos (starEach es X.env)).any (·.1)) = false; rw [hplain] <;> rfl) (Calls.evalArgs_plain ?_)
 exact thn hA fun us s2 ⟨vs, H2, I2, r2, q2⟩ => hm pins s2 σ H2 (.ref p) vs (.ref p) us Q I2 rfl r2 q2
def tSet1 (w : World) (te : TE) : TE := fun σ H Q => ∀ p, H p = none → te σ (upd H p (SetI w p [])) fun x H1 => ∃ k, x = .int k ∧ H1 p = some (SetI w p []) ∧ Q (.ref p) (upd H1 p (SetI w p [k]))
theorem pe_set1 {te : TE} {pos : Pos} (hcd : ∃ q, PySem.W.codeIn X.K X.env.code q = true) (he : PE X e te) (hs : starEach [e] X.env = [(false, eval e X.env)] := by rfl) : PE X (.Set [e] 0 pos) (tSet1 X.w te) := by
 intro pins s σ H Q I h
 rw [arm_eval_Set]
 refine wpAny_bind (wpAny_standAt ?_)
 have KX : X.K.In s.heap := I.kIn
 obtain ⟨q, hq⟩ := hcd
 have hk : PySem.W.kdsCode X.K X.env.code = true := by
  unfold PySem.W.codeIn at hq
  unfold PySem.W.kdsCode
  cases hc : X.env.code with
  | ref c =>
   rw [hc] at hq
   dsimp only at hq ⊢
   split at hq
   ·rename_i ho
    rw [ho]
   ·cases hq
  | _ => rw [hc] at hq; cases hq
 refine wpAny_bind (PySem.W.kds_main KX hk fun b => ?_)
 rw [hs]
 unfold setDisplay
 have hr : displayRoad 0 [e] = .oneByOne := rfl
 rw [hr]
 rw [if_neg (by decide)]
 refine wpAny_bind (wp_newSetZ fun led hS0 => ?_)
 dsimp only
 have I0 : Inv X pins σ (upd H s.heap.objs.size (SetI X.w s.heap.objs.size [])) { s with heap := s.heap.push { cls := .type "set", dict := none, data := .set #[] 0 (.fresh 0 0 led) } } :=
  I.laid (t' := s.toks) (fun b u e => Heap.get?_push_of_some _ e) (Nat.le_refl _) (hS0.obj (List.Perm.refl _))
 refine wpAny_bind (wpAny_holding ?_)
 refine wpAny_bind ?_
 show wpAny _ _ (evalAll [eval e X.env >>= fun v => standAt pos >>= fun _ => pure v]) _ _ _
 show wpAny _ _ ((eval e X.env >>= fun v => standAt pos >>= fun _ => pure v) >>= fun v => holding [v] (evalAll []) >>= fun r => pure (v :: r)) _ _ _
 refine wpAny_bind (wpAny_bind (thn (he pins _ σ _ _ I0 (h _ I.fresh)) fun v s1 ⟨x, H1, I1, r1, k, ex, hp1, q1⟩ => ?_))
 subst ex
 obtain ⟨tk, rfl⟩ := r1
 refine wpAny_bind (wpAny_standAt (wpAny_pure (wpAny_bind (wpAny_holding (wpAny_pure (wpAny_pure ?_))))))
 refine wpAny_bind (wpAny_holding ?_)
 refine wpAny_bind ?_
 rw [List.forIn_cons]
 refine wpAny_bind ?_
 obtain ⟨ep, xs, hS, hp⟩ := Inv.setI I1 hp1
 have hx : xs = [] := by
  have := hp.length_eq
  rw [List.length_map] at this
  exact List.length_eq_zero_iff.mp this
 subst hx
 refine wpAny_bind ?_
 unfold setAdd
 refine wpAny_holding (wpAny_bind ((intKind X.prog X.w).pyHash (k := k) (isInt_self k tk) ?_))
 refine wp_addZ (s := { s1 with toks := s1.toks + 1 }) hS (by decide) (fun z => by simp at z) fun z h' ep' xs' sb hS' p => ?_
 have hp' : (xs'.map (·.1)).Perm [k] := p.map (·.1)
 refine wpAny_pure ?_
 dsimp only
 rw [List.forIn_nil]
 refine wpAny_pure ?_
 rw [if_neg (by decide)]
 refine wpAny_pure ?_
 show wpAny _ _ (forIn (([] : List (Bool × Sem Value))) PUnit.unit _ >>= _) _ _ _
 rw [List.forIn_nil]
 refine wpAny_bind (wpAny_pure (wpAny_pure (wpAny_pure ?_)))
 refine ⟨.ref s.heap.objs.size, _, I1.write (t' := s1.toks + 1) (o := SetI X.w s.heap.objs.size [k]) (x := s.heap.objs.size) (e := s.heap.objs.size) (by rw [hp1]; exact trivial) (.inl rfl) (fun b u hb e => sb.extBut b u hb e) ?_ (hS'.obj hp'), rfl, q1⟩
 obtain ⟨o, _, _, e, _⟩ := hS'; exact ⟨o, e⟩
end
end TL
namespace L2
open PySem PySem.Spec PyProof.Rows
section
variable {P : Program} {w : World} {K : PySem.W.Frag} {mg : Str → Option Value} {base : Heap}
theorem Fun.okC {x qual : Str} {st : Stmt} {f : Addr} {fd : FuncData} {N ps : List Str} {k : Nat} {sp : Sp} (F : Fun K x qual st f fd) (S : FnScope N ps (defScope st)) (len : ∀ vs H Q E, sp vs H Q E → vs.length = ps.length)
  (hbody : ∀ (cdv : Value) (A : Around) (outer : List Env) (s : Shared) (H : Hp) (vs : List V) (Q : VK) (E : XK), (∃ q, PySem.W.codeIn K cdv q = true) → Room k (A.deeper (envOfC qual (defScope st) s.heap.objs.size f cdv)) → sp vs H Q E →
   ∃ t, PSs (cxOf CX0 P w K mg base N qual (defScope st) f cdv A outer s H E).nox (defBody st) t ∧ t { nx := fun _ H' => Q .non H', rt := Q } (start N vs) H) : FnOk P w K mg base CX0 (k + 1) f fd ps sp := by
 obtain ⟨oc, od, kV, doc, pm, an, cdv, ct, osl, rfl, lk, hcd⟩ := F.ex
 refine fn_of lk hcd S len fun A outer s H vs Q E hr hsp => ?_
 obtain ⟨t, h, q⟩ := hbody cdv A outer s H vs Q E ⟨_, hcd⟩ hr hsp
 exact ⟨t, h.nox, q⟩
end
end L2
namespace TL
open PySem PySem.Spec PyProof.Rows L2 TS
def rngI (lo : Int) (n : Nat) : List Int := (List.range n).map fun i : Nat => lo + (i : Int)
theorem rngI_len (lo : Int) (n : Nat) : (rngI lo n).length = n := by simp [rngI]
theorem rngI_get {lo : Int} {n i : Nat} (h : i < n) : (rngI lo n)[i]? = some (lo + (i : Int)) := by simp [rngI, h]
theorem rngI_mem {lo x : Int} {n : Nat} : x ∈ rngI lo n ↔ lo ≤ x ∧ x < lo + n := by
 unfold rngI
 rw [List.mem_map]
 constructor
 ·rintro ⟨i, hi, rfl⟩
  have := List.mem_range.mp hi
  omega
 ·rintro ⟨h1, h2⟩
  exact ⟨(x - lo).toNat, List.mem_range.mpr (by omega), by omega⟩
section
variable {X : Cx}
end
end TL
namespace TL
open PySem PySem.Spec PyProof.Rows L2
end TL
namespace TL
end TL
namespace TL
open PySem PySem.Spec PyProof.Rows L2
section
variable {prog : Program} {w : World} {A : Around} {E : Value → Shared → Prop} {s : Shared} {l b : Addr} {items items2 : Array Value} {n n2 : Nat}
end
section
variable {X : Cx}
end
end TL
namespace TL
open PySem PySem.Spec PyProof.Rows L2
abbrev TF := St → Hp → Str → (Str → Hp → Prop) → Prop
section
variable {X : Cx} {e : Expr} {es : List Expr} {te : TE} {tf : TF} {pos : Pos}
end
section
variable {X : Cx}
end
end TL
namespace TL
open PySem PySem.Spec PyProof.Rows L2
section
variable {prog : Program} {w : World} {A : Around} {E : Value → Shared → Prop} {s : Shared}
end
section
variable {X : Cx} {pos : Pos}
end
section
variable {prog : Program} {w : World} {A : Around} {E : Value → Shared → Prop} {s : Shared}
end
section
variable {X : Cx} {pos : Pos}
end
end TL
namespace TL
open PySem PySem.Spec PyProof.Rows L2
section
variable {X : Cx}
end
section
variable {X : Cx} {tg e : Expr} {te : TE}
end
end TL
namespace TL
open PySem PySem.Spec PyProof.Rows L2 HT TS
section
variable {prog : Program} {w : World} {A : Around} {E : Value → Shared → Prop} {s : Shared}
end
section
variable {X : Cx} {e : Expr} {te : TE} {pos p2 : Pos}
end
section
variable {X : Cx} {a b c d : Expr} {ta tb tc td : TE} {pos : Pos}
end
end TL
namespace TL
open PySem PySem.Spec PyProof.Rows L2
end TL
namespace TL
open PySem PySem.Spec PyProof.Rows L2
section
variable {X : Cx}
end
end TL
namespace TL
open PySem PySem.Spec PyProof.Rows PySem.W L2
section
variable {X : Cx} {pins : List (Addr × Obj)} {σ : St} {H H1 : Hp} {s s' : Shared} {e C : Addr} {B : Heap}
end
section
variable {prog : Program} {w : World} {A : Around} {R : Result → Shared → Prop} {s : Shared} {XE : Value → Shared → Prop}
end
section
variable {M : Model} {A : Around} {E : Value → Shared → Prop} {s : Shared} {env : Env}
end
end TL
namespace TL
open PySem PySem.Spec PyProof.Rows PySem.W L2
section
variable {X : Cx} {pins : List (Addr × Obj)} {σ : St} {H H3 : Hp} {s s3 : Shared} {scope : Scope} {N : List Str} {own : Nat} {cap : List (Option Nat)} {cl : List (Str × Addr)} {fp : List Addr} {E : XK}
def XC (X : Cx) (scope : Scope) (cl : List (Str × Addr)) (N : List Str) (fp : List Addr) (s3 : Shared) (H3 : Hp) (E : XK) : Value → Shared → Prop := fun ev s' => ∃ (pins' : List (Addr × Obj)) (σ' : St) (H' : Hp) (s0 : Shared), Inv (cxComp X scope cl N fp s3 H3) pins' σ' H' s0 ∧ CXr X.prog X.w X.base X.stack H' s0 E ev s'
abbrev cxCompX (X : Cx) (scope : Scope) (cl : List (Str × Addr)) (N : List Str) (fp : List Addr) (s3 : Shared) (H3 : Hp) (E : XK) : Cx := (cxComp X scope cl N fp s3 H3).wish (XC X scope cl N fp s3 H3 E)
end
end TL
namespace TL
open PySem PySem.Spec PyProof.Rows PySem.W L2
section
variable {X : Cx} {pins : List (Addr × Obj)} {σ : St} {H1 : Hp} {s2 : Shared} {scope : Scope} {N : List Str} {own : Nat} {cap : List (Option Nat)} {cl : List (Str × Addr)} {fp : List Addr}
 {tg iter elt : Expr} {ifs : List Expr} {pos : Pos} {g : TG} {tt : TT} {te : TE} {wi : TI} {E : XK}
end
end TL
namespace TL
open PySem PySem.Spec PyProof.Rows L2
section
variable {X : Cx}
end
section
variable {X : Cx} {K : PySem.W.Frag} {T : String} {name : Str} {id : String} {r : V → List V → Hp → VK → Prop} {o e : Expr} {es : List Expr} {to : TE} {t : TA} {apos cpos : Pos}
end
section
variable {K : PySem.W.Frag} {l : Addr} {g : TG} {tt : TT} {te : TE} {cap : List (Option Nat)} {σ : St} {Q : VK} {H1 : Hp} {J : It}
end
end TL
namespace TL
open PySem PySem.Spec PyProof.Rows L2
theorem jn_len {l : Int × List (Int × Int)} (h : LineOk l) (e : Int) : (jn l.2 e).length ≤ 60 := by
 unfold jn
 rw [srt_length, List.length_append]
 exact h.inc e
abbrev Ma := Mv × Addr × Addr
abbrev msOf (cs : List Ma) : List Mv := cs.map (·.1)
end TL
namespace TL
open PySem PySem.Spec PyProof.Rows L2
section
variable {X : Cx}
end
end TL
namespace TL
open PySem PySem.Spec PyProof.Rows PySem.W L2
def ev {α : Type} : List α → List α
 | [] => []
 | [x] => [x]
 | x :: _ :: r => x :: ev r
section
variable {X : Cx} {e st lo : Expr} {te ts tl : TE} {pos p2 : Pos}
end
section
variable {X : Cx} {tg : Expr}
end
section
variable {X : Cx}
end
section
variable {X : Cx}
end
end TL
namespace TL
open PySem PySem.Spec PyProof.Rows PySem.W L2
section
variable {X : Cx} {tg : Expr}
end
end TL
namespace TL
open PySem PySem.Spec PyProof.Rows L2 TS
section
variable {prog : Program} {w : World} {A : Around} {R : Result → Shared → Prop} {s : Shared}
end
section
variable {X : Cx} {pins : List (Addr × Obj)} {σ : St} {H1 : Hp} {s2 : Shared} {scope : Scope} {N : List Str} {own : Nat} {cap : List (Option Nat)} {cl : List (Str × Addr)} {fp : List Addr}
 {tg iter elt vlt : Expr} {ifs : List Expr} {pos : Pos} {g : TG} {tt : TT} {te tv : TE} {wi : TI}
end
section
variable {X : Cx} {pins : List (Addr × Obj)} {σ : St} {H1 : Hp} {s2 : Shared} {scope : Scope} {N : List Str} {own : Nat} {cap : List (Option Nat)} {cl : List (Str × Addr)} {fp : List Addr}
 {tg iter elt vlt : Expr} {ifs : List Expr} {pos : Pos} {g : TG} {tt : TT} {te tv : TE} {wi : TI}
end
end TL
namespace L2
open PySem PySem.Spec PySem.Calls PyProof.Rows PySem.W
section
variable {X : Cx} {body suite : List Stmt} {b₀ : Stmt} {x : Str} {np hpos pos : Pos} {D : Addr} {tb : (St → XK) → TS} {th : TS}
end
end L2
namespace TL
open PySem PySem.Spec PyProof.Rows L2 TS
abbrev Rows := List (List Int × Int)
end TL
namespace TL
open PySem PySem.Spec PyProof.Rows L2 TS
theorem eqvAll_I : ∀ (a b : List Int), PyData.eqvAll (a.map PyData.int) (b.map PyData.int) = decide (a = b)
 | [], [] => by simp [PyData.eqvAll]
 | [], y :: b => by simp [PyData.eqvAll]
 | x :: a, [] => by simp [PyData.eqvAll]
 | x :: a, y :: b => by
  rw [List.map_cons, List.map_cons, PyData.eqvAll, eqvAll_I a b, Bool.eq_iff_iff]
  simp [PyData.eqv]
theorem eqv_I (a b : List Int) : PyData.eqv (dI a) (dI b) = decide (a = b) := by
 unfold dI
 rw [PyData.eqv, eqvAll_I]
end TL
namespace TL
open PySem PySem.Spec PyProof.Rows L2
section
variable {prog : Program} {w : World} {A : Around} {E : Value → Shared → Prop} {s : Shared} {d it vw : Addr} {o : Obj} {es : Array DictEntry} {ep i : Nat} {ok ov : Value}
end
section
variable {X : Cx}
end
end TL
namespace TL
open PySem PySem.Spec PyProof.Rows L2
theorem while_ix {c : TT} {tb : TS} {D : Ends} {σ : L2.St} {H : Hp} (Pv : Nat → L2.St → Hp → Prop) (n : Nat) (h0 : Pv n σ H)
  (hs : ∀ n σ H, Pv n σ H → c σ H fun b H1 => if b = true then tb { D with nx := fun σ' H' => ∃ m, m < n ∧ Pv m σ' H', ct := fun σ' H' => ∃ m, m < n ∧ Pv m σ' H', bk := D.nx } σ H1 else D.nx σ H1)
  (mono : ∀ σ H Q Q', (∀ b H1, Q b H1 → Q' b H1) → c σ H Q → c σ H Q') : tWhile c tb D σ H := by
 refine ⟨fun m σ H => Pv m σ H, ⟨n, h0⟩, ?_⟩
 intro m σ H p
 refine mono σ H _ _ (fun b H1 q => ?_) (hs m σ H p)
 cases b with
 | true => exact ⟨_, fun σ' H' h => h, q⟩
 | false => exact q
end TL
namespace TL
open PySem L2 PyProof.Rows
def Adj (js : List (Int × Int)) (a b : Int) : Prop := ∃ p ∈ js, (p.1 / 2 = a ∧ p.2 / 2 = b) ∨ (p.1 / 2 = b ∧ p.2 / 2 = a)
inductive Cn (js : List (Int × Int)) (a : Int) : Int → Prop
 | refl : Cn js a a
 | step {b c : Int} : Cn js a b → Adj js b c → Cn js a c
theorem Cn.bound {l : Ln} (ok : LineOk l) {a b : Int} (ha : 0 ≤ a ∧ a < l.1) (h : Cn l.2 a b) : 0 ≤ b ∧ b < l.1 := by
 induction h with
 | refl => exact ha
 | step _ e ih =>
  obtain ⟨p, hp, e⟩ := e
  have := ok.ends p hp
  rcases e with ⟨rfl, rfl⟩ | ⟨rfl, rfl⟩ <;> omega
theorem adj_iff {l : Ln} (ok : LineOk l) {h b : Int} : Adj l.2 h b ↔ ∃ x ∈ jn l.2 (2 * h) ++ jn l.2 (2 * h + 1), x / 2 = b := by
 constructor
 ·rintro ⟨p, hp, e⟩
  have hb := ok.ends p hp
  rcases e with ⟨e1, e2⟩ | ⟨e1, e2⟩
  ·refine ⟨p.2, ?_, e2⟩
   have hm : ∀ e, p.1 = e → p.2 ∈ jn l.2 e := fun e h => (jn_iff ok).mpr (by rw [← h, Int.min_eq_left hb.2.1, Int.max_eq_right hb.2.1]; exact hp)
   rcases (show p.1 = 2 * h ∨ p.1 = 2 * h + 1 by omega) with z | z
   ·exact List.mem_append_left _ (hm _ z)
   ·exact List.mem_append_right _ (hm _ z)
  ·refine ⟨p.1, ?_, e1⟩
   have hm : ∀ e, p.2 = e → p.1 ∈ jn l.2 e := fun e h => (jn_iff ok).mpr (by rw [← h, Int.min_eq_right hb.2.1, Int.max_eq_left hb.2.1]; exact hp)
   rcases (show p.2 = 2 * h ∨ p.2 = 2 * h + 1 by omega) with z | z
   ·exact List.mem_append_left _ (hm _ z)
   ·exact List.mem_append_right _ (hm _ z)
 ·rintro ⟨x, hx, rfl⟩
  have key : ∀ e, e / 2 = h → x ∈ jn l.2 e → Adj l.2 h (x / 2) := fun e he hx => by
   have hp := (jn_iff ok).mp hx
   rcases Int.le_total e x with z | z
   ·rw [Int.min_eq_left z, Int.max_eq_right z] at hp
    exact ⟨_, hp, .inl ⟨he, rfl⟩⟩
   ·rw [Int.min_eq_right z, Int.max_eq_left z] at hp
    exact ⟨_, hp, .inr ⟨rfl, he⟩⟩
  rcases List.mem_append.mp hx with z | z
  ·exact key _ (by omega) z
  ·exact key _ (by omega) z
theorem closed_all {js : List (Int × Int)} {ks : List Int} {a : Int} (ha : a ∈ ks) (hc : ∀ k ∈ ks, ∀ b, Adj js k b → b ∈ ks) {b : Int} (h : Cn js a b) : b ∈ ks := by
 induction h with
 | refl => exact ha
 | step _ e ih => exact hc _ ih _ e
theorem nodup_bound {ks : List Int} {n : Int} (hn : ks.Nodup) (hb : ∀ k ∈ ks, 0 ≤ k ∧ k < n) : ks.length ≤ n.toNat := by
 have : (ks.map Int.toNat).Nodup := by
  rw [List.Nodup, List.pairwise_map]
  refine List.Pairwise.imp_of_mem (fun {a b} ha hb' hne z => hne ?_) hn
  have := hb a ha
  have := hb b hb'
  omega
 have h2 : ∀ x ∈ ks.map Int.toNat, x ∈ List.range n.toNat := fun x hx => by
  obtain ⟨k, hk, rfl⟩ := List.mem_map.mp hx
  have := hb k hk
  exact List.mem_range.mpr (by omega)
 have := sub_lenK this h2
 simpa using this
structure Hang (js : List (Int × Int)) (a : Int) (ns : List Int) : Prop where
 up : ns.Pairwise (· < ·)
 mem : ∀ k, k ∈ ns ↔ Cn js a k
theorem pair_le_lt {ns : List Int} (h : ns.Pairwise (· ≤ ·)) (hn : ns.Nodup) : ns.Pairwise (· < ·) :=
 List.Pairwise.imp₂ (fun {a b} h1 (h2 : a ≠ b) => by omega) h hn
theorem Hang.of {js : List (Int × Int)} {a : Int} {ks : List Int} (hn : ks.Nodup) (h : ∀ k, k ∈ ks ↔ Cn js a k) : Hang js a (srt ks) :=
 ⟨pair_le_lt (srt_pair ks) ((srt_perm ks).nodup_iff.mpr hn), fun k => srt_mem.trans (h k)⟩
def pf (ps : List Int) (x : Int) : Int := ps.getD x.toNat 0
end TL
namespace TL
open PySem L2 PyProof.Rows
noncomputable def dcd (p : Prop) : Bool := @decide p (Classical.propDecidable p)
theorem dcd_t {p : Prop} (h : p) : dcd p = true := by unfold dcd; exact @decide_eq_true p (Classical.propDecidable p) h
theorem dcd_f {p : Prop} (h : ¬ p) : dcd p = false := by unfold dcd; exact @decide_eq_false p (Classical.propDecidable p) h
theorem dcd_iff {p : Prop} : dcd p = true ↔ p := by
 constructor
 ·intro h
  exact Classical.byContradiction fun z => by rw [dcd_f z] at h; cases h
 ·exact dcd_t
theorem dcd_congr {p q : Prop} (h : p ↔ q) : dcd p = dcd q := by
 rw [Bool.eq_iff_iff, dcd_iff, dcd_iff]; exact h
theorem dcd_dec {p : Prop} [Decidable p] : dcd p = decide p := by
 rw [Bool.eq_iff_iff, dcd_iff, decide_eq_true_iff]
def okPair (ms : List Int) (k : Int) : Prop := (pf ms (2 * k) = 0 ∧ pf ms (2 * k + 1) = 1) ∨ (pf ms (2 * k) = 1 ∧ pf ms (2 * k + 1) = 0)
structure IsMk (n : Int) (ms : List Int) : Prop where
 len : (ms.length : Int) = 2 * n
 pair : ∀ k, 0 ≤ k → k < n → okPair ms k
theorem IsMk.val {n : Int} {ms : List Int} (h : IsMk n ms) {e : Int} (h0 : 0 ≤ e) (h1 : e < 2 * n) : (pf ms e = 0 ∧ pf ms (oth e) = 1) ∨ (pf ms e = 1 ∧ pf ms (oth e) = 0) := by
 have := h.pair (e / 2) (by omega) (by omega)
 unfold okPair at this
 rcases (show e % 2 = 0 ∨ e % 2 = 1 by omega) with c | c
 ·have e1 : 2 * (e / 2) = e := by omega
  have e2 : oth e = e + 1 := by unfold oth; omega
  rw [e1] at this
  rw [e2]
  exact this
 ·have e1 : 2 * (e / 2) + 1 = e := by omega
  have e2 : oth e = 2 * (e / 2) := by unfold oth; omega
  rw [e1] at this
  rw [e2]
  rcases this with ⟨a, b⟩ | ⟨a, b⟩
  ·exact .inr ⟨b, a⟩
  ·exact .inl ⟨b, a⟩
def KeepsP (l : Int × List (Int × Int)) (piece : Int) (ms : List Int) : Prop := IsMk l.1 ms ∧ ∀ p ∈ l.2, Cn l.2 piece (p.1 / 2) → pf ms (oth p.1) = pf ms p.2
theorem IsMk.odd {l : Int × List (Int × Int)} (ok : LineOk l) {ms : List Int} (h : IsMk l.1 ms) {p : Int × Int} (hp : p ∈ l.2) : pf ms (oth p.1) = pf ms p.2 ↔ ¬ pf ms p.1 = pf ms p.2 := by
 have hb := ok.ends p hp
 have v1 := h.val (e := p.1) (by omega) (by omega)
 have v2 := h.val (e := p.2) (by omega) (by omega)
 omega
theorem srt_two (x y : Int) : srt [x, y] = [0, 1] ↔ (x = 0 ∧ y = 1) ∨ (x = 1 ∧ y = 0) := by
 constructor
 ·intro h
  have hp := (srt_perm [x, y])
  rw [h] at hp
  have h0 : (0 : Int) ∈ [x, y] := hp.mem_iff.mp (by simp)
  have h1 : (1 : Int) ∈ [x, y] := hp.mem_iff.mp (by simp)
  simp at h0 h1
  omega
 ·rintro (⟨rfl, rfl⟩ | ⟨rfl, rfl⟩)
  ·exact (srt_eq (a := [0, 1]) (List.Perm.refl _) (by simp)).symm
  ·exact (srt_eq (a := [0, 1]) (List.Perm.swap _ _ _) (by simp)).symm
theorem cut_two (ms : List Int) {i : Int} (h0 : 0 ≤ i) (h1 : i + 2 ≤ ms.length) : cutV (ms.map V.int) (some i) (some (i + 2)) = [pf ms i, pf ms (i + 1)].map V.int := by
 unfold cutV
 obtain ⟨n, rfl⟩ : ∃ n : Nat, i = n := ⟨i.toNat, by omega⟩
 have e1 : HT.sIx (ms.map V.int).length 0 (some (n : Int)) = min n (ms.map V.int).length := HT.sIx_nat _ _ n
 have e2 : HT.sIx (ms.map V.int).length (ms.map V.int).length (some (n + 2 : Int)) = min (n + 2) (ms.map V.int).length := HT.sIx_nat _ _ (n + 2)
 rw [e1, e2, List.length_map, Nat.min_eq_left (by omega), Nat.min_eq_left (by omega)]
 have g1 : n < ms.length := by omega
 have g2 : n + 1 < ms.length := by omega
 have e3 : (ms.map V.int).drop n = V.int ms[n] :: V.int ms[n + 1] :: (ms.map V.int).drop (n + 2) := by
  rw [← List.map_drop, List.drop_eq_getElem_cons g1, List.drop_eq_getElem_cons g2, List.map_cons, List.map_cons, List.map_drop]
 have f1 : pf ms (n : Int) = ms[n] := by unfold pf; rw [List.getD_eq_getElem?_getD]; simp [g1]
 have f2 : pf ms ((n : Int) + 1) = ms[n + 1] := by
  unfold pf
  have : ((n : Int) + 1).toNat = n + 1 := by omega
  rw [List.getD_eq_getElem?_getD, this]
  simp [g2]
 rw [f1, f2]
 have e4 : n + 2 - n = 2 := by omega
 first
 | rw [e4, e3]; rfl
 | (rw [e3]; simp [e4])
def swp (p : Int × Int) : Int × Int := (p.2, p.1)
def both (js : List (Int × Int)) : List (Int × Int) := js ++ js.map swp
def Shut (js : List (Int × Int)) (ks : List Int) : Prop := ∀ q ∈ ks, ∀ b, Adj js q b → b ∈ ks
theorem both_adj {js : List (Int × Int)} {p : Int × Int} (h : p ∈ both js) : Adj js (p.1 / 2) (p.2 / 2) := by
 rcases List.mem_append.mp h with z | z
 ·exact ⟨p, z, .inl ⟨rfl, rfl⟩⟩
 ·obtain ⟨q, hq, rfl⟩ := List.mem_map.mp z
  exact ⟨q, hq, .inr ⟨rfl, rfl⟩⟩
theorem shut_both {js : List (Int × Int)} {ks : List Int} (h : ∀ p ∈ both js, p.1 / 2 ∈ ks → p.2 / 2 ∈ ks) : Shut js ks := by
 intro q hq b hb
 obtain ⟨p, hp, e⟩ := hb
 rcases e with ⟨rfl, rfl⟩ | ⟨rfl, rfl⟩
 ·exact h p (List.mem_append_left _ hp) hq
 ·exact h (swp p) (List.mem_append_right _ (List.mem_map_of_mem hp)) hq
theorem both_ends {l : Int × List (Int × Int)} (ok : LineOk l) {p : Int × Int} (h : p ∈ both l.2) : 0 ≤ p.1 ∧ p.1 < 2 * l.1 ∧ 0 ≤ p.2 ∧ p.2 < 2 * l.1 := by
 rcases List.mem_append.mp h with z | z
 ·have := ok.ends p z; omega
 ·obtain ⟨q, hq, rfl⟩ := List.mem_map.mp z
  have := ok.ends q hq
  unfold swp
  dsimp only
  omega
theorem shut_iff {js : List (Int × Int)} {ks : List Int} {a : Int} (ha : a ∈ ks) (hc : ∀ q ∈ ks, Cn js a q) (hs : Shut js ks) (b : Int) : b ∈ ks ↔ Cn js a b := ⟨hc b, fun h => closed_all ha hs h⟩
end TL
namespace TL
open PySem PySem.Spec PyProof.Rows L2 TS
theorem call_sortedk {X : Cx} {K : PySem.W.Frag} (e : X.K = K) : CallR X (.builtin "sorted") (fun xs H Q => ∃ a ns, xs = [.ref a] ∧ SqL K H a (ns.map V.int) ∧ ns.length < 64 ∧ ∀ p, H p = none → Q (.ref p) (upd H p (.lst ((srt ns).map V.int)))) := by subst e; exact call_sorted
def rCatS (K : PySem.W.Frag) : R2 := fun x y H Q => ∃ l b xs zs, x = .ref l ∧ y = .ref b ∧ SqL K H l xs ∧ SqL K H b zs ∧ xs.length + zs.length ≤ sizeLine ∧ ∀ p, H p = none → Q (.ref p) (upd H p (.lst (xs ++ zs)))
theorem op_catS {X : Cx} : OpR X (binaryOp .Add) (rCatS X.K) := by
 intro pins s σ H x y v u Q I rx ry h
 obtain ⟨l, b, xs, zs, rfl, rfl, hH, hB, hz, q⟩ := h
 cases rx
 cases ry
 obtain ⟨its, r, ⟨⟨cls, dd, data, sl⟩, n, ho, hc, _, hd⟩, _⟩ := I.list hH
 obtain ⟨its2, r2, ⟨⟨cls2, dd2, data2, sl2⟩, n2, ho2, hc2, _, hd2⟩, _⟩ := I.list hB
 simp only at hc hd hc2 hd2
 subst hc hd hc2 hd2
 have l1 := r.length
 have l2 := r2.length
 refine concat_meets ⟨_, ho, rfl⟩ ⟨_, ho2, rfl⟩ noFill_list_add seq_list_add PySem.F.slot_list_add PySem.F.entry_list_add (PySem.F.args_list_add_2 _ _) (list_addW l b its.toArray its2.toArray n n2 dd dd2 sl sl2 (by rw [List.size_toArray, List.size_toArray]; omega)) ⟨ho, ho2, ?_⟩
 have e : its.toArray ++ its2.toArray = (its ++ its2).toArray := by simp
 rw [e]
 exact ⟨.ref _, _, I.lnew (t' := s.toks) (r.append r2) (by rw [List.length_append]; omega), rfl, q _ I.fresh⟩
end TL
namespace K32
open PySem L2 TL PyProof.Rows
abbrev St := L2.St
def top (i : Nat) : Stmt := PySem.Challenge.pw_turnline_k32_markings_looked_at.main.body.getD i (.Pass ⟨0, 0, 0, 0⟩)
def sp_other : Sp := fun vs H Q _ => ∃ e : Int, vs = [.int e] ∧ Q (.int (oth e)) H
def sp_half : Sp := fun vs H Q _ => ∃ e : Int, vs = [.int e] ∧ Q (.int (e / 2)) H
def sp_cell (K : PySem.W.Frag) : Sp := fun vs H Q _ => ∃ (a : Addr) (ns : List Int) (k : Int), vs = [.ref a, .int k] ∧ SqL K H a (ns.map V.int) ∧ 0 ≤ k ∧ ∀ c, Q (.int c) H
def sp_mix : Sp := fun vs H Q _ => ∃ c k : Int, vs = [.int c, .int k] ∧ 0 ≤ k ∧ k ≤ 1000 ∧ ∀ n, 0 ≤ n → n < 2147483648 → Q (.int n) H
abbrev s_other_end : Stmt := top 1
theorem sc_other_end : FnScope ["end"] ["end"] (defScope s_other_end) := ⟨rfl, rfl, rfl, by decide +kernel, rfl, by decide +kernel, by decide +kernel⟩
abbrev s_piece_of : Stmt := top 2
theorem sc_piece_of : FnScope ["end"] ["end"] (defScope s_piece_of) := ⟨rfl, rfl, rfl, by decide +kernel, rfl, by decide +kernel, by decide +kernel⟩
abbrev s_law_other : Stmt := top 12
theorem sc_law_other : FnScope ["_law_end"] ["_law_end"] (defScope s_law_other) := ⟨rfl, rfl, rfl, by decide +kernel, rfl, by decide +kernel, by decide +kernel⟩
abbrev s_law_cell_at : Stmt := top 9
theorem sc_law_cell_at : FnScope ["_law_script", "_law_k"] ["_law_script", "_law_k"] (defScope s_law_cell_at) := ⟨rfl, rfl, rfl, by decide +kernel, rfl, by decide +kernel, by decide +kernel⟩
abbrev s_law_mix : Stmt := top 10
theorem sc_law_mix : FnScope ["_law_cell", "_law_k", "_law_again", "_law_number"] ["_law_cell", "_law_k"] (defScope s_law_mix) := ⟨rfl, rfl, rfl, by decide +kernel, rfl, by decide +kernel, by decide +kernel⟩
section
variable {P : Program} {w : World} {K : PySem.W.Frag} {mg : Str → Option Value} {base : Heap} {f : Addr} {fd : FuncData}
theorem ok_other_end (F : Fn K mg "other_end" s_other_end ["end"] f fd) : FnOk P w K mg base CX0 1 f fd ["end"] sp_other := by
 refine F.F.ok sc_other_end (fun vs H Q E h => ?_) (fun cdv A outer s H vs Q E hr h => ?_)
 ·obtain ⟨e, rfl, _⟩ := h; rfl
 ·obtain ⟨e, rfl, k⟩ := h
  refine ⟨_, (@pss_one _ _ _ (@ps_ret _ _ _ _ (@pe_op _ _ _ _ _ _ _ _ (@op_xor _) (@pv _ 0 _ _ (by rfl) (by first | exact Or.inl rfl | exact Or.inr (  Or.inl rfl ) | exact Or.inr (  Or.inr rfl )) (by decide) (by decide)) (@pe_int _ _ _ _)))), ?_⟩
  refine ⟨_, rfl, _, _, rfl, rfl, ?_⟩
  show Q (.int (Builtin.bitXor e 1)) H
  rw [xor_one]; exact k
theorem ok_piece_of (F : Fn K mg "piece_of" s_piece_of ["end"] f fd) : FnOk P w K mg base CX0 1 f fd ["end"] sp_half := by
 refine F.F.ok sc_piece_of (fun vs H Q E h => ?_) (fun cdv A outer s H vs Q E hr h => ?_)
 ·obtain ⟨e, rfl, _⟩ := h; rfl
 ·obtain ⟨e, rfl, k⟩ := h
  refine ⟨_, (@pss_one _ _ _ (@ps_ret _ _ _ _ (@pe_op _ _ _ _ _ _ _ _ (@op_fdiv _) (@pv _ 0 _ _ (by rfl) (by first | exact Or.inl rfl | exact Or.inr (  Or.inl rfl ) | exact Or.inr (  Or.inr rfl )) (by decide) (by decide)) (@pe_int _ _ _ _)))), ?_⟩
  exact ⟨_, rfl, _, _, rfl, rfl, ⟨by decide, by decide⟩, k⟩
theorem ok_law_other (F : Fn K mg "_law_other" s_law_other ["_law_end"] f fd) : FnOk P w K mg base CX0 1 f fd ["_law_end"] sp_other := by
 refine F.F.ok sc_law_other (fun vs H Q E h => ?_) (fun cdv A outer s H vs Q E hr h => ?_)
 ·obtain ⟨e, rfl, _⟩ := h; rfl
 ·obtain ⟨e, rfl, k⟩ := h
  refine ⟨_, (@pss_one _ _ _ (@ps_ret _ _ _ _ (@pe_op _ _ _ _ _ _ _ _ (@op_sub _) (@pe_op _ _ _ _ _ _ _ _ (@op_add _) (@pv _ 0 _ _ (by rfl) (by first | exact Or.inl rfl | exact Or.inr (  Or.inl rfl ) | exact Or.inr (  Or.inr rfl )) (by decide) (by decide)) (@pe_int _ _ _ _)) (@pe_op _ _ _ _ _ _ _ _ (@op_mul _) (@pe_int _ _ _ _) (@pe_op _ _ _ _ _ _ _ _ (@op_mod _) (@pv _ 0 _ _ (by rfl) (by first | exact Or.inl rfl | exact Or.inr (  Or.inl rfl ) | exact Or.inr (  Or.inr rfl )) (by decide) (by decide)) (@pe_int _ _ _ _)))))), ?_⟩
  exact ⟨_, rfl, _, _, rfl, rfl, _, rfl, _, _, rfl, rfl, by show (0 : Int) < 2; decide, _, _, rfl, rfl, .inl ⟨by decide, by decide⟩, _, _, rfl, rfl, k⟩
theorem ok_law_cell_at (F : Fn K mg "_law_cell_at" s_law_cell_at ["_law_script", "_law_k"] f fd) (B : Bl mg) : FnOk P w K mg base CX0 1 f fd ["_law_script", "_law_k"] (sp_cell K) := by
 refine F.F.ok sc_law_cell_at (fun vs H Q E h => ?_) (fun cdv A outer s H vs Q E hr h => ?_)
 ·obtain ⟨a, ns, k, rfl, _⟩ := h; rfl
 ·obtain ⟨a, ns, k, rfl, hS, h0, q⟩ := h
  refine ⟨_, (@pss_cons _ _ _ _ _ (@ps_if _ _ _ _ _ _ _ _ (pt_cmp (@pc_lt _ _ _ _ _ (@pv _ 1 _ _ (by rfl) (by first | exact Or.inl rfl | exact Or.inr (  Or.inl rfl ) | exact Or.inr (  Or.inr rfl )) (by decide) (by decide)) (@pe_callB _ _ _ _ _ _ _ _ _ (@call_len_seq _) rfl B.len boot_len (@pa_cons _ _ _ _ _ (@pv _ 0 _ _ (by rfl) (by first | exact Or.inl rfl | exact Or.inr (  Or.inl rfl ) | exact Or.inr (  Or.inr rfl )) (by decide) (by decide)) (@pa_nil _) (by rfl)) (by decide) (by decide) (by rfl) (by rfl)))) (@pss_one _ _ _ (@ps_ret _ _ _ _ (@pe_ix _ _ _ _ _ _ _ (@ix_list _) (@pv _ 0 _ _ (by rfl) (by first | exact Or.inl rfl | exact Or.inr (  Or.inl rfl ) | exact Or.inr (  Or.inr rfl )) (by decide) (by decide)) (@pv _ 1 _ _ (by rfl) (by first | exact Or.inl rfl | exact Or.inr (  Or.inl rfl ) | exact Or.inr (  Or.inr rfl )) (by decide) (by decide)) (fun _ _ => rfl)))) (@pss_nil _)) (@pss_one _ _ _ (@ps_ret _ _ _ _ (@pe_int _ _ _ _)))), ?_⟩
  refine ⟨_, rfl, _, rfl, a, _, rfl, .inl hS, _, _, rfl, rfl, _, rfl, ite2 (fun hlt => ?_) (fun _ => ?_)⟩
  ·have hlt : k < ((ns.map V.int).length : Int) := by simpa using hlt
   rw [List.length_map] at hlt
   have hg : (ns.map V.int)[k.toNat]? = some (V.int (ns.getD k.toNat 0)) := by
    rw [List.getElem?_map, List.getD_eq_getElem?_getD]
    have : k.toNat < ns.length := by omega
    simp [this]
   have e1 : ((k.toNat : Nat) : Int) = k := by omega
   exact ⟨_, rfl, _, rfl, a, _, k, _, rfl, rfl, hS, by have h := atI_nat hg; rw [e1] at h; exact h, q _⟩
  ·exact q _
theorem ok_law_mix (F : Fn K mg "_law_mix" s_law_mix ["_law_cell", "_law_k"] f fd) (B : Bl mg) : FnOk P w K mg base CX0 1 f fd ["_law_cell", "_law_k"] sp_mix := by
 refine F.F.ok sc_law_mix (fun vs H Q E h => ?_) (fun cdv A outer s H vs Q E hr h => ?_)
 ·obtain ⟨c, k, rfl, _⟩ := h; rfl
 ·obtain ⟨c, k, rfl, h0, h1, q⟩ := h
  refine ⟨_, (@pss_cons _ _ _ _ _ (@ps_if _ _ _ _ _ _ _ _ (pt_cmp (@pc_ge _ _ _ _ _ (@pv _ 0 _ _ (by rfl) (by first | exact Or.inl rfl | exact Or.inr (  Or.inl rfl ) | exact Or.inr (  Or.inr rfl )) (by decide) (by decide)) (@pe_op _ _ _ _ _ _ _ _ (@op_pow _) (@pe_int _ _ _ _) (@pe_int _ _ _ _)))) (@pss_cons _ _ _ _ _ (@ps_for _ _ _ _ _ _ _ _ PassesOwn.never rfl (@pi_range1 _ _ _ _ _ _ rfl B.range (@pa_cons _ _ _ _ _ (@pv _ 1 _ _ (by rfl) (by first | exact Or.inl rfl | exact Or.inr (  Or.inl rfl ) | exact Or.inr (  Or.inr rfl )) (by decide) (by decide)) (@pa_nil _) (by rfl)) (by rfl)) (@pg_name _ _ (2) _ sc_law_mix.nd rfl (Or.inl rfl) (by first | exact .inl rfl | exact .inr rfl | assumption)) (@pss_one _ _ _ (@ps_set _ _ (0) _ _ _ _ sc_law_mix.nd rfl (Or.inl rfl) (@pe_op _ _ _ _ _ _ _ _ (@op_fdiv _) (@pv _ 0 _ _ (by rfl) (by first | exact Or.inl rfl | exact Or.inr (  Or.inl rfl ) | exact Or.inr (  Or.inr rfl )) (by decide) (by decide)) (@pe_op _ _ _ _ _ _ _ _ (@op_pow _) (@pe_int _ _ _ _) (@pe_int _ _ _ _))) (by rfl) (by first | exact .inl rfl | exact .inr rfl | assumption))) (by intros; rfl)) (@pss_one _ _ _ (@ps_ret _ _ _ _ (@pe_op _ _ _ _ _ _ _ _ (@op_mod _) (@pv _ 0 _ _ (by rfl) (by first | exact Or.inl rfl | exact Or.inr (  Or.inl rfl ) | exact Or.inr (  Or.inr rfl )) (by decide) (by decide)) (@pe_op _ _ _ _ _ _ _ _ (@op_pow _) (@pe_int _ _ _ _) (@pe_int _ _ _ _)))))) (@pss_nil _)) (@pss_cons _ _ _ _ _ (@ps_set _ _ (3) _ _ _ _ sc_law_mix.nd rfl (Or.inl rfl) (@pe_op _ _ _ _ _ _ _ _ (@op_mod _) (@pe_op _ _ _ _ _ _ _ _ (@op_mul _) (@pe_op _ _ _ _ _ _ _ _ (@op_add _) (@pe_op _ _ _ _ _ _ _ _ (@op_add _) (@pe_op _ _ _ _ _ _ _ _ (@op_mod _) (@pv _ 0 _ _ (by rfl) (by first | exact Or.inl rfl | exact Or.inr (  Or.inl rfl ) | exact Or.inr (  Or.inr rfl )) (by decide) (by decide)) (@pe_int _ _ _ _)) (@pe_op _ _ _ _ _ _ _ _ (@op_mul _) (@pe_op _ _ _ _ _ _ _ _ (@op_mul _) (@pv _ 1 _ _ (by rfl) (by first | exact Or.inl rfl | exact Or.inr (  Or.inl rfl ) | exact Or.inr (  Or.inr rfl )) (by decide) (by decide)) (@pv _ 1 _ _ (by rfl) (by first | exact Or.inl rfl | exact Or.inr (  Or.inl rfl ) | exact Or.inr (  Or.inr rfl )) (by decide) (by decide))) (@pe_int _ _ _ _))) (@pv _ 1 _ _ (by rfl) (by first | exact Or.inl rfl | exact Or.inr (  Or.inl rfl ) | exact Or.inr (  Or.inr rfl )) (by decide) (by decide))) (@pe_int _ _ _ _)) (@pe_int _ _ _ _)) (by rfl) (by first | exact .inl rfl | exact .inr rfl | assumption)) (@pss_cons _ _ _ _ _ (@ps_set _ _ (3) _ _ _ _ sc_law_mix.nd rfl (Or.inl rfl) (@pe_op _ _ _ _ _ _ _ _ (@op_mod _) (@pe_op _ _ _ _ _ _ _ _ (@op_mul _) (@pv _ 3 _ _ (by rfl) (by first | exact Or.inl rfl | exact Or.inr (  Or.inl rfl ) | exact Or.inr (  Or.inr rfl )) (by decide) (by decide)) (@pv _ 3 _ _ (by rfl) (by first | exact Or.inl rfl | exact Or.inr (  Or.inl rfl ) | exact Or.inr (  Or.inr rfl )) (by decide) (by decide))) (@pe_int _ _ _ _)) (by rfl) (by first | exact .inl rfl | exact .inr rfl | assumption)) (@pss_one _ _ _ (@ps_ret _ _ _ _ (@pe_op _ _ _ _ _ _ _ _ (@op_fdiv _) (@pe_op _ _ _ _ _ _ _ _ (@op_mod _) (@pe_op _ _ _ _ _ _ _ _ (@op_mul _) (@pv _ 3 _ _ (by rfl) (by first | exact Or.inl rfl | exact Or.inr (  Or.inl rfl ) | exact Or.inr (  Or.inr rfl )) (by decide) (by decide)) (@pe_op _ _ _ _ _ _ _ _ (@op_add _) (@pv _ 3 _ _ (by rfl) (by first | exact Or.inl rfl | exact Or.inr (  Or.inl rfl ) | exact Or.inr (  Or.inr rfl )) (by decide) (by decide)) (@pe_int _ _ _ _))) (@pe_int _ _ _ _)) (@pe_int _ _ _ _))))))), ?_⟩
  refine ⟨_, rfl, _, _, rfl, rfl, ⟨by decide, by decide, by decide⟩, _, _, rfl, rfl, _, rfl, ite2 (fun hlt => ?_) (fun _ => ?_)⟩
  ·refine ⟨_, rfl, _, rfl, by omega, by omega, for_range (fun i σ H2 => H2 = H ∧ ∃ (c : Int) (x : Option V), σ = [some (.int c), some (.int k), x, none]) ⟨rfl, c, none, rfl⟩ ?_ ?_⟩
   ·rintro i σ H2 hi ⟨rfl, c, x, rfl⟩
    exact ⟨_, rfl, _, _, rfl, rfl, ⟨by decide, by decide, by decide⟩, _, _, rfl, rfl, ⟨by decide, by decide⟩, rfl, _, _, rfl⟩
   ·rintro σ H2 ⟨rfl, c, x, rfl⟩
    refine ⟨_, rfl, _, _, rfl, rfl, ⟨by decide, by decide, by decide⟩, _, _, rfl, rfl, (by show (0 : Int) < _; decide), q _ ?_ ?_⟩
    ·show 0 ≤ c % (10 ^ 6); omega
    ·show c % (10 ^ 6) < _; omega
  ·refine ⟨_, rfl, _, _, rfl, rfl, (by show (0 : Int) < _; decide), _, rfl, _, rfl, _, _, rfl, rfl, .inl ⟨by omega, by omega⟩, _, _, rfl, rfl, .inr ⟨by decide, by decide⟩, _, _, rfl, rfl, _, rfl, _, _, rfl, rfl, _, _, rfl, rfl, .inr ⟨by decide, by decide⟩, _, _, rfl, rfl, (by show (0 : Int) < _; decide), ?_⟩
   dsimp only
   generalize hn : (c % 1000003 + k * k * 7919 + k) * 48271 % 2147483629 = n
   have n0 : 0 ≤ n := by omega
   have n1 : n < 2147483629 := by omega
   refine ⟨_, rfl, _, rfl, _, _, rfl, rfl, .inl ⟨by omega, by omega⟩, _, _, rfl, rfl, (by show (0 : Int) < _; decide), ?_⟩
   dsimp only
   generalize hm : n * n % 2147483587 = m
   have m0 : 0 ≤ m := by omega
   have m1 : m < 2147483587 := by omega
   refine ⟨_, rfl, _, rfl, _, _, rfl, rfl, _, _, rfl, rfl, .inl ⟨by omega, by omega⟩, _, _, rfl, rfl, (by show (0 : Int) < _; decide), _, _, rfl, rfl, ⟨by decide, by decide⟩, q _ ?_ ?_⟩
   ·show 0 ≤ m * (m + 2) % 2147483579 / 7; omega
   ·show m * (m + 2) % 2147483579 / 7 < _; omega
end
end K32
namespace K32
open PySem L2 TL PyProof.Rows
theorem small_l {n : Nat} (h : n ≤ 1000) : n < sizeLine := Nat.lt_of_le_of_lt h (by decide)
def sp_row (K : PySem.W.Frag) : Sp := fun vs H Q _ => ∃ n m : Int, vs = [.int n, .int m] ∧ 0 ≤ m ∧ m ≤ 40 ∧ ∀ (p : Addr) (ns : List Int) (H' : Hp), Same H H' → H p = none → H' p = some (.lst (ns.map V.int)) → (ns.length : Int) = m → (∀ x ∈ ns, 0 ≤ x ∧ x < m) → ns.Nodup → Q (.ref p) H'
def sp_renamed (K : PySem.W.Frag) : Sp := fun vs H Q _ => ∃ (v : V) (l : Int × List (Int × Int)) (c : Int), vs = [v, .int c] ∧ Da K H (dL l) v ∧ 1 ≤ l.1 ∧ l.1 ≤ 40 ∧ l.2.length ≤ 24 ∧ (∀ p ∈ l.2, (0 ≤ p.1 ∧ p.1 < 2 * l.1) ∧ (0 ≤ p.2 ∧ p.2 < 2 * l.1)) ∧ NewLine K H Q
abbrev s_law_turned_row : Stmt := top 11
theorem sc_law_turned_row : FnScope ["_law_number", "_law_many", "_law_told", "_law_k"] ["_law_number", "_law_many"] (defScope s_law_turned_row) := ⟨rfl, rfl, rfl, by decide +kernel, rfl, by decide +kernel, by decide +kernel⟩
abbrev s_law_renamed : Stmt := top 15
theorem sc_law_renamed : FnScope ["_law_line_here", "_law_cell", "_law_many", "_law_joints", "_law_names", "_law_ends", "_law_piece", "_law_flip", "_law_made", "_law_k", "_law_a", "_law_b", "_law_joint"] ["_law_line_here", "_law_cell"] (defScope s_law_renamed) := ⟨rfl, rfl, rfl, by decide +kernel, rfl, by decide +kernel, by decide +kernel⟩
section
variable {P : Program} {w : World} {K : PySem.W.Frag} {mg : Str → Option Value} {base : Heap} {f : Addr} {fd : FuncData}
theorem ok_law_turned_row (F : Fn K mg "_law_turned_row" s_law_turned_row ["_law_number", "_law_many"] f fd) (B : Bl mg) : FnOk P w K mg base CX0 1 f fd ["_law_number", "_law_many"] (sp_row K) := by
 refine F.F.ok sc_law_turned_row (fun vs H Q E h => ?_) (fun cdv A outer s H vs Q E hr h => ?_)
 ·obtain ⟨n, m, rfl, _⟩ := h; rfl
 ·obtain ⟨n, m, rfl, h0, h1, k⟩ := h
  refine ⟨_, (@pss_cons _ _ _ _ _ (@ps_set _ _ (2) _ _ _ _ sc_law_turned_row.nd rfl (Or.inl rfl) (@pe_lst _ _ _ _ (@pa_nil _)) (by rfl) (by first | exact .inl rfl | exact .inr rfl | assumption)) (@pss_cons _ _ _ _ _ (@ps_for _ _ _ _ _ _ _ _ PassesOwn.never rfl (@pi_range1 _ _ _ _ _ _ rfl B.range (@pa_cons _ _ _ _ _ (@pv _ 1 _ _ (by rfl) (by first | exact Or.inl rfl | exact Or.inr (  Or.inl rfl ) | exact Or.inr (  Or.inr rfl )) (by decide) (by decide)) (@pa_nil _) (by rfl)) (by rfl)) (@pg_name _ _ (3) _ sc_law_turned_row.nd rfl (Or.inl rfl) (by first | exact .inl rfl | exact .inr rfl | assumption)) (@pss_cons _ _ _ _ _ (@ps_expr _ _ _ _ (@pe_bm _ _ _ _ _ _ _ _ _ _ _ _ PySem.F.plainAttrs_list PySem.F.slot_list_insert PySem.F.type_list_insert (@mt_insert _) (@pv _ 2 _ _ (by rfl) (by first | exact Or.inl rfl | exact Or.inr (  Or.inl rfl ) | exact Or.inr (  Or.inr rfl )) (by decide) (by decide)) (@pa_cons _ _ _ _ _ (@pe_op _ _ _ _ _ _ _ _ (@op_mod _) (@pv _ 0 _ _ (by rfl) (by first | exact Or.inl rfl | exact Or.inr (  Or.inl rfl ) | exact Or.inr (  Or.inr rfl )) (by decide) (by decide)) (@pe_op _ _ _ _ _ _ _ _ (@op_add _) (@pv _ 3 _ _ (by rfl) (by first | exact Or.inl rfl | exact Or.inr (  Or.inl rfl ) | exact Or.inr (  Or.inr rfl )) (by decide) (by decide)) (@pe_int _ _ _ _))) (@pa_cons _ _ _ _ _ (@pv _ 3 _ _ (by rfl) (by first | exact Or.inl rfl | exact Or.inr (  Or.inl rfl ) | exact Or.inr (  Or.inr rfl )) (by decide) (by decide)) (@pa_nil _) (by rfl)) (by rfl)) (by rfl) (by rfl) (by rfl) (by rfl) (by rfl)) (by rfl)) (@pss_one _ _ _ (@ps_set _ _ (0) _ _ _ _ sc_law_turned_row.nd rfl (Or.inl rfl) (@pe_op _ _ _ _ _ _ _ _ (@op_fdiv _) (@pv _ 0 _ _ (by rfl) (by first | exact Or.inl rfl | exact Or.inr (  Or.inl rfl ) | exact Or.inr (  Or.inr rfl )) (by decide) (by decide)) (@pe_op _ _ _ _ _ _ _ _ (@op_add _) (@pv _ 3 _ _ (by rfl) (by first | exact Or.inl rfl | exact Or.inr (  Or.inl rfl ) | exact Or.inr (  Or.inr rfl )) (by decide) (by decide)) (@pe_int _ _ _ _))) (by rfl) (by first | exact .inl rfl | exact .inr rfl | assumption)))) (by intros; rfl)) (@pss_one _ _ _ (@ps_ret _ _ _ _ (@pv _ 2 _ _ (by rfl) (by first | exact Or.inl rfl | exact Or.inr (  Or.inl rfl ) | exact Or.inr (  Or.inr rfl )) (by decide) (by decide)))))), ?_⟩
  refine ⟨Nat.zero_le _, fun t ht => ?_⟩
  refine ⟨_, rfl, m, rfl, by omega, by omega, for_range (fun i σ H3 => ∃ (n : Int) (ns : List Int) (x : Option V), σ = [some (.int n), some (.int m), some (.ref t), x] ∧ H3 = upd H t (.lst (ns.map V.int)) ∧ ns.length = i ∧ (∀ x ∈ ns, 0 ≤ x ∧ x < (i : Int)) ∧ ns.Nodup)
   ⟨n, [], none, rfl, rfl, rfl, fun x hx => (nomatch hx), List.nodup_nil⟩ ?_ ?_⟩
  ·rintro i σ H3 hi ⟨n, ns, x, rfl, rfl, hlen, hb, hnd⟩
   have i0 : (0 : Int) + (i : Nat) = (i : Int) := by omega
   rw [i0]
   have r0 : 0 ≤ n % ((i : Int) + 1) := Int.emod_nonneg _ (by omega)
   have r1 : n % ((i : Int) + 1) < (i : Int) + 1 := Int.emod_lt_of_pos _ (by omega)
   refine ⟨_, rfl, .inl ⟨rfl, _, SqL.of upd_same⟩, _, rfl, _, rfl, _, _, rfl, rfl, _, _, rfl, rfl, (by show (0 : Int) < (i : Int) + 1; omega), _, rfl, t, _, _, _, rfl, rfl, upd_same, r0, ?_, ?_, ?_⟩
   ·show n % ((i : Int) + 1) ≤ ((ns.map V.int).length : Int)
    rw [List.length_map, hlen]; omega
   ·rw [List.length_map, hlen]; exact small_l (by omega)
   refine ⟨_, rfl, _, rfl, _, _, rfl, rfl, _, _, rfl, rfl, ⟨by show (0 : Int) < (i : Int) + 1; omega, by show (i : Int) + 1 < 1073741824; omega⟩, ?_⟩
   have pm := perm_ins ns (n % ((i : Int) + 1)).toNat (i : Int)
   refine ⟨_, ns.take (n % ((i : Int) + 1)).toNat ++ (i : Int) :: ns.drop (n % ((i : Int) + 1)).toNat, _, rfl, ?_, ?_, ?_, ?_⟩
   ·rw [upd_upd, List.map_append, List.map_cons, List.map_take, List.map_drop]
   ·rw [pm.length_eq, List.length_cons, hlen]
   ·intro x hx
    rcases List.mem_cons.mp (pm.mem_iff.mp hx) with z | z
    ·omega
    ·have := hb x z; omega
   ·refine pm.nodup_iff.mpr (List.nodup_cons.mpr ⟨fun z => ?_, hnd⟩)
    have := (hb _ z).2
    omega
  ·rintro σ H3 ⟨n, ns, x, rfl, rfl, hlen, hb, hnd⟩
   exact ⟨_, rfl, k t ns _ (same_upd ht) ht upd_same (by omega) (fun x hx => by have := hb x hx; omega) hnd⟩
end
end K32
namespace K32
open PySem L2 TL PyProof.Rows
section
variable {P : Program} {w : World} {K : PySem.W.Frag} {mg : Str → Option Value} {base : Heap} {f : Addr} {fd : FuncData}
theorem ok_law_renamed {f1 f2 : Addr} {fd1 fd2 : FuncData} (F : Fn K mg "_law_renamed" s_law_renamed ["_law_line_here", "_law_cell"] f fd) (F_law_mix : Fn K mg "_law_mix" s_law_mix ["_law_cell", "_law_k"] f1 fd1) (F_law_turned_row : Fn K mg "_law_turned_row" s_law_turned_row ["_law_number", "_law_many"] f2 fd2)
  (B : Bl mg) : FnOk P w K mg base CX0 2 f fd ["_law_line_here", "_law_cell"] (sp_renamed K) := by
 have G_law_mix : FnOk P w K mg base CX0 1 f1 fd1 ["_law_cell", "_law_k"] sp_mix := ok_law_mix F_law_mix B
 have G_law_turned_row : FnOk P w K mg base CX0 1 f2 fd2 ["_law_number", "_law_many"] (sp_row K) := ok_law_turned_row F_law_turned_row B
 refine F.F.ok sc_law_renamed (fun vs H Q E h => ?_) (fun cdv A outer s H vs Q E hr h => ?_)
 ·obtain ⟨v, l, c, rfl, _⟩ := h; rfl
 ·obtain ⟨v, ⟨m, js⟩, c, rfl, hv, h1, h40, hjl, hjb, k⟩ := h
  obtain ⟨a, b, rfl, ht, us, hl, hq⟩ := da_line hv
  dsimp only at ht h1 h40 hjl hjb hq
  refine ⟨_, (@pss_cons _ _ _ _ _ (@ps_asg _ _ _ _ _ _ (@pv _ 0 _ _ (by rfl) (by first | exact Or.inl rfl | exact Or.inr (  Or.inl rfl ) | exact Or.inr (  Or.inr rfl )) (by decide) (by decide)) (@pg_tup _ _ _ _ _ (2) rfl (@pgs_cons _ _ _ _ _ (@pg_name _ _ (2) _ sc_law_renamed.nd rfl (Or.inl rfl) (by first | exact .inl rfl | exact .inr rfl | assumption)) (@pgs_cons _ _ _ _ _ (@pg_name _ _ (3) _ sc_law_renamed.nd rfl (Or.inl rfl) (by first | exact .inl rfl | exact .inr rfl | assumption)) (@pgs_nil _) (by rfl)) (by rfl)) (by rfl) (by rfl)) (by rfl) (by rfl) (by rfl)) (@pss_cons _ _ _ _ _ (@ps_set _ _ (4) _ _ _ _ sc_law_renamed.nd rfl (Or.inl rfl) (@pe_call _ _ _ _ _ _ _ _ _ _ _ _ _ _ _ _ G_law_turned_row (hr.mono (by decide)) rfl F_law_turned_row.m F_law_turned_row.F.kp F_law_turned_row.b .nil (@pass0 _) (@pa_cons _ _ _ _ _ (@pe_call _ _ _ _ _ _ _ _ _ _ _ _ _ _ _ _ G_law_mix (hr.mono (by decide)) rfl F_law_mix.m F_law_mix.F.kp F_law_mix.b .nil (@pass0 _) (@pa_cons _ _ _ _ _ (@pv _ 1 _ _ (by rfl) (by first | exact Or.inl rfl | exact Or.inr (  Or.inl rfl ) | exact Or.inr (  Or.inr rfl )) (by decide) (by decide)) (@pa_cons _ _ _ _ _ (@pe_int _ _ _ _) (@pa_nil _) (by rfl)) (by rfl)) (by decide) (by rfl) (by rfl)) (@pa_cons _ _ _ _ _ (@pv _ 2 _ _ (by rfl) (by first | exact Or.inl rfl | exact Or.inr (  Or.inl rfl ) | exact Or.inr (  Or.inr rfl )) (by decide) (by decide)) (@pa_nil _) (by rfl)) (by rfl)) (by decide) (by rfl) (by rfl)) (by rfl) (by first | exact .inl rfl | exact .inr rfl | assumption)) (@pss_cons _ _ _ _ _ (@ps_set _ _ (5) _ _ _ _ sc_law_renamed.nd rfl (Or.inl rfl) (@pe_lst _ _ _ _ (@pa_nil _)) (by rfl) (by first | exact .inl rfl | exact .inr rfl | assumption)) (@pss_cons _ _ _ _ _ (@ps_for _ _ _ _ _ _ _ _ PassesOwn.never rfl (@pi_range1 _ _ _ _ _ _ rfl B.range (@pa_cons _ _ _ _ _ (@pv _ 2 _ _ (by rfl) (by first | exact Or.inl rfl | exact Or.inr (  Or.inl rfl ) | exact Or.inr (  Or.inr rfl )) (by decide) (by decide)) (@pa_nil _) (by rfl)) (by rfl)) (@pg_name _ _ (6) _ sc_law_renamed.nd rfl (Or.inl rfl) (by first | exact .inl rfl | exact .inr rfl | assumption)) (@pss_cons _ _ _ _ _ (@ps_set _ _ (7) _ _ _ _ sc_law_renamed.nd rfl (Or.inl rfl) (@pe_op _ _ _ _ _ _ _ _ (@op_mod _) (@pe_call _ _ _ _ _ _ _ _ _ _ _ _ _ _ _ _ G_law_mix (hr.mono (by decide)) rfl F_law_mix.m F_law_mix.F.kp F_law_mix.b .nil (@pass0 _) (@pa_cons _ _ _ _ _ (@pv _ 1 _ _ (by rfl) (by first | exact Or.inl rfl | exact Or.inr (  Or.inl rfl ) | exact Or.inr (  Or.inr rfl )) (by decide) (by decide)) (@pa_cons _ _ _ _ _ (@pe_op _ _ _ _ _ _ _ _ (@op_add _) (@pe_int _ _ _ _) (@pv _ 6 _ _ (by rfl) (by first | exact Or.inl rfl | exact Or.inr (  Or.inl rfl ) | exact Or.inr (  Or.inr rfl )) (by decide) (by decide))) (@pa_nil _) (by rfl)) (by rfl)) (by decide) (by rfl) (by rfl)) (@pe_int _ _ _ _)) (by rfl) (by first | exact .inl rfl | exact .inr rfl | assumption)) (@pss_one _ _ _ (@ps_set _ _ (5) _ _ _ _ sc_law_renamed.nd rfl (Or.inl rfl) (@pe_op _ _ _ _ _ _ _ _ (@op_cat _) (@pv _ 5 _ _ (by rfl) (by first | exact Or.inl rfl | exact Or.inr (  Or.inl rfl ) | exact Or.inr (  Or.inr rfl )) (by decide) (by decide)) (@pe_lst _ _ _ _ (@pa_cons _ _ _ _ _ (@pe_op _ _ _ _ _ _ _ _ (@op_add _) (@pe_op _ _ _ _ _ _ _ _ (@op_mul _) (@pe_int _ _ _ _) (@pe_ix _ _ _ _ _ _ _ (@ix_list _) (@pv _ 4 _ _ (by rfl) (by first | exact Or.inl rfl | exact Or.inr (  Or.inl rfl ) | exact Or.inr (  Or.inr rfl )) (by decide) (by decide)) (@pv _ 6 _ _ (by rfl) (by first | exact Or.inl rfl | exact Or.inr (  Or.inl rfl ) | exact Or.inr (  Or.inr rfl )) (by decide) (by decide)) (fun _ _ => rfl))) (@pv _ 7 _ _ (by rfl) (by first | exact Or.inl rfl | exact Or.inr (  Or.inl rfl ) | exact Or.inr (  Or.inr rfl )) (by decide) (by decide))) (@pa_cons _ _ _ _ _ (@pe_op _ _ _ _ _ _ _ _ (@op_sub _) (@pe_op _ _ _ _ _ _ _ _ (@op_add _) (@pe_op _ _ _ _ _ _ _ _ (@op_mul _) (@pe_int _ _ _ _) (@pe_ix _ _ _ _ _ _ _ (@ix_list _) (@pv _ 4 _ _ (by rfl) (by first | exact Or.inl rfl | exact Or.inr (  Or.inl rfl ) | exact Or.inr (  Or.inr rfl )) (by decide) (by decide)) (@pv _ 6 _ _ (by rfl) (by first | exact Or.inl rfl | exact Or.inr (  Or.inl rfl ) | exact Or.inr (  Or.inr rfl )) (by decide) (by decide)) (fun _ _ => rfl))) (@pe_int _ _ _ _)) (@pv _ 7 _ _ (by rfl) (by first | exact Or.inl rfl | exact Or.inr (  Or.inl rfl ) | exact Or.inr (  Or.inr rfl )) (by decide) (by decide))) (@pa_nil _) (by rfl)) (by rfl)))) (by rfl) (by first | exact .inl rfl | exact .inr rfl | assumption)))) (by intros; rfl)) (@pss_cons _ _ _ _ _ (@ps_set _ _ (8) _ _ _ _ sc_law_renamed.nd rfl (Or.inl rfl) (@pe_lst _ _ _ _ (@pa_nil _)) (by rfl) (by first | exact .inl rfl | exact .inr rfl | assumption)) (@pss_cons _ _ _ _ _ (@ps_for _ _ _ _ _ _ _ _ PassesOwn.never rfl (@pi_enum _ _ _ _ _ _ _ _ rfl B.enumerate (@pa_cons _ _ _ _ _ (@pv _ 3 _ _ (by rfl) (by first | exact Or.inl rfl | exact Or.inr (  Or.inl rfl ) | exact Or.inr (  Or.inr rfl )) (by decide) (by decide)) (@pa_nil _) (by rfl)) (by rfl)) (@pg_tup _ _ _ _ _ (2) rfl (@pgs_cons _ _ _ _ _ (@pg_name _ _ (9) _ sc_law_renamed.nd rfl (Or.inl rfl) (by first | exact .inl rfl | exact .inr rfl | assumption)) (@pgs_cons _ _ _ _ _ (@pg_tup _ _ _ _ _ (2) rfl (@pgs_cons _ _ _ _ _ (@pg_name _ _ (10) _ sc_law_renamed.nd rfl (Or.inl rfl) (by first | exact .inl rfl | exact .inr rfl | assumption)) (@pgs_cons _ _ _ _ _ (@pg_name _ _ (11) _ sc_law_renamed.nd rfl (Or.inl rfl) (by first | exact .inl rfl | exact .inr rfl | assumption)) (@pgs_nil _) (by rfl)) (by rfl)) (by rfl) (by rfl)) (@pgs_nil _) (by rfl)) (by rfl)) (by rfl) (by rfl)) (@pss_cons _ _ _ _ _ (@ps_set _ _ (12) _ _ _ _ sc_law_renamed.nd rfl (Or.inl rfl) (@pe_tup _ _ _ _ _ (@pa_cons _ _ _ _ _ (@pe_callB _ _ _ _ _ _ _ _ _ (@call_min2 _ rfl) rfl B.min boot_min (@pa_cons _ _ _ _ _ (@pe_ix _ _ _ _ _ _ _ (@ix_list _) (@pv _ 5 _ _ (by rfl) (by first | exact Or.inl rfl | exact Or.inr (  Or.inl rfl ) | exact Or.inr (  Or.inr rfl )) (by decide) (by decide)) (@pv _ 10 _ _ (by rfl) (by first | exact Or.inl rfl | exact Or.inr (  Or.inl rfl ) | exact Or.inr (  Or.inr rfl )) (by decide) (by decide)) (fun _ _ => rfl)) (@pa_cons _ _ _ _ _ (@pe_ix _ _ _ _ _ _ _ (@ix_list _) (@pv _ 5 _ _ (by rfl) (by first | exact Or.inl rfl | exact Or.inr (  Or.inl rfl ) | exact Or.inr (  Or.inr rfl )) (by decide) (by decide)) (@pv _ 11 _ _ (by rfl) (by first | exact Or.inl rfl | exact Or.inr (  Or.inl rfl ) | exact Or.inr (  Or.inr rfl )) (by decide) (by decide)) (fun _ _ => rfl)) (@pa_nil _) (by rfl)) (by rfl)) (by decide) (by decide) (by rfl) (by rfl)) (@pa_cons _ _ _ _ _ (@pe_callB _ _ _ _ _ _ _ _ _ (@call_max2 _ rfl) rfl B.max boot_max (@pa_cons _ _ _ _ _ (@pe_ix _ _ _ _ _ _ _ (@ix_list _) (@pv _ 5 _ _ (by rfl) (by first | exact Or.inl rfl | exact Or.inr (  Or.inl rfl ) | exact Or.inr (  Or.inr rfl )) (by decide) (by decide)) (@pv _ 10 _ _ (by rfl) (by first | exact Or.inl rfl | exact Or.inr (  Or.inl rfl ) | exact Or.inr (  Or.inr rfl )) (by decide) (by decide)) (fun _ _ => rfl)) (@pa_cons _ _ _ _ _ (@pe_ix _ _ _ _ _ _ _ (@ix_list _) (@pv _ 5 _ _ (by rfl) (by first | exact Or.inl rfl | exact Or.inr (  Or.inl rfl ) | exact Or.inr (  Or.inr rfl )) (by decide) (by decide)) (@pv _ 11 _ _ (by rfl) (by first | exact Or.inl rfl | exact Or.inr (  Or.inl rfl ) | exact Or.inr (  Or.inr rfl )) (by decide) (by decide)) (fun _ _ => rfl)) (@pa_nil _) (by rfl)) (by rfl)) (by decide) (by decide) (by rfl) (by rfl)) (@pa_nil _) (by rfl)) (by rfl))) (by rfl) (by first | exact .inl rfl | exact .inr rfl | assumption)) (@pss_one _ _ _ (@ps_expr _ _ _ _ (@pe_bm _ _ _ _ _ _ _ _ _ _ _ _ PySem.F.plainAttrs_list PySem.F.slot_list_insert PySem.F.type_list_insert (@mt_insert _) (@pv _ 8 _ _ (by rfl) (by first | exact Or.inl rfl | exact Or.inr (  Or.inl rfl ) | exact Or.inr (  Or.inr rfl )) (by decide) (by decide)) (@pa_cons _ _ _ _ _ (@pe_op _ _ _ _ _ _ _ _ (@op_mod _) (@pe_call _ _ _ _ _ _ _ _ _ _ _ _ _ _ _ _ G_law_mix (hr.mono (by decide)) rfl F_law_mix.m F_law_mix.F.kp F_law_mix.b .nil (@pass0 _) (@pa_cons _ _ _ _ _ (@pv _ 1 _ _ (by rfl) (by first | exact Or.inl rfl | exact Or.inr (  Or.inl rfl ) | exact Or.inr (  Or.inr rfl )) (by decide) (by decide)) (@pa_cons _ _ _ _ _ (@pe_op _ _ _ _ _ _ _ _ (@op_add _) (@pe_int _ _ _ _) (@pv _ 9 _ _ (by rfl) (by first | exact Or.inl rfl | exact Or.inr (  Or.inl rfl ) | exact Or.inr (  Or.inr rfl )) (by decide) (by decide))) (@pa_nil _) (by rfl)) (by rfl)) (by decide) (by rfl) (by rfl)) (@pe_op _ _ _ _ _ _ _ _ (@op_add _) (@pv _ 9 _ _ (by rfl) (by first | exact Or.inl rfl | exact Or.inr (  Or.inl rfl ) | exact Or.inr (  Or.inr rfl )) (by decide) (by decide)) (@pe_int _ _ _ _))) (@pa_cons _ _ _ _ _ (@pv _ 12 _ _ (by rfl) (by first | exact Or.inl rfl | exact Or.inr (  Or.inl rfl ) | exact Or.inr (  Or.inr rfl )) (by decide) (by decide)) (@pa_nil _) (by rfl)) (by rfl)) (by rfl) (by rfl) (by rfl) (by rfl) (by rfl)) (by rfl)))) (by intros; rfl)) (@pss_one _ _ _ (@ps_ret _ _ _ _ (@pe_tup _ _ _ _ _ (@pa_cons _ _ _ _ _ (@pv _ 2 _ _ (by rfl) (by first | exact Or.inl rfl | exact Or.inr (  Or.inl rfl ) | exact Or.inr (  Or.inr rfl )) (by decide) (by decide)) (@pa_cons _ _ _ _ _ (@pv _ 8 _ _ (by rfl) (by first | exact Or.inl rfl | exact Or.inr (  Or.inl rfl ) | exact Or.inr (  Or.inr rfl )) (by decide) (by decide)) (@pa_nil _) (by rfl)) (by rfl))))))))))), ?_⟩
  refine ⟨_, rfl, a, _, rfl, ht, rfl, _, _, rfl, _, _, rfl, rfl, ?_⟩
  refine ⟨_, rfl, c, 0, rfl, by decide, by decide, fun n n0 n1 => ⟨_, rfl, n, m, rfl, by omega, h40, fun pn nm H1 s1 hn1 hn2 nlen nb nnd => ?_⟩⟩
  refine ⟨Nat.zero_le _, fun q0 nq0 => ?_⟩
  refine ⟨_, rfl, m, rfl, by omega, by omega, for_range (fun i σ H3 => ∃ (q : Addr) (es : List Int) (x6 x7 : Option V), σ = [some (.ref a), some (.int c), some (.int m), some (.ref b), some (.ref pn), some (.ref q), x6, x7, none, none, none, none, none] ∧ Same H1 H3 ∧ H3 q = some (.lst (es.map V.int)) ∧ es.length = 2 * i ∧ (∀ x ∈ es, 0 ≤ x ∧ x < 2 * m))
   ⟨q0, [], none, none, rfl, same_upd nq0, upd_same, rfl, fun x hx => (nomatch hx)⟩ ?_ ?_⟩
  ·rintro i σ H3 hi ⟨q, es, x6, x7, rfl, S3, hq3, elen, eb⟩
   have i0 : (0 : Int) + (i : Nat) = (i : Int) := by omega
   rw [i0]
   obtain ⟨nx, hnx, hmem, hat⟩ := at_int (ns := nm) (i := (i : Int)) (by omega) (by omega)
   have nbx := nb nx hmem
   have hSn : SqL K H3 pn (nm.map V.int) := SqL.of (S3 _ _ hn2)
   refine ⟨_, rfl, _, rfl, _, _, rfl, rfl, c, _, rfl, by show (0 : Int) ≤ 20 + i; omega, by show 20 + (i : Int) ≤ 1000; omega, fun n n0 n1 => ⟨_, _, rfl, rfl, (by show (0 : Int) < _; decide), ?_⟩⟩
   refine ⟨_, rfl, _, rfl, _, rfl, pn, _, _, _, rfl, rfl, hSn, hat, _, _, rfl, rfl, .inl ⟨by decide, by decide⟩, _, rfl, _, _, rfl, rfl, _, rfl, _, rfl, pn, _, _, _, rfl, rfl, hSn, hat, _, _, rfl, rfl, .inl ⟨by decide, by decide⟩, _, _, rfl, rfl, _, rfl, _, _, rfl, rfl, by show 2 ≤ sizeLine; decide, fun q1 nq1 => ?_⟩
   refine ⟨q, q1, _, _, rfl, rfl, by rw [upd_ne (ne_of_none hq3 nq1)]; exact hq3, upd_same, ?_, fun q2 nq2 => ?_⟩
   ·refine Nat.le_of_lt (small_l ?_)
    rw [List.length_map, elen]
    show 2 * i + 2 ≤ 1000
    omega
   refine ⟨q2, es ++ [2 * nx + n % 2, 2 * nx + 1 - n % 2], _, _, rfl, S3.trans ((same_upd nq1).trans (same_upd nq2)), ?_, ?_, ?_⟩
   ·rw [upd_same, List.map_append]; rfl
   ·rw [List.length_append, elen]; show 2 * i + 2 = _; omega
   ·intro x hx
    rcases List.mem_append.mp hx with z | z
    ·exact eb x z
    ·have z : x = 2 * nx + n % 2 ∨ x = 2 * nx + 1 - n % 2 := by simpa using z
     omega
  rintro σ H3 ⟨q, es, x6, x7, rfl, S3, hq3, elen, eb⟩
  refine ⟨Nat.zero_le _, fun t nt => ?_⟩
  have hl3 : SqL K H3 b us := (s1.trans S3).seq hl
  have hq4 : Das K H3 (js.map dP) us := Das.same (s1.trans S3) hq
  have hul : us.length = js.length := by rw [Dgs.length hq, List.length_map]
  refine ⟨_, rfl, b, rfl, ⟨us, (same_upd nt).seq hl3⟩, for_enum (K := K) (a := b) (xs := us) (fun i σ H4 => ∃ (vs : List V) (js' : List (Int × Int)) (x9 x10 x11 x12 : Option V), σ = [some (.ref a), some (.int c), some (.int m), some (.ref b), some (.ref pn), some (.ref q), x6, x7, some (.ref t), x9, x10, x11, x12] ∧ Same H3 H4 ∧ H4 t = some (.lst vs) ∧ Ps K H4 js' vs ∧ js'.length = i ∧ ∀ p ∈ js', 0 ≤ p.1 ∧ p.1 ≤ p.2 ∧ p.2 < 2 * m)
   ⟨[], [], none, none, none, none, rfl, same_upd nt, upd_same, dgs_nil.mpr rfl, rfl, fun p hp => (nomatch hp)⟩ (fun i σ H4 _ ⟨_, _, _, _, _, _, _, S4, _⟩ => S4.seq hl3) ?_ ?_⟩
  ·rintro i x σ H4 p0 hi ⟨vs, js', x9, x10, x11, x12, rfl, S4, ht4, D, jlen, jb⟩ n0
   have hil : i < us.length := (List.getElem?_eq_some_iff.mp hi).1
   have S5 : Same H3 (upd H4 p0 (.tup [.int i, x])) := S4.trans (same_upd n0)
   obtain ⟨ad, ⟨ea, eb'⟩, e1, rfl, hpr⟩ := das_pair (Das.same S5 hq4) hi
   dsimp only at hpr
   have hbd := hjb (ea, eb') (List.mem_of_getElem? e1)
   dsimp only at hbd
   obtain ⟨xa, _, ma, hata⟩ := at_int (ns := es) (i := ea) hbd.1.1 (by omega)
   obtain ⟨xb, _, mb, hatb⟩ := at_int (ns := es) (i := eb') hbd.2.1 (by omega)
   have ba := eb xa ma
   have bb := eb xb mb
   refine ⟨p0, _, rfl, SqT.of upd_same, rfl, _, _, rfl, _, _, rfl, ad, _, rfl, hpr, rfl, _, _, rfl, _, _, rfl, rfl, rfl, ?_⟩
   have hSe : SqL K (upd H4 p0 (.tup [.int i, .ref ad])) q (es.map V.int) := SqL.of (S5 _ _ hq3)
   refine ⟨_, rfl, _, rfl, q, _, _, _, rfl, rfl, hSe, hata, _, rfl, _, rfl, q, _, _, _, rfl, rfl, hSe, hatb, _, _, rfl, ?_⟩
   refine ⟨_, rfl, _, rfl, q, _, _, _, rfl, rfl, hSe, hata, _, rfl, _, rfl, q, _, _, _, rfl, rfl, hSe, hatb, _, _, rfl, by show 2 ≤ sizeLine; decide, fun p1 n1 => ?_⟩
   rw [min_if, max_if]
   have ht5 : (upd (upd H4 p0 (.tup [.int i, .ref ad])) p1 (.tup [.int (min xa xb), .int (max xa xb)])) t = some (.lst vs) := ((same_upd n0).trans (same_upd n1)) _ _ ht4
   have vl : vs.length = i := by rw [D.len, jlen]
   refine ⟨_, rfl, .inl ⟨rfl, _, SqL.of ht5⟩, _, rfl, _, rfl, _, _, rfl, rfl, c, _, rfl, by show (0 : Int) ≤ 40 + i; omega, by show 40 + (i : Int) ≤ 1000; omega, fun n n0' n1' => ⟨_, rfl, _, _, rfl, rfl, _, _, rfl, rfl, (by show (0 : Int) < (i : Int) + 1; omega), _, rfl, t, vs, _, _, rfl, rfl, ht5, ?_, ?_, small_l (by omega), ?_⟩⟩
   ·exact Int.emod_nonneg _ (by omega)
   ·have := Int.emod_lt_of_pos n (show (0 : Int) < (i : Int) + 1 by omega)
    show n % ((i : Int) + 1) ≤ (vs.length : Int)
    omega
   have pm := perm_ins js' (n % ((i : Int) + 1)).toNat (min xa xb, max xa xb)
   refine ⟨_, js'.take (n % ((i : Int) + 1)).toNat ++ (min xa xb, max xa xb) :: js'.drop (n % ((i : Int) + 1)).toNat, _, _, _, _, rfl, Same.upd (S4.trans ((same_upd n0).trans (same_upd n1))) nt, upd_same, ?_, ?_, ?_⟩
   ·exact Ps.ins (x := (min xa xb, max xa xb)) _ (D.same ((same_upd n0).trans (same_upd n1))) ht5 upd_same
   ·rw [pm.length_eq, List.length_cons, jlen]
   ·intro p hp
    rcases List.mem_cons.mp (pm.mem_iff.mp hp) with z | z
    ·subst z
     dsimp only
     omega
    ·exact jb p z
  rintro σ H4 ⟨vs, js', x9, x10, x11, x12, rfl, S4, ht4, D, jlen, jb⟩
  refine ⟨_, rfl, _, rfl, by show 2 ≤ sizeLine; decide, fun p np => ?_⟩
  have S5 := (same_upd (o := .tup [.int m, .ref t]) np)
  refine k _ (m, js') _ (s1.trans (S3.trans (S4.trans S5))) (da_mkline upd_same ((D.same S5).da (S5 _ _ ht4))) ⟨h1, h40, ?_, fun e => ?_, jb⟩
  ·show js'.length ≤ 80; omega
  ·have := inc_le js' e
   show inc js' e ≤ 60
   omega
end
end K32
namespace K32
open PySem L2 TL PyProof.Rows
def sp_line (K : PySem.W.Frag) : Sp := fun vs H Q _ => ∃ (a : Addr) (ns : List Int), vs = [.ref a] ∧ SqL K H a (ns.map V.int) ∧ NewLine K H Q
abbrev s_law_line : Stmt := top 14
theorem sc_law_line : FnScope ["_law_script", "_law_cell", "_law_many", "_law_joints", "_law_k", "_law_number", "_law_one", "_law_other_here"] ["_law_script"] (defScope s_law_line) := ⟨rfl, rfl, rfl, by decide +kernel, rfl, by decide +kernel, by decide +kernel⟩
section
variable {P : Program} {w : World} {K : PySem.W.Frag} {mg : Str → Option Value} {base : Heap} {f : Addr} {fd : FuncData}
theorem ok_law_line {f1 f2 f3 f4 : Addr} {fd1 fd2 fd3 fd4 : FuncData} (F : Fn K mg "_law_line" s_law_line ["_law_script"] f fd) (F_law_mix : Fn K mg "_law_mix" s_law_mix ["_law_cell", "_law_k"] f1 fd1) (F_law_cell_at : Fn K mg "_law_cell_at" s_law_cell_at ["_law_script", "_law_k"] f2 fd2)
  (F_law_other : Fn K mg "_law_other" s_law_other ["_law_end"] f3 fd3) (F_law_renamed : Fn K mg "_law_renamed" s_law_renamed ["_law_line_here", "_law_cell"] f4 fd4) (G_law_renamed : FnOk P w K mg base CX0 2 f4 fd4 ["_law_line_here", "_law_cell"] (sp_renamed K))
  (B : Bl mg) : FnOk P w K mg base CX0 3 f fd ["_law_script"] (sp_line K) := by
 have G_law_mix : FnOk P w K mg base CX0 1 f1 fd1 ["_law_cell", "_law_k"] sp_mix := ok_law_mix F_law_mix B
 have G_law_cell_at : FnOk P w K mg base CX0 1 f2 fd2 ["_law_script", "_law_k"] (sp_cell K) := ok_law_cell_at F_law_cell_at B
 have G_law_other : FnOk P w K mg base CX0 1 f3 fd3 ["_law_end"] sp_other := ok_law_other F_law_other
 refine F.F.ok sc_law_line (fun vs H Q E h => ?_) (fun cdv A outer s H vs Q E hr h => ?_)
 ·obtain ⟨a, ns, rfl, _⟩ := h; rfl
 ·obtain ⟨a, ns, rfl, hS, k⟩ := h
  refine ⟨_, (@pss_cons _ _ _ _ _ (@ps_set _ _ (1) _ _ _ _ sc_law_line.nd rfl (Or.inl rfl) (@pe_call _ _ _ _ _ _ _ _ _ _ _ _ _ _ _ _ G_law_cell_at (hr.mono (by decide)) rfl F_law_cell_at.m F_law_cell_at.F.kp F_law_cell_at.b .nil (@pass0 _) (@pa_cons _ _ _ _ _ (@pv _ 0 _ _ (by rfl) (by first | exact Or.inl rfl | exact Or.inr (  Or.inl rfl ) | exact Or.inr (  Or.inr rfl )) (by decide) (by decide)) (@pa_cons _ _ _ _ _ (@pe_int _ _ _ _) (@pa_nil _) (by rfl)) (by rfl)) (by decide) (by rfl) (by rfl)) (by rfl) (by first | exact .inl rfl | exact .inr rfl | assumption)) (@pss_cons _ _ _ _ _ (@ps_set _ _ (2) _ _ _ _ sc_law_line.nd rfl (Or.inl rfl) (@pe_op _ _ _ _ _ _ _ _ (@op_add _) (@pe_int _ _ _ _) (@pe_op _ _ _ _ _ _ _ _ (@op_mod _) (@pe_call _ _ _ _ _ _ _ _ _ _ _ _ _ _ _ _ G_law_mix (hr.mono (by decide)) rfl F_law_mix.m F_law_mix.F.kp F_law_mix.b .nil (@pass0 _) (@pa_cons _ _ _ _ _ (@pv _ 1 _ _ (by rfl) (by first | exact Or.inl rfl | exact Or.inr (  Or.inl rfl ) | exact Or.inr (  Or.inr rfl )) (by decide) (by decide)) (@pa_cons _ _ _ _ _ (@pe_int _ _ _ _) (@pa_nil _) (by rfl)) (by rfl)) (by decide) (by rfl) (by rfl)) (@pe_int _ _ _ _))) (by rfl) (by first | exact .inl rfl | exact .inr rfl | assumption)) (@pss_cons _ _ _ _ _ (@ps_if _ _ _ _ _ _ _ _ (pt_cmp (@pc_eqI _ _ _ _ _ (@pe_op _ _ _ _ _ _ _ _ (@op_mod _) (@pe_call _ _ _ _ _ _ _ _ _ _ _ _ _ _ _ _ G_law_mix (hr.mono (by decide)) rfl F_law_mix.m F_law_mix.F.kp F_law_mix.b .nil (@pass0 _) (@pa_cons _ _ _ _ _ (@pv _ 1 _ _ (by rfl) (by first | exact Or.inl rfl | exact Or.inr (  Or.inl rfl ) | exact Or.inr (  Or.inr rfl )) (by decide) (by decide)) (@pa_cons _ _ _ _ _ (@pe_int _ _ _ _) (@pa_nil _) (by rfl)) (by rfl)) (by decide) (by rfl) (by rfl)) (@pe_int _ _ _ _)) (@pe_int _ _ _ _))) (@pss_one _ _ _ (@ps_set _ _ (2) _ _ _ _ sc_law_line.nd rfl (Or.inl rfl) (@pe_op _ _ _ _ _ _ _ _ (@op_add _) (@pe_int _ _ _ _) (@pe_op _ _ _ _ _ _ _ _ (@op_mod _) (@pe_call _ _ _ _ _ _ _ _ _ _ _ _ _ _ _ _ G_law_mix (hr.mono (by decide)) rfl F_law_mix.m F_law_mix.F.kp F_law_mix.b .nil (@pass0 _) (@pa_cons _ _ _ _ _ (@pv _ 1 _ _ (by rfl) (by first | exact Or.inl rfl | exact Or.inr (  Or.inl rfl ) | exact Or.inr (  Or.inr rfl )) (by decide) (by decide)) (@pa_cons _ _ _ _ _ (@pe_int _ _ _ _) (@pa_nil _) (by rfl)) (by rfl)) (by decide) (by rfl) (by rfl)) (@pe_int _ _ _ _))) (by rfl) (by first | exact .inl rfl | exact .inr rfl | assumption))) (@pss_nil _)) (@pss_cons _ _ _ _ _ (@ps_set _ _ (3) _ _ _ _ sc_law_line.nd rfl (Or.inl rfl) (@pe_lst _ _ _ _ (@pa_nil _)) (by rfl) (by first | exact .inl rfl | exact .inr rfl | assumption)) (@pss_cons _ _ _ _ _ (@ps_for _ _ _ _ _ _ _ _ PassesOwn.never rfl (@pi_range1 _ _ _ _ _ _ rfl B.range (@pa_cons _ _ _ _ _ (@pe_op _ _ _ _ _ _ _ _ (@op_mod _) (@pe_call _ _ _ _ _ _ _ _ _ _ _ _ _ _ _ _ G_law_mix (hr.mono (by decide)) rfl F_law_mix.m F_law_mix.F.kp F_law_mix.b .nil (@pass0 _) (@pa_cons _ _ _ _ _ (@pv _ 1 _ _ (by rfl) (by first | exact Or.inl rfl | exact Or.inr (  Or.inl rfl ) | exact Or.inr (  Or.inr rfl )) (by decide) (by decide)) (@pa_cons _ _ _ _ _ (@pe_int _ _ _ _) (@pa_nil _) (by rfl)) (by rfl)) (by decide) (by rfl) (by rfl)) (@pe_op _ _ _ _ _ _ _ _ (@op_add _) (@pe_op _ _ _ _ _ _ _ _ (@op_mul _) (@pe_int _ _ _ _) (@pv _ 2 _ _ (by rfl) (by first | exact Or.inl rfl | exact Or.inr (  Or.inl rfl ) | exact Or.inr (  Or.inr rfl )) (by decide) (by decide))) (@pe_int _ _ _ _))) (@pa_nil _) (by rfl)) (by rfl)) (@pg_name _ _ (4) _ sc_law_line.nd rfl (Or.inl rfl) (by first | exact .inl rfl | exact .inr rfl | assumption)) (@pss_cons _ _ _ _ _ (@ps_set _ _ (5) _ _ _ _ sc_law_line.nd rfl (Or.inl rfl) (@pe_call _ _ _ _ _ _ _ _ _ _ _ _ _ _ _ _ G_law_mix (hr.mono (by decide)) rfl F_law_mix.m F_law_mix.F.kp F_law_mix.b .nil (@pass0 _) (@pa_cons _ _ _ _ _ (@pe_call _ _ _ _ _ _ _ _ _ _ _ _ _ _ _ _ G_law_cell_at (hr.mono (by decide)) rfl F_law_cell_at.m F_law_cell_at.F.kp F_law_cell_at.b .nil (@pass0 _) (@pa_cons _ _ _ _ _ (@pv _ 0 _ _ (by rfl) (by first | exact Or.inl rfl | exact Or.inr (  Or.inl rfl ) | exact Or.inr (  Or.inr rfl )) (by decide) (by decide)) (@pa_cons _ _ _ _ _ (@pe_op _ _ _ _ _ _ _ _ (@op_add _) (@pe_int _ _ _ _) (@pe_op _ _ _ _ _ _ _ _ (@op_mod _) (@pv _ 4 _ _ (by rfl) (by first | exact Or.inl rfl | exact Or.inr (  Or.inl rfl ) | exact Or.inr (  Or.inr rfl )) (by decide) (by decide)) (@pe_int _ _ _ _))) (@pa_nil _) (by rfl)) (by rfl)) (by decide) (by rfl) (by rfl)) (@pa_cons _ _ _ _ _ (@pe_op _ _ _ _ _ _ _ _ (@op_add _) (@pe_int _ _ _ _) (@pv _ 4 _ _ (by rfl) (by first | exact Or.inl rfl | exact Or.inr (  Or.inl rfl ) | exact Or.inr (  Or.inr rfl )) (by decide) (by decide))) (@pa_nil _) (by rfl)) (by rfl)) (by decide) (by rfl) (by rfl)) (by rfl) (by first | exact .inl rfl | exact .inr rfl | assumption)) (@pss_cons _ _ _ _ _ (@ps_set _ _ (6) _ _ _ _ sc_law_line.nd rfl (Or.inl rfl) (@pe_op _ _ _ _ _ _ _ _ (@op_mod _) (@pv _ 5 _ _ (by rfl) (by first | exact Or.inl rfl | exact Or.inr (  Or.inl rfl ) | exact Or.inr (  Or.inr rfl )) (by decide) (by decide)) (@pe_op _ _ _ _ _ _ _ _ (@op_mul _) (@pe_int _ _ _ _) (@pv _ 2 _ _ (by rfl) (by first | exact Or.inl rfl | exact Or.inr (  Or.inl rfl ) | exact Or.inr (  Or.inr rfl )) (by decide) (by decide)))) (by rfl) (by first | exact .inl rfl | exact .inr rfl | assumption)) (@pss_cons _ _ _ _ _ (@ps_set _ _ (7) _ _ _ _ sc_law_line.nd rfl (Or.inl rfl) (@pe_op _ _ _ _ _ _ _ _ (@op_mod _) (@pe_op _ _ _ _ _ _ _ _ (@op_fdiv _) (@pv _ 5 _ _ (by rfl) (by first | exact Or.inl rfl | exact Or.inr (  Or.inl rfl ) | exact Or.inr (  Or.inr rfl )) (by decide) (by decide)) (@pe_int _ _ _ _)) (@pe_op _ _ _ _ _ _ _ _ (@op_mul _) (@pe_int _ _ _ _) (@pv _ 2 _ _ (by rfl) (by first | exact Or.inl rfl | exact Or.inr (  Or.inl rfl ) | exact Or.inr (  Or.inr rfl )) (by decide) (by decide)))) (by rfl) (by first | exact .inl rfl | exact .inr rfl | assumption)) (@pss_cons _ _ _ _ _ (@ps_if _ _ _ _ _ _ _ _ (PW.pt (@pw_and _ _ _ _ _ _ _ (pt_cmp (@pc_eqI _ _ _ _ _ (@pe_op _ _ _ _ _ _ _ _ (@op_mod _) (@pe_call _ _ _ _ _ _ _ _ _ _ _ _ _ _ _ _ G_law_mix (hr.mono (by decide)) rfl F_law_mix.m F_law_mix.F.kp F_law_mix.b .nil (@pass0 _) (@pa_cons _ _ _ _ _ (@pv _ 1 _ _ (by rfl) (by first | exact Or.inl rfl | exact Or.inr (  Or.inl rfl ) | exact Or.inr (  Or.inr rfl )) (by decide) (by decide)) (@pa_cons _ _ _ _ _ (@pe_int _ _ _ _) (@pa_nil _) (by rfl)) (by rfl)) (by decide) (by rfl) (by rfl)) (@pe_int _ _ _ _)) (@pe_int _ _ _ _))) (@pw_and1 _ _ _ _ (pt_cmp (@pc_eqI _ _ _ _ _ (@pe_op _ _ _ _ _ _ _ _ (@op_mod _) (@pv _ 6 _ _ (by rfl) (by first | exact Or.inl rfl | exact Or.inr (  Or.inl rfl ) | exact Or.inr (  Or.inr rfl )) (by decide) (by decide)) (@pe_int _ _ _ _)) (@pe_op _ _ _ _ _ _ _ _ (@op_mod _) (@pv _ 7 _ _ (by rfl) (by first | exact Or.inl rfl | exact Or.inr (  Or.inl rfl ) | exact Or.inr (  Or.inr rfl )) (by decide) (by decide)) (@pe_int _ _ _ _))))))) (@pss_one _ _ _ (@ps_set _ _ (7) _ _ _ _ sc_law_line.nd rfl (Or.inl rfl) (@pe_call _ _ _ _ _ _ _ _ _ _ _ _ _ _ _ _ G_law_other (hr.mono (by decide)) rfl F_law_other.m F_law_other.F.kp F_law_other.b .nil (@pass0 _) (@pa_cons _ _ _ _ _ (@pv _ 7 _ _ (by rfl) (by first | exact Or.inl rfl | exact Or.inr (  Or.inl rfl ) | exact Or.inr (  Or.inr rfl )) (by decide) (by decide)) (@pa_nil _) (by rfl)) (by decide) (by rfl) (by rfl)) (by rfl) (by first | exact .inl rfl | exact .inr rfl | assumption))) (@pss_nil _)) (@pss_one _ _ _ (@ps_if _ _ _ _ _ _ _ _ (PW.pt (@pw_and _ _ _ _ _ _ _ (pt_cmp (@pc_neI _ _ _ _ _ (@pe_op _ _ _ _ _ _ _ _ (@op_fdiv _) (@pv _ 6 _ _ (by rfl) (by first | exact Or.inl rfl | exact Or.inr (  Or.inl rfl ) | exact Or.inr (  Or.inr rfl )) (by decide) (by decide)) (@pe_int _ _ _ _)) (@pe_op _ _ _ _ _ _ _ _ (@op_fdiv _) (@pv _ 7 _ _ (by rfl) (by first | exact Or.inl rfl | exact Or.inr (  Or.inl rfl ) | exact Or.inr (  Or.inr rfl )) (by decide) (by decide)) (@pe_int _ _ _ _)))) (@pw_and _ _ _ _ _ _ _ (@pt_cmpR _ _ _ _ _ _ _ _ (@op_notInD _ hr.units) (@pe_tup _ _ _ _ _ (@pa_cons _ _ _ _ _ (@pe_callB _ _ _ _ _ _ _ _ _ (@call_min2 _ rfl) rfl B.min boot_min (@pa_cons _ _ _ _ _ (@pv _ 6 _ _ (by rfl) (by first | exact Or.inl rfl | exact Or.inr (  Or.inl rfl ) | exact Or.inr (  Or.inr rfl )) (by decide) (by decide)) (@pa_cons _ _ _ _ _ (@pv _ 7 _ _ (by rfl) (by first | exact Or.inl rfl | exact Or.inr (  Or.inl rfl ) | exact Or.inr (  Or.inr rfl )) (by decide) (by decide)) (@pa_nil _) (by rfl)) (by rfl)) (by decide) (by decide) (by rfl) (by rfl)) (@pa_cons _ _ _ _ _ (@pe_callB _ _ _ _ _ _ _ _ _ (@call_max2 _ rfl) rfl B.max boot_max (@pa_cons _ _ _ _ _ (@pv _ 6 _ _ (by rfl) (by first | exact Or.inl rfl | exact Or.inr (  Or.inl rfl ) | exact Or.inr (  Or.inr rfl )) (by decide) (by decide)) (@pa_cons _ _ _ _ _ (@pv _ 7 _ _ (by rfl) (by first | exact Or.inl rfl | exact Or.inr (  Or.inl rfl ) | exact Or.inr (  Or.inr rfl )) (by decide) (by decide)) (@pa_nil _) (by rfl)) (by rfl)) (by decide) (by decide) (by rfl) (by rfl)) (@pa_nil _) (by rfl)) (by rfl))) (@pv _ 3 _ _ (by rfl) (by first | exact Or.inl rfl | exact Or.inr (  Or.inl rfl ) | exact Or.inr (  Or.inr rfl )) (by decide) (by decide)) (by with_unfolding_all rfl)) (@pw_and1 _ _ _ _ (pt_cmp (@pc_lt _ _ _ _ _ (@pe_callB _ _ _ _ _ _ _ _ _ (@call_len_seq _) rfl B.len boot_len (@pa_cons _ _ _ _ _ (@pv _ 3 _ _ (by rfl) (by first | exact Or.inl rfl | exact Or.inr (  Or.inl rfl ) | exact Or.inr (  Or.inr rfl )) (by decide) (by decide)) (@pa_nil _) (by rfl)) (by decide) (by decide) (by rfl) (by rfl)) (@pe_int _ _ _ _))))))) (@pss_one _ _ _ (@ps_expr _ _ _ _ (@pe_bm _ _ _ _ _ _ _ _ _ _ _ _ PySem.F.plainAttrs_list PySem.F.slot_list_append PySem.F.type_list_append (@mt_append _) (@pv _ 3 _ _ (by rfl) (by first | exact Or.inl rfl | exact Or.inr (  Or.inl rfl ) | exact Or.inr (  Or.inr rfl )) (by decide) (by decide)) (@pa_cons _ _ _ _ _ (@pe_tup _ _ _ _ _ (@pa_cons _ _ _ _ _ (@pe_callB _ _ _ _ _ _ _ _ _ (@call_min2 _ rfl) rfl B.min boot_min (@pa_cons _ _ _ _ _ (@pv _ 6 _ _ (by rfl) (by first | exact Or.inl rfl | exact Or.inr (  Or.inl rfl ) | exact Or.inr (  Or.inr rfl )) (by decide) (by decide)) (@pa_cons _ _ _ _ _ (@pv _ 7 _ _ (by rfl) (by first | exact Or.inl rfl | exact Or.inr (  Or.inl rfl ) | exact Or.inr (  Or.inr rfl )) (by decide) (by decide)) (@pa_nil _) (by rfl)) (by rfl)) (by decide) (by decide) (by rfl) (by rfl)) (@pa_cons _ _ _ _ _ (@pe_callB _ _ _ _ _ _ _ _ _ (@call_max2 _ rfl) rfl B.max boot_max (@pa_cons _ _ _ _ _ (@pv _ 6 _ _ (by rfl) (by first | exact Or.inl rfl | exact Or.inr (  Or.inl rfl ) | exact Or.inr (  Or.inr rfl )) (by decide) (by decide)) (@pa_cons _ _ _ _ _ (@pv _ 7 _ _ (by rfl) (by first | exact Or.inl rfl | exact Or.inr (  Or.inl rfl ) | exact Or.inr (  Or.inr rfl )) (by decide) (by decide)) (@pa_nil _) (by rfl)) (by rfl)) (by decide) (by decide) (by rfl) (by rfl)) (@pa_nil _) (by rfl)) (by rfl))) (@pa_nil _) (by rfl)) (by rfl) (by rfl) (by rfl) (by rfl) (by rfl)) (by rfl))) (@pss_nil _))))))) (by intros; rfl)) (@pss_one _ _ _ (@ps_ret _ _ _ _ (@pe_call _ _ _ _ _ _ _ _ _ _ _ _ _ _ _ _ G_law_renamed (hr.mono (by decide)) rfl F_law_renamed.m F_law_renamed.F.kp F_law_renamed.b .nil (@pass0 _) (@pa_cons _ _ _ _ _ (@pe_tup _ _ _ _ _ (@pa_cons _ _ _ _ _ (@pv _ 2 _ _ (by rfl) (by first | exact Or.inl rfl | exact Or.inr (  Or.inl rfl ) | exact Or.inr (  Or.inr rfl )) (by decide) (by decide)) (@pa_cons _ _ _ _ _ (@pv _ 3 _ _ (by rfl) (by first | exact Or.inl rfl | exact Or.inr (  Or.inl rfl ) | exact Or.inr (  Or.inr rfl )) (by decide) (by decide)) (@pa_nil _) (by rfl)) (by rfl))) (@pa_cons _ _ _ _ _ (@pe_call _ _ _ _ _ _ _ _ _ _ _ _ _ _ _ _ G_law_cell_at (hr.mono (by decide)) rfl F_law_cell_at.m F_law_cell_at.F.kp F_law_cell_at.b .nil (@pass0 _) (@pa_cons _ _ _ _ _ (@pv _ 0 _ _ (by rfl) (by first | exact Or.inl rfl | exact Or.inr (  Or.inl rfl ) | exact Or.inr (  Or.inr rfl )) (by decide) (by decide)) (@pa_cons _ _ _ _ _ (@pe_int _ _ _ _) (@pa_nil _) (by rfl)) (by rfl)) (by decide) (by rfl) (by rfl)) (@pa_nil _) (by rfl)) (by rfl)) (by decide) (by rfl) (by rfl))))))))), ?_⟩
  refine ⟨_, rfl, a, ns, 0, rfl, hS, by decide, fun cell => ?_⟩
  refine ⟨_, rfl, cell, 0, rfl, by decide, by decide, fun n1 _ _ => ⟨_, _, rfl, rfl, (by show (0 : Int) < _; decide), _, _, rfl, rfl, ?_⟩⟩
  refine ⟨_, rfl, cell, 1, rfl, by decide, by decide, fun n2 _ _ => ⟨_, _, rfl, rfl, (by show (0 : Int) < _; decide), _, _, rfl, rfl, _, rfl, ?_⟩⟩
  refine ite2 (fun _ => ?g1) (fun _ => ?g2)
  case g1 =>
   refine ⟨_, rfl, cell, 0, rfl, by decide, by decide, fun n3 _ _ => ⟨_, _, rfl, rfl, (by show (0 : Int) < _; decide), _, _, rfl, rfl, ?_⟩⟩
   dsimp only
   generalize hm : 9 + n3 % 6 = m
   have m1 : 1 ≤ m := by omega
   have m2 : m ≤ 14 := by omega
   refine ⟨Nat.zero_le _, fun t nt => ?_⟩
   refine ⟨_, rfl, cell, 2, rfl, by decide, by decide, fun n4 n40 _ => ⟨_, rfl, _, _, rfl, rfl, .inl ⟨by decide, by decide⟩, _, _, rfl, rfl, _, _, rfl, rfl, (by show (0 : Int) < 2 * m + 4; omega), ?_⟩⟩
   have q0 : 0 ≤ n4 % (2 * m + 4) := Int.emod_nonneg _ (by omega)
   have q1 : n4 % (2 * m + 4) < 2 * m + 4 := Int.emod_lt_of_pos _ (by omega)
   refine ⟨_, rfl, by show -(2 ^ 62) ≤ n4 % (2 * m + 4); omega, by show n4 % (2 * m + 4) < 2 ^ 62; omega, for_range (fun i σ H3 => ∃ (vs : List V) (js : List (Int × Int)) (x4 x5 x6 x7 : Option V), σ = [some (.ref a), some (.int cell), some (.int m), some (.ref t), x4, x5, x6, x7] ∧ Same H H3 ∧ H3 t = some (.lst vs) ∧ Ps K H3 js vs ∧ js.length ≤ 24 ∧ ∀ p ∈ js, (0 ≤ p.1 ∧ p.1 < 2 * m) ∧ (0 ≤ p.2 ∧ p.2 < 2 * m))
    ⟨[], [], none, none, none, none, rfl, same_upd nt, upd_same, dgs_nil.mpr rfl, by simp, fun p hp => (nomatch hp)⟩ ?_ ?_⟩
   ·rintro i σ H3 hi ⟨vs, js, x4, x5, x6, x7, rfl, S3, ht3, D, jl, jb⟩
    have i0 : (0 : Int) + (i : Nat) = (i : Int) := by omega
    rw [i0]
    have hi' : (i : Int) < 32 := by
     have : (i : Int) < n4 % (2 * m + 4) := by
      have h : i < (n4 % (2 * m + 4)).toNat := hi
      omega
     omega
    refine ⟨_, rfl, _, rfl, _, _, rfl, rfl, (by show (0 : Int) < _; decide), _, _, rfl, rfl, a, ns, _, rfl, S3.seq hS, by show (0 : Int) ≤ 2 + (i : Int) % 8; omega, fun c5 => ⟨_, rfl, _, _, rfl, rfl, c5, _, rfl, by show (0 : Int) ≤ 10 + (i : Int); omega, by show 10 + (i : Int) ≤ 1000; omega, fun n5 n50 n51 => ?_⟩⟩
    refine ⟨_, rfl, _, rfl, _, _, rfl, rfl, .inl ⟨by decide, by decide⟩, _, _, rfl, rfl, (by show (0 : Int) < 2 * m; omega), ?_⟩
    refine ⟨_, rfl, _, _, rfl, rfl, ⟨by decide, by decide⟩, _, rfl, _, _, rfl, rfl, .inl ⟨by decide, by decide⟩, _, _, rfl, rfl, (by show (0 : Int) < 2 * m; omega), ?_⟩
    dsimp only
    have o0 : 0 ≤ n5 % (2 * m) := Int.emod_nonneg _ (by omega)
    have o1 : n5 % (2 * m) < 2 * m := Int.emod_lt_of_pos _ (by omega)
    have r0 : 0 ≤ n5 / 64 % (2 * m) := Int.emod_nonneg _ (by omega)
    have r1 : n5 / 64 % (2 * m) < 2 * m := Int.emod_lt_of_pos _ (by omega)
    generalize n5 % (2 * m) = one at o0 o1
    generalize n5 / 64 % (2 * m) = oh at r0 r1
    refine ⟨_, rfl, cell, 3, rfl, by decide, by decide, fun n6 _ _ => ⟨_, _, rfl, rfl, (by show (0 : Int) < _; decide), _, _, rfl, rfl, _, rfl, ?_⟩⟩
    refine ite2 (fun _ => ?e1a) (fun _ => ?e2a)
    case' e1a =>
     refine ⟨_, rfl, _, _, rfl, rfl, (by show (0 : Int) < _; decide), _, rfl, _, _, rfl, rfl, (by show (0 : Int) < _; decide), _, _, rfl, rfl, _, rfl, ?_⟩
     refine ite2 (fun _ => ?e3a) (fun _ => ?e4a)
     case' e3a =>
      refine ⟨_, rfl, oh, rfl, ?_⟩
      have r0' : 0 ≤ oth oh := oth_nonneg r0
      have r1' : oth oh < 2 * m := by unfold oth; omega
      generalize oth oh = oh' at r0' r1'
     case' e4a =>
      have r0' := r0
      have r1' := r1
      generalize hh : oh = oh' at r0' r1'
    case' e2a =>
     refine iteF ?_
     have r0' := r0
     have r1' := r1
     generalize hh : oh = oh' at r0' r1'
    all_goals
     refine ⟨_, rfl, _, _, rfl, rfl, ⟨by decide, by decide⟩, _, rfl, _, _, rfl, rfl, ⟨by decide, by decide⟩, _, _, rfl, rfl, _, rfl, ?_⟩
     refine ite2 (fun hne => ?_) (fun _ => ?_)
     ·refine ⟨_, rfl, _, rfl, _, _, rfl, _, rfl, _, rfl, _, _, rfl, by show 2 ≤ sizeLine; decide, fun p1 n1 => ?_⟩
      rw [min_if, max_if]
      have ht4 := (same_upd (o := .tup [.int (min one oh'), .int (max one oh')]) n1) _ _ ht3
      have D4 := D.same (same_upd (o := .tup [.int (min one oh'), .int (max one oh')]) n1)
      refine ⟨_, rfl, _, _, D4.da ht4, dg_tuple.mpr ⟨p1, _, rfl, SqT.of upd_same, Dgs.two (dg_int.mpr rfl) (dg_int.mpr rfl)⟩, okDs_P js, okD_P (_, _), _, rfl, ?_⟩
      refine ite2 (fun _ => ?_) (fun _ => ?_)
      ·refine ⟨_, rfl, t, _, rfl, .inl (SqL.of ht4), _, _, rfl, rfl, _, rfl, ?_⟩
       refine ite2 (fun hlt => ?_) (fun _ => ?_)
       ·have hlt : (vs.length : Int) < 24 := by simpa using hlt
        have vl := D.len
        refine ⟨_, rfl, .inl ⟨rfl, _, SqL.of ht4⟩, _, rfl, _, rfl, _, _, rfl, _, rfl, _, rfl, _, _, rfl, by show 2 ≤ sizeLine; decide, fun p2 n2 => ?_⟩
        rw [min_if, max_if]
        have S5 := (same_upd n1).trans (same_upd (o := .tup [.int (min one oh'), .int (max one oh')]) n2)
        refine ⟨t, vs, _, rfl, rfl, S5 _ _ ht3, small_l (by omega), ?_⟩
        refine ⟨_, js ++ [(min one oh', max one oh')], _, _, _, _, rfl, Same.upd (S3.trans S5) nt, upd_same, Ps.push (x := (min one oh', max one oh')) (D.same S5) (S5 _ _ ht3) upd_same, ?_, ?_⟩
        ·rw [List.length_append]; show js.length + 1 ≤ 24; omega
        ·intro p hp
         rcases List.mem_append.mp hp with z | z
         ·exact jb p z
         ·have z : p = (min one oh', max one oh') := by simpa using z
          subst z
          dsimp only
          omega
       ·exact ⟨vs, js, _, _, _, _, rfl, S3.trans (same_upd n1), ht4, D4, jl, jb⟩
      ·exact iteF ⟨vs, js, _, _, _, _, rfl, S3.trans (same_upd n1), ht4, D4, jl, jb⟩
     ·exact iteF ⟨vs, js, _, _, _, _, rfl, S3, ht3, D, jl, jb⟩
   ·rintro σ H3 ⟨vs, js, x4, x5, x6, x7, rfl, S3, ht3, D, jl, jb⟩
    refine ⟨_, rfl, _, rfl, by show 2 ≤ sizeLine; decide, fun p np => ?_⟩
    have S4 := same_upd (o := .tup [.int m, .ref t]) np
    refine ⟨_, rfl, a, ns, 1, rfl, (S3.trans S4).seq hS, by decide, fun c7 => ?_⟩
    refine ⟨_, (m, js), c7, rfl, da_mkline upd_same ((D.same S4).da (S4 _ _ ht3)), m1, by omega, jl, jb, fun v l H' s5 d5 o5 => k v l H' (S3.trans (S4.trans s5)) d5 o5⟩
  case g2 =>
   dsimp only
   generalize hm : 1 + n1 % 8 = m
   have m1 : 1 ≤ m := by omega
   have m2 : m ≤ 14 := by omega
   refine ⟨Nat.zero_le _, fun t nt => ?_⟩
   refine ⟨_, rfl, cell, 2, rfl, by decide, by decide, fun n4 n40 _ => ⟨_, rfl, _, _, rfl, rfl, .inl ⟨by decide, by decide⟩, _, _, rfl, rfl, _, _, rfl, rfl, (by show (0 : Int) < 2 * m + 4; omega), ?_⟩⟩
   have q0 : 0 ≤ n4 % (2 * m + 4) := Int.emod_nonneg _ (by omega)
   have q1 : n4 % (2 * m + 4) < 2 * m + 4 := Int.emod_lt_of_pos _ (by omega)
   refine ⟨_, rfl, by show -(2 ^ 62) ≤ n4 % (2 * m + 4); omega, by show n4 % (2 * m + 4) < 2 ^ 62; omega, for_range (fun i σ H3 => ∃ (vs : List V) (js : List (Int × Int)) (x4 x5 x6 x7 : Option V), σ = [some (.ref a), some (.int cell), some (.int m), some (.ref t), x4, x5, x6, x7] ∧ Same H H3 ∧ H3 t = some (.lst vs) ∧ Ps K H3 js vs ∧ js.length ≤ 24 ∧ ∀ p ∈ js, (0 ≤ p.1 ∧ p.1 < 2 * m) ∧ (0 ≤ p.2 ∧ p.2 < 2 * m))
    ⟨[], [], none, none, none, none, rfl, same_upd nt, upd_same, dgs_nil.mpr rfl, by simp, fun p hp => (nomatch hp)⟩ ?_ ?_⟩
   ·rintro i σ H3 hi ⟨vs, js, x4, x5, x6, x7, rfl, S3, ht3, D, jl, jb⟩
    have i0 : (0 : Int) + (i : Nat) = (i : Int) := by omega
    rw [i0]
    have hi' : (i : Int) < 32 := by
     have : (i : Int) < n4 % (2 * m + 4) := by
      have h : i < (n4 % (2 * m + 4)).toNat := hi
      omega
     omega
    refine ⟨_, rfl, _, rfl, _, _, rfl, rfl, (by show (0 : Int) < _; decide), _, _, rfl, rfl, a, ns, _, rfl, S3.seq hS, by show (0 : Int) ≤ 2 + (i : Int) % 8; omega, fun c5 => ⟨_, rfl, _, _, rfl, rfl, c5, _, rfl, by show (0 : Int) ≤ 10 + (i : Int); omega, by show 10 + (i : Int) ≤ 1000; omega, fun n5 n50 n51 => ?_⟩⟩
    refine ⟨_, rfl, _, rfl, _, _, rfl, rfl, .inl ⟨by decide, by decide⟩, _, _, rfl, rfl, (by show (0 : Int) < 2 * m; omega), ?_⟩
    refine ⟨_, rfl, _, _, rfl, rfl, ⟨by decide, by decide⟩, _, rfl, _, _, rfl, rfl, .inl ⟨by decide, by decide⟩, _, _, rfl, rfl, (by show (0 : Int) < 2 * m; omega), ?_⟩
    dsimp only
    have o0 : 0 ≤ n5 % (2 * m) := Int.emod_nonneg _ (by omega)
    have o1 : n5 % (2 * m) < 2 * m := Int.emod_lt_of_pos _ (by omega)
    have r0 : 0 ≤ n5 / 64 % (2 * m) := Int.emod_nonneg _ (by omega)
    have r1 : n5 / 64 % (2 * m) < 2 * m := Int.emod_lt_of_pos _ (by omega)
    generalize n5 % (2 * m) = one at o0 o1
    generalize n5 / 64 % (2 * m) = oh at r0 r1
    refine ⟨_, rfl, cell, 3, rfl, by decide, by decide, fun n6 _ _ => ⟨_, _, rfl, rfl, (by show (0 : Int) < _; decide), _, _, rfl, rfl, _, rfl, ?_⟩⟩
    refine ite2 (fun _ => ?e1b) (fun _ => ?e2b)
    case' e1b =>
     refine ⟨_, rfl, _, _, rfl, rfl, (by show (0 : Int) < _; decide), _, rfl, _, _, rfl, rfl, (by show (0 : Int) < _; decide), _, _, rfl, rfl, _, rfl, ?_⟩
     refine ite2 (fun _ => ?e3b) (fun _ => ?e4b)
     case' e3b =>
      refine ⟨_, rfl, oh, rfl, ?_⟩
      have r0' : 0 ≤ oth oh := oth_nonneg r0
      have r1' : oth oh < 2 * m := by unfold oth; omega
      generalize oth oh = oh' at r0' r1'
     case' e4b =>
      have r0' := r0
      have r1' := r1
      generalize hh : oh = oh' at r0' r1'
    case' e2b =>
     refine iteF ?_
     have r0' := r0
     have r1' := r1
     generalize hh : oh = oh' at r0' r1'
    all_goals
     refine ⟨_, rfl, _, _, rfl, rfl, ⟨by decide, by decide⟩, _, rfl, _, _, rfl, rfl, ⟨by decide, by decide⟩, _, _, rfl, rfl, _, rfl, ?_⟩
     refine ite2 (fun hne => ?_) (fun _ => ?_)
     ·refine ⟨_, rfl, _, rfl, _, _, rfl, _, rfl, _, rfl, _, _, rfl, by show 2 ≤ sizeLine; decide, fun p1 n1 => ?_⟩
      rw [min_if, max_if]
      have ht4 := (same_upd (o := .tup [.int (min one oh'), .int (max one oh')]) n1) _ _ ht3
      have D4 := D.same (same_upd (o := .tup [.int (min one oh'), .int (max one oh')]) n1)
      refine ⟨_, rfl, _, _, D4.da ht4, dg_tuple.mpr ⟨p1, _, rfl, SqT.of upd_same, Dgs.two (dg_int.mpr rfl) (dg_int.mpr rfl)⟩, okDs_P js, okD_P (_, _), _, rfl, ?_⟩
      refine ite2 (fun _ => ?_) (fun _ => ?_)
      ·refine ⟨_, rfl, t, _, rfl, .inl (SqL.of ht4), _, _, rfl, rfl, _, rfl, ?_⟩
       refine ite2 (fun hlt => ?_) (fun _ => ?_)
       ·have hlt : (vs.length : Int) < 24 := by simpa using hlt
        have vl := D.len
        refine ⟨_, rfl, .inl ⟨rfl, _, SqL.of ht4⟩, _, rfl, _, rfl, _, _, rfl, _, rfl, _, rfl, _, _, rfl, by show 2 ≤ sizeLine; decide, fun p2 n2 => ?_⟩
        rw [min_if, max_if]
        have S5 := (same_upd n1).trans (same_upd (o := .tup [.int (min one oh'), .int (max one oh')]) n2)
        refine ⟨t, vs, _, rfl, rfl, S5 _ _ ht3, small_l (by omega), ?_⟩
        refine ⟨_, js ++ [(min one oh', max one oh')], _, _, _, _, rfl, Same.upd (S3.trans S5) nt, upd_same, Ps.push (x := (min one oh', max one oh')) (D.same S5) (S5 _ _ ht3) upd_same, ?_, ?_⟩
        ·rw [List.length_append]; show js.length + 1 ≤ 24; omega
        ·intro p hp
         rcases List.mem_append.mp hp with z | z
         ·exact jb p z
         ·have z : p = (min one oh', max one oh') := by simpa using z
          subst z
          dsimp only
          omega
       ·exact ⟨vs, js, _, _, _, _, rfl, S3.trans (same_upd n1), ht4, D4, jl, jb⟩
      ·exact iteF ⟨vs, js, _, _, _, _, rfl, S3.trans (same_upd n1), ht4, D4, jl, jb⟩
     ·exact iteF ⟨vs, js, _, _, _, _, rfl, S3, ht3, D, jl, jb⟩
   ·rintro σ H3 ⟨vs, js, x4, x5, x6, x7, rfl, S3, ht3, D, jl, jb⟩
    refine ⟨_, rfl, _, rfl, by show 2 ≤ sizeLine; decide, fun p np => ?_⟩
    have S4 := same_upd (o := .tup [.int m, .ref t]) np
    refine ⟨_, rfl, a, ns, 1, rfl, (S3.trans S4).seq hS, by decide, fun c7 => ?_⟩
    refine ⟨_, (m, js), c7, rfl, da_mkline upd_same ((D.same S4).da (S4 _ _ ht3)), m1, by omega, jl, jb, fun v l H' s5 d5 o5 => k v l H' (S3.trans (S4.trans s5)) d5 o5⟩
end
end K32
namespace K32
open PySem L2 TL PyProof.Rows
def sp_joined (K : PySem.W.Frag) : Sp := fun vs H Q _ => ∃ (v : V) (l : Int × List (Int × Int)) (e : Int), vs = [v, .int e] ∧ Da K H (dL l) v ∧ LineOk l ∧ NewInts H (jn l.2 e) Q
abbrev s_joined : Stmt := top 3
theorem sc_joined : FnScope ["line", "end", "joints", "above", "below"] ["line", "end"] (defScope s_joined) := ⟨rfl, rfl, rfl, by decide +kernel, rfl, by decide +kernel, by decide +kernel⟩
theorem cc_joined_0 : CompOk (defScope s_joined) ["line", "end", "joints", "above", "below"] { kind := .function, names := [(Str.ofString ".0", .local), (Str.ofString "low", .local), (Str.ofString "high", .local), (Str.ofString "end", .free)], isGenerator := false, isCoroutine := false, more := [] } ["low", "high", "end"] 2 [none, none, some 1] := ⟨rfl, by decide +kernel, by decide +kernel, by decide +kernel, rfl, by decide +kernel, rfl, by decide +kernel⟩
theorem cc_joined_1 : CompOk (defScope s_joined) ["line", "end", "joints", "above", "below"] { kind := .function, names := [(Str.ofString ".0", .local), (Str.ofString "low", .local), (Str.ofString "high", .local), (Str.ofString "end", .free)], isGenerator := false, isCoroutine := false, more := [] } ["low", "high", "end"] 2 [none, none, some 1] := ⟨rfl, by decide +kernel, by decide +kernel, by decide +kernel, rfl, by decide +kernel, rfl, by decide +kernel⟩
theorem small_line {n : Nat} (h : n ≤ 1000) : n < sizeLine := Nat.lt_of_le_of_lt h (by decide)
theorem das_ints_len {K : PySem.W.Frag} {H : Hp} {js : List (Int × Int)} {vs : List V} (h : Das K H (js.map dP) vs) : vs.length = js.length := by rw [Dgs.length h, List.length_map]
section
variable {P : Program} {w : World} {K : PySem.W.Frag} {mg : Str → Option Value} {base : Heap} {f : Addr} {fd : FuncData}
theorem below_len {l : Int × List (Int × Int)} (h : LineOk l) (e : Int) : (below l.2 e).length + (above l.2 e).length ≤ 60 := h.inc e
theorem ok_joined (F : Fn K mg "joined" s_joined ["line", "end"] f fd) (B : Bl mg) : FnOk P w K mg base CX0 1 f fd ["line", "end"] (sp_joined K) := by
 refine F.F.ok sc_joined (fun vs H Q E h => ?_) (fun cdv A outer s H vs Q E hr h => ?_)
 ·obtain ⟨v, l, e, rfl, _⟩ := h; rfl
 ·obtain ⟨v, l, e, rfl, hv, ok, k⟩ := h
  obtain ⟨a, b, rfl, ht, us, hl, hq⟩ := da_line hv
  have hlen := das_ints_len hq
  have hz : us.length < sizeLine := small_line (by rw [hlen]; have := ok.len; omega)
  refine ⟨_, (@pss_cons _ _ _ _ _ (@ps_set _ _ (2) _ _ _ _ sc_joined.nd rfl (Or.inl rfl) (@pe_ix _ _ _ _ _ _ _ (@ix_tup _) (@pv _ 0 _ _ (by rfl) (by first | exact Or.inl rfl | exact Or.inr (  Or.inl rfl ) | exact Or.inr (  Or.inr rfl )) (by decide) (by decide)) (@pe_int _ _ _ _) (fun _ _ => rfl)) (by rfl) (by first | exact .inl rfl | exact .inr rfl | assumption)) (@pss_cons _ _ _ _ _ (@ps_lc _ _ _ _ _ _ _ _ _ _ _ _ _ _ (3) _ _ _ sc_joined.nd rfl rfl (@pi_list _ _ _ _ (@pv _ 2 _ _ (by rfl) (by first | exact Or.inl rfl | exact Or.inr (  Or.inl rfl ) | exact Or.inr (  Or.inr rfl )) (by decide) (by decide))) rfl cc_joined_0 (.tup (.cons (.name (by decide)) (.cons (.name (by decide)) .nil))) (fun _ _ _ _ => (@pg_tup _ _ _ _ _ (2) rfl (@pgs_cons _ _ _ _ _ (@pg_name _ _ (0) _ cc_joined_0.nd rfl (Or.inl rfl) (by first | exact .inl rfl | exact .inr rfl | assumption)) (@pgs_cons _ _ _ _ _ (@pg_name _ _ (1) _ cc_joined_0.nd rfl (Or.inl rfl) (by first | exact .inl rfl | exact .inr rfl | assumption)) (@pgs_nil _) (by rfl)) (by rfl)) (by rfl) (by rfl))) (fun _ _ _ _ => (@pifs_one _ _ _ (pt_cmp (@pc_eqI _ _ _ _ _ (@pv _ 0 _ _ (by rfl) (by first | exact Or.inl rfl | exact Or.inr (  Or.inl rfl ) | exact Or.inr (  Or.inr rfl )) (by decide) (by decide)) (@pv _ 2 _ _ (by rfl) (by first | exact Or.inl rfl | exact Or.inr (  Or.inl rfl ) | exact Or.inr (  Or.inr rfl )) (by decide) (by decide)))))) (fun _ _ _ _ => (@pv _ 1 _ _ (by rfl) (by first | exact Or.inl rfl | exact Or.inr (  Or.inl rfl ) | exact Or.inr (  Or.inr rfl )) (by decide) (by decide))) (by rfl) (by intros; rfl)) (@pss_cons _ _ _ _ _ (@ps_lc _ _ _ _ _ _ _ _ _ _ _ _ _ _ (4) _ _ _ sc_joined.nd rfl rfl (@pi_list _ _ _ _ (@pv _ 2 _ _ (by rfl) (by first | exact Or.inl rfl | exact Or.inr (  Or.inl rfl ) | exact Or.inr (  Or.inr rfl )) (by decide) (by decide))) rfl cc_joined_1 (.tup (.cons (.name (by decide)) (.cons (.name (by decide)) .nil))) (fun _ _ _ _ => (@pg_tup _ _ _ _ _ (2) rfl (@pgs_cons _ _ _ _ _ (@pg_name _ _ (0) _ cc_joined_1.nd rfl (Or.inl rfl) (by first | exact .inl rfl | exact .inr rfl | assumption)) (@pgs_cons _ _ _ _ _ (@pg_name _ _ (1) _ cc_joined_1.nd rfl (Or.inl rfl) (by first | exact .inl rfl | exact .inr rfl | assumption)) (@pgs_nil _) (by rfl)) (by rfl)) (by rfl) (by rfl))) (fun _ _ _ _ => (@pifs_one _ _ _ (pt_cmp (@pc_eqI _ _ _ _ _ (@pv _ 1 _ _ (by rfl) (by first | exact Or.inl rfl | exact Or.inr (  Or.inl rfl ) | exact Or.inr (  Or.inr rfl )) (by decide) (by decide)) (@pv _ 2 _ _ (by rfl) (by first | exact Or.inl rfl | exact Or.inr (  Or.inl rfl ) | exact Or.inr (  Or.inr rfl )) (by decide) (by decide)))))) (fun _ _ _ _ => (@pv _ 0 _ _ (by rfl) (by first | exact Or.inl rfl | exact Or.inr (  Or.inl rfl ) | exact Or.inr (  Or.inr rfl )) (by decide) (by decide))) (by rfl) (by intros; rfl)) (@pss_one _ _ _ (@ps_ret _ _ _ _ (@pe_callB _ _ _ _ _ _ _ _ _ (@call_sorted _) rfl B.sorted boot_sorted (@pa_cons _ _ _ _ _ (@pe_op _ _ _ _ _ _ _ _ (@op_cat _) (@pv _ 4 _ _ (by rfl) (by first | exact Or.inl rfl | exact Or.inr (  Or.inl rfl ) | exact Or.inr (  Or.inr rfl )) (by decide) (by decide)) (@pv _ 3 _ _ (by rfl) (by first | exact Or.inl rfl | exact Or.inr (  Or.inl rfl ) | exact Or.inr (  Or.inr rfl )) (by decide) (by decide))) (@pa_nil _) (by rfl)) (by decide) (by decide) (by rfl) (by rfl))))))), ?_⟩
  refine ⟨_, rfl, a, _, _, _, rfl, rfl, ht, rfl, ?_⟩
  refine ⟨_, rfl, b, rfl, ⟨us, hl⟩, fun l1 n1 => lc_pure l.2 (fun p => decide (p.1 = e)) (fun p => V.int p.2) n1 hl hlen hz ?_ ?_⟩
  ·intro i x d H' hx hd sm P1 P0 k1 k0
   obtain ⟨ad, p, e1, rfl, hp⟩ := das_pair (Das.same sm hq) hx
   rw [hd] at e1; cases e1
   refine ⟨ad, _, rfl, hp, rfl, _, _, rfl, _, _, rfl, rfl, _, rfl, _, rfl, _, _, rfl, rfl, _, rfl, ite2 (fun h => ⟨_, rfl, k1 h⟩) (fun h => k0 (by simpa using h))⟩
  have s1 : Same H (upd H l1 (.lst (above l.2 e |>.map V.int))) := same_upd n1
  have e1 : ((l.2.filter fun p => decide (p.1 = e)).map fun p => V.int p.2) = (above l.2 e).map V.int := by unfold above; rw [List.map_map]; rfl
  rw [e1]
  refine ⟨_, rfl, b, rfl, ⟨us, s1.seq hl⟩, fun l2 n2 => lc_pure l.2 (fun p => decide (p.2 = e)) (fun p => V.int p.1) n2 (s1.seq hl) hlen hz ?_ ?_⟩
  ·intro i x d H' hx hd sm P1 P0 k1 k0
   obtain ⟨ad, p, e1, rfl, hp⟩ := das_pair (Das.same (s1.trans sm) hq) hx
   rw [hd] at e1; cases e1
   refine ⟨ad, _, rfl, hp, rfl, _, _, rfl, _, _, rfl, rfl, _, rfl, _, rfl, _, _, rfl, rfl, _, rfl, ite2 (fun h => ⟨_, rfl, k1 h⟩) (fun h => k0 (by simpa using h))⟩
  have e2 : ((l.2.filter fun p => decide (p.2 = e)).map fun p => V.int p.1) = (below l.2 e).map V.int := by unfold below; rw [List.map_map]; rfl
  rw [e2]
  have g1 : (upd (upd H l1 (.lst (above l.2 e |>.map V.int))) l2 (.lst (below l.2 e |>.map V.int))) l1 = some (.lst (above l.2 e |>.map V.int)) := by
   rw [upd_ne (ne_of_none upd_same n2), upd_same]
  have hb := below_len ok e
  have s2 : Same H (upd (upd H l1 (.lst (above l.2 e |>.map V.int))) l2 (.lst (below l.2 e |>.map V.int))) := s1.trans (same_upd n2)
  refine ⟨_, rfl, _, rfl, l2, l1, _, _, rfl, rfl, upd_same, g1, Nat.le_of_lt (small_line (by rw [List.length_map, List.length_map]; omega)), fun p hp => ?_⟩
  refine ⟨p, below l.2 e ++ above l.2 e, rfl, SqL.of (by rw [upd_same, List.map_append]), (by rw [List.length_append]; omega), fun p2 hp2 => ?_⟩
  refine k p2 _ (s2.trans ((same_upd hp).trans (same_upd hp2))) (Same.free (s2.trans (same_upd hp)) hp2) upd_same
end
end K32
namespace K32
open PySem L2 TL PyProof.Rows
def sp_hang (K : PySem.W.Frag) : Sp := fun vs H Q _ => ∃ (v : V) (l : Int × List (Int × Int)) (e : Int), vs = [v, .int e] ∧ Da K H (dL l) v ∧ LineOk l ∧ 0 ≤ e ∧ e < l.1 ∧ ∀ ns, Hang l.2 e ns → NewInts H ns Q
abbrev s_hang_together : Stmt := top 4
theorem sc_hang_together : FnScope ["line", "piece", "found", "waiting", "here", "end", "there"] ["line", "piece"] (defScope s_hang_together) := ⟨rfl, rfl, rfl, by decide +kernel, rfl, by decide +kernel, by decide +kernel⟩
section
variable {P : Program} {w : World} {K : PySem.W.Frag} {mg : Str → Option Value} {base : Heap} {f : Addr} {fd : FuncData}
theorem ok_hang_together {f1 f2 : Addr} {fd1 fd2 : FuncData} (F : Fn K mg "hang_together" s_hang_together ["line", "piece"] f fd) (B : Bl mg) (F_joined : Fn K mg "joined" s_joined ["line", "end"] f1 fd1) (F_piece_of : Fn K mg "piece_of" s_piece_of ["end"] f2 fd2) :
  FnOk P w K mg base CX0 2 f fd ["line", "piece"] (sp_hang K) := by
 have G_joined : FnOk P w K mg base CX0 1 f1 fd1 ["line", "end"] (sp_joined K) := ok_joined F_joined B
 have G_piece_of : FnOk P w K mg base CX0 1 f2 fd2 ["end"] sp_half := ok_piece_of F_piece_of
 refine F.F.okC sc_hang_together (fun vs H Q E h => ?_) (fun cdv A outer s H vs Q E hcd hr h => ?_)
 ·obtain ⟨v, l, e, rfl, _⟩ := h; rfl
 ·obtain ⟨v, l, pc, rfl, hv, ok, p0, p1, k⟩ := h
  refine ⟨_, (@pss_cons _ _ _ _ _ (@ps_set _ _ (2) _ _ _ _ sc_hang_together.nd rfl (Or.inl rfl) (pe_set1 hcd (@pv _ 1 _ _ (by rfl) (by first | exact Or.inl rfl | exact Or.inr (  Or.inl rfl ) | exact Or.inr (  Or.inr rfl )) (by decide) (by decide))) (by rfl) (by first | exact .inl rfl | exact .inr rfl | assumption)) (@pss_cons _ _ _ _ _ (@ps_set _ _ (3) _ _ _ _ sc_hang_together.nd rfl (Or.inl rfl) (@pe_lst _ _ _ _ (@pa_cons _ _ _ _ _ (@pv _ 1 _ _ (by rfl) (by first | exact Or.inl rfl | exact Or.inr (  Or.inl rfl ) | exact Or.inr (  Or.inr rfl )) (by decide) (by decide)) (@pa_nil _) (by rfl))) (by rfl) (by first | exact .inl rfl | exact .inr rfl | assumption)) (@pss_cons _ _ _ _ _ (@ps_while _ _ _ _ _ _ PassesOwn.never (@pt_truth _ _ _ (@pv _ 3 _ _ (by rfl) (by first | exact Or.inl rfl | exact Or.inr (  Or.inl rfl ) | exact Or.inr (  Or.inr rfl )) (by decide) (by decide)) (fun _ => rfl)) (@pss_cons _ _ _ _ _ (@ps_set _ _ (4) _ _ _ _ sc_hang_together.nd rfl (Or.inl rfl) (@pe_bm0 _ _ _ _ _ _ _ _ _ PySem.F.plainAttrs_list PySem.F.slot_list_pop PySem.F.type_list_pop (@mt_pop _) (@pv _ 3 _ _ (by rfl) (by first | exact Or.inl rfl | exact Or.inr (  Or.inl rfl ) | exact Or.inr (  Or.inr rfl )) (by decide) (by decide)) (by rfl) (by rfl)) (by rfl) (by first | exact .inl rfl | exact .inr rfl | assumption)) (@pss_one _ _ _ (@ps_for _ _ _ _ _ _ _ _ PassesOwn.never rfl (@pi_list _ _ _ _ (@pe_op _ _ _ _ _ _ _ _ (@op_cat _) (@pe_call _ _ _ _ _ _ _ _ _ _ _ _ _ _ _ _ G_joined (hr.mono (by decide)) rfl F_joined.m F_joined.F.kp F_joined.b .nil (@pass0 _) (@pa_cons _ _ _ _ _ (@pv _ 0 _ _ (by rfl) (by first | exact Or.inl rfl | exact Or.inr (  Or.inl rfl ) | exact Or.inr (  Or.inr rfl )) (by decide) (by decide)) (@pa_cons _ _ _ _ _ (@pe_op _ _ _ _ _ _ _ _ (@op_mul _) (@pe_int _ _ _ _) (@pv _ 4 _ _ (by rfl) (by first | exact Or.inl rfl | exact Or.inr (  Or.inl rfl ) | exact Or.inr (  Or.inr rfl )) (by decide) (by decide))) (@pa_nil _) (by rfl)) (by rfl)) (by decide) (by rfl) (by rfl)) (@pe_call _ _ _ _ _ _ _ _ _ _ _ _ _ _ _ _ G_joined (hr.mono (by decide)) rfl F_joined.m F_joined.F.kp F_joined.b .nil (@pass0 _) (@pa_cons _ _ _ _ _ (@pv _ 0 _ _ (by rfl) (by first | exact Or.inl rfl | exact Or.inr (  Or.inl rfl ) | exact Or.inr (  Or.inr rfl )) (by decide) (by decide)) (@pa_cons _ _ _ _ _ (@pe_op _ _ _ _ _ _ _ _ (@op_add _) (@pe_op _ _ _ _ _ _ _ _ (@op_mul _) (@pe_int _ _ _ _) (@pv _ 4 _ _ (by rfl) (by first | exact Or.inl rfl | exact Or.inr (  Or.inl rfl ) | exact Or.inr (  Or.inr rfl )) (by decide) (by decide))) (@pe_int _ _ _ _)) (@pa_nil _) (by rfl)) (by rfl)) (by decide) (by rfl) (by rfl)))) (@pg_name _ _ (5) _ sc_hang_together.nd rfl (Or.inl rfl) (by first | exact .inl rfl | exact .inr rfl | assumption)) (@pss_cons _ _ _ _ _ (@ps_set _ _ (6) _ _ _ _ sc_hang_together.nd rfl (Or.inl rfl) (@pe_call _ _ _ _ _ _ _ _ _ _ _ _ _ _ _ _ G_piece_of (hr.mono (by decide)) rfl F_piece_of.m F_piece_of.F.kp F_piece_of.b .nil (@pass0 _) (@pa_cons _ _ _ _ _ (@pv _ 5 _ _ (by rfl) (by first | exact Or.inl rfl | exact Or.inr (  Or.inl rfl ) | exact Or.inr (  Or.inr rfl )) (by decide) (by decide)) (@pa_nil _) (by rfl)) (by decide) (by rfl) (by rfl)) (by rfl) (by first | exact .inl rfl | exact .inr rfl | assumption)) (@pss_one _ _ _ (@ps_if _ _ _ _ _ _ _ _ (@pt_cmpR _ _ _ _ _ _ _ _ op_notInI (@pv _ 6 _ _ (by rfl) (by first | exact Or.inl rfl | exact Or.inr (  Or.inl rfl ) | exact Or.inr (  Or.inr rfl )) (by decide) (by decide)) (@pv _ 2 _ _ (by rfl) (by first | exact Or.inl rfl | exact Or.inr (  Or.inl rfl ) | exact Or.inr (  Or.inr rfl )) (by decide) (by decide)) (by with_unfolding_all rfl)) (@pss_cons _ _ _ _ _ (@ps_expr _ _ _ _ (pe_bmI PySem.F.slot_set_add PySem.F.type_set_add mt_saddI (@pv _ 2 _ _ (by rfl) (by first | exact Or.inl rfl | exact Or.inr (  Or.inl rfl ) | exact Or.inr (  Or.inr rfl )) (by decide) (by decide)) (@pa_cons _ _ _ _ _ (@pv _ 6 _ _ (by rfl) (by first | exact Or.inl rfl | exact Or.inr (  Or.inl rfl ) | exact Or.inr (  Or.inr rfl )) (by decide) (by decide)) (@pa_nil _) (by rfl))) (by rfl)) (@pss_one _ _ _ (@ps_expr _ _ _ _ (@pe_bm _ _ _ _ _ _ _ _ _ _ _ _ PySem.F.plainAttrs_list PySem.F.slot_list_append PySem.F.type_list_append (@mt_append _) (@pv _ 3 _ _ (by rfl) (by first | exact Or.inl rfl | exact Or.inr (  Or.inl rfl ) | exact Or.inr (  Or.inr rfl )) (by decide) (by decide)) (@pa_cons _ _ _ _ _ (@pv _ 6 _ _ (by rfl) (by first | exact Or.inl rfl | exact Or.inr (  Or.inl rfl ) | exact Or.inr (  Or.inr rfl )) (by decide) (by decide)) (@pa_nil _) (by rfl)) (by rfl) (by rfl) (by rfl) (by rfl) (by rfl)) (by rfl)))) (@pss_nil _)))) (by intros; rfl))))) (@pss_one _ _ _ (@ps_ret _ _ _ _ (@pe_callB _ _ _ _ _ _ _ _ _ (call_sortedI rfl) rfl B.sorted boot_sorted (@pa_cons _ _ _ _ _ (@pv _ 2 _ _ (by rfl) (by first | exact Or.inl rfl | exact Or.inr (  Or.inl rfl ) | exact Or.inr (  Or.inr rfl )) (by decide) (by decide)) (@pa_nil _) (by rfl)) (by decide) (by decide) (by rfl) (by rfl))))))), ?_⟩
  refine fun pf nf => ⟨_, rfl, pc, rfl, upd_same, ?_⟩
  rw [upd_self]
  generalize hh1 : upd H pf (SetI _ pf [pc]) = H1
  have S1 : Same H H1 := by rw [← hh1]; exact same_upd nf
  have hf1 : H1 pf = some (SetI w pf [pc]) := by rw [← hh1]; exact upd_same
  clear hh1
  refine ⟨_, rfl, by show 1 ≤ sizeLine; decide, fun pw nw => ?_⟩
  have S2 := S1.trans (same_upd (o := .lst [.int pc]) nw)
  have nw0 : H pw = none := Same.free S1 nw
  have hne : pf ≠ pw := ne_of_none hf1 nw
  dsimp only [gName]
  show tWhile _ _ _ _ _
  refine while_ix (fun n σ H3 => ∃ (ks ws : List Int) (x4 x5 x6 : Option V), σ = [some v, some (.int pc), some (.ref pf), some (.ref pw), x4, x5, x6] ∧ Same H H3 ∧ H3 pf = some (SetI w pf ks) ∧ H3 pw = some (.lst (ws.map V.int)) ∧
    ks.Nodup ∧ pc ∈ ks ∧ (∀ q ∈ ks, Cn l.2 pc q) ∧ (∀ q ∈ ws, q ∈ ks) ∧ (∀ q ∈ ks, q ∉ ws → ∀ b, Adj l.2 q b → b ∈ ks) ∧ n = 2 * (l.1.toNat - ks.length) + ws.length ∧ 2 * (l.1.toNat - ks.length) + ws.length ≤ 100) (2 * (l.1.toNat - 1) + 1)
   ⟨[pc], [pc], none, none, none, rfl, S2, by rw [upd_ne hne]; exact hf1, upd_same, by simp, by simp, fun q hq => by simp at hq; subst hq; exact .refl, fun q hq => hq, fun q hq hn => absurd hq hn, rfl, by have := ok.most; show 2 * (l.1.toNat - 1) + 1 ≤ 100; omega⟩ ?_ (fun σ H Q Q' hm h => ?_)
  ·rintro n σ H3 ⟨ks, ws, x4, x5, x6, rfl, S3, hf3, hw3, nd, hpc, hcn, hws, hcl, rfl, h100⟩
   have kb : ks.length ≤ l.1.toNat := nodup_bound nd fun q hq => (hcn q hq).bound ok ⟨p0, p1⟩
   have l40 := ok.most
   refine ⟨_, rfl, _, .inl ⟨_, SqL.of hw3, rfl⟩, ite2 (fun h => ?_) (fun h => ?_)⟩
   ·have h : ws ≠ [] := by simpa using h
    obtain ⟨ws, here, rfl⟩ : ∃ ws' here, ws = ws' ++ [here] := ⟨ws.dropLast, ws.getLast h, (List.dropLast_concat_getLast h).symm⟩
    have hh : here ∈ ks := hws here (by simp)
    have hb := (hcn here hh).bound ok ⟨p0, p1⟩
    have h100' : 2 * (l.1.toNat - ks.length) + ws.length ≤ 100 := by rw [List.length_append, List.length_singleton] at h100; omega
    refine ⟨_, rfl, .inl ⟨rfl, _, SqL.of hw3⟩, pw, _, .int here, rfl, rfl, hw3, ?_, ?_⟩
    ·rw [List.map_append, List.map_cons, List.map_nil, List.length_append, List.length_singleton, Nat.add_sub_cancel, List.getElem?_append_right (Nat.le_refl _)]; simp
    have edl : ((ws ++ [here]).map V.int).dropLast = ws.map V.int := by rw [List.map_append, List.map_cons, List.map_nil, List.dropLast_concat]
    rw [edl]
    have S4 : Same H (upd H3 pw (.lst (ws.map V.int))) := Same.upd S3 nw0
    have hf4 : (upd H3 pw (.lst (ws.map V.int))) pf = some (SetI w pf ks) := by rw [upd_ne hne]; exact hf3
    generalize hH4 : upd H3 pw (.lst (ws.map V.int)) = H4 at S4 hf4
    have hw4 : H4 pw = some (.lst (ws.map V.int)) := by rw [← hH4]; exact upd_same
    refine ⟨_, rfl, _, rfl, _, _, rfl, rfl, .inl ⟨by decide, by decide⟩, v, l, _, rfl, Da.same S4 hv, ok, fun pj Hj Sj nj hj => ?_⟩
    refine ⟨_, rfl, _, rfl, _, _, rfl, rfl, .inl ⟨by decide, by decide⟩, _, _, rfl, rfl, v, l, _, rfl, Da.same (S4.trans Sj) hv, ok, fun pi Hi Si ni hi => ?_⟩
    have j1 := jn_len ok (2 * here)
    have j2 := jn_len ok (2 * here + 1)
    refine ⟨pj, pi, _, _, rfl, rfl, Si _ _ hj, hi, Nat.le_of_lt (small_line (by rw [List.length_map, List.length_map]; omega)), fun pe ne => ?_⟩
    rw [← List.map_append]
    have S5 : Same H4 (upd Hi pe (.lst ((jn l.2 (2 * here) ++ jn l.2 (2 * here + 1)).map V.int))) := Sj.trans (Si.trans (same_upd ne))
    have he5 : (upd Hi pe (.lst ((jn l.2 (2 * here) ++ jn l.2 (2 * here + 1)).map V.int))) pe = some (.lst ((jn l.2 (2 * here) ++ jn l.2 (2 * here + 1)).map V.int)) := upd_same
    generalize upd Hi pe _ = H5 at S5 he5 ⊢
    have pe1 : pe ≠ pf := fun z => by have := (Sj.trans Si) _ _ hf4; rw [← z, ne] at this; cases this
    have pe2 : pe ≠ pw := fun z => by have := (Sj.trans Si) _ _ hw4; rw [← z, ne] at this; cases this
    have aj : ∀ b, Adj l.2 here b ↔ ∃ x ∈ jn l.2 (2 * here) ++ jn l.2 (2 * here + 1), x / 2 = b := fun b => adj_iff ok
    generalize jn l.2 (2 * here) ++ jn l.2 (2 * here + 1) = es at he5 aj ⊢
    refine ⟨pe, rfl, ⟨_, SqL.of he5⟩, for_list (K := K) (a := pe) (xs := es.map V.int) (fun i σ H6 => ∃ (ks' ws' : List Int) (x5 x6 : Option V), σ = [some v, some (.int pc), some (.ref pf), some (.ref pw), some (.int here), x5, x6] ∧ Same H H6 ∧ H6 pf = some (SetI w pf ks') ∧ H6 pw = some (.lst (ws'.map V.int)) ∧ H6 pe = some (.lst (es.map V.int)) ∧
      ks'.Nodup ∧ (∀ q ∈ ks, q ∈ ks') ∧ (∀ q ∈ ks', Cn l.2 pc q) ∧ (∀ q ∈ ws', q ∈ ks') ∧ (∀ q ∈ ks', q ∉ ws' → q ≠ here → ∀ b, Adj l.2 q b → b ∈ ks') ∧ (∀ x ∈ es.take i, x / 2 ∈ ks') ∧ 2 * (l.1.toNat - ks'.length) + ws'.length ≤ 2 * (l.1.toNat - ks.length) + ws.length)
     ⟨ks, ws, x5, x6, rfl, S4.trans S5, S5 _ _ hf4, S5 _ _ hw4, he5, nd, fun q hq => hq, hcn, fun q hq => hws q (List.mem_append_left _ hq), fun q hq h1 h2 => hcl q hq (fun z => (List.mem_append.mp z).elim h1 fun z => h2 (by simpa using z)), fun x hx => by simp at hx, Nat.le_refl _⟩
     (fun i σ H6 _ ⟨_, _, _, _, _, _, _, _, e, _⟩ => SqL.of e) ?_ ?_⟩
    ·rintro i y σ H6 hi ⟨ks', ws', x5, x6, rfl, S6, hf6, hw6, he6, nd', hsub, hcn', hws', hcl', htk, hm⟩
     rw [List.getElem?_map] at hi
     obtain ⟨x, hx, rfl⟩ : ∃ e, es[i]? = some e ∧ y = .int e := by
      cases q : es[i]? with
      | none => rw [q] at hi; cases hi
      | some e => rw [q] at hi; cases hi; exact ⟨e, rfl, rfl⟩
     have kb' : ks'.length ≤ l.1.toNat := nodup_bound nd' fun q hq => (hcn' q hq).bound ok ⟨p0, p1⟩
     have hadj : Adj l.2 here (x / 2) := (aj _).mpr ⟨x, List.mem_of_getElem? hx, rfl⟩
     have hxc : Cn l.2 pc (x / 2) := (hcn here hh).step hadj
     refine ⟨_, rfl, x, rfl, ?_⟩
     refine ⟨_, rfl, _, rfl, pf, ks', _, rfl, rfl, hf6, by omega, _, rfl, ite2 (fun h => ?_) (fun h => ?_)⟩
     ·have h : x / 2 ∉ ks' := by simpa using h
      refine ⟨_, rfl, ⟨pf, ks', rfl, hf6⟩, _, rfl, pf, ks', _, rfl, rfl, hf6, by omega, fun z => absurd z h, fun _ => ?_⟩
      have hw7 : (upd H6 pf (SetI w pf (ks' ++ [x / 2]))) pw = some (.lst (ws'.map V.int)) := by rw [upd_ne hne.symm]; exact hw6
      have nd2 : (ks' ++ [x / 2]).Nodup := List.nodup_append.mpr ⟨nd', by simp, fun a ha b hb => by simp at hb; subst hb; exact fun z => h (z ▸ ha)⟩
      have hcn2 : ∀ q ∈ ks' ++ [x / 2], Cn l.2 pc q := fun q hq => (List.mem_append.mp hq).elim (hcn' q) fun z => by simp at z; subst z; exact hxc
      have kb2 : (ks' ++ [x / 2]).length ≤ l.1.toNat := nodup_bound nd2 fun q hq => (hcn2 q hq).bound ok ⟨p0, p1⟩
      rw [List.length_append, List.length_singleton] at kb2
      refine ⟨_, rfl, .inl ⟨rfl, _, SqL.of hw7⟩, _, rfl, pw, _, _, rfl, rfl, hw7, small_line (by rw [List.length_map]; omega), ?_⟩
      refine ⟨ks' ++ [x / 2], ws' ++ [x / 2], _, _, rfl, Same.upd (Same.upd S6 nf) nw0, by rw [upd_ne hne]; exact upd_same, by rw [upd_same, List.map_append]; rfl, by rw [upd_ne pe2, upd_ne pe1]; exact he6, nd2, fun q hq => List.mem_append_left _ (hsub q hq), hcn2, ?_, ?_, ?_, ?_⟩
      ·intro q hq
       rcases List.mem_append.mp hq with z | z
       ·exact List.mem_append_left _ (hws' q z)
       ·exact List.mem_append_right _ z
      ·intro q hq h1 h2 b hb
       rcases List.mem_append.mp hq with z | z
       ·exact List.mem_append_left _ (hcl' q z (fun y => h1 (List.mem_append_left _ y)) h2 b hb)
       ·exact absurd (List.mem_append_right _ z) h1
      ·intro y hy
       rw [List.take_add_one, hx] at hy
       rcases List.mem_append.mp hy with z | z
       ·exact List.mem_append_left _ (htk y z)
       ·have : y = x := by simpa using z
        subst this
        exact List.mem_append_right _ (by simp)
      ·rw [List.length_append, List.length_append, List.length_singleton]
       omega
     ·have h : x / 2 ∈ ks' := by simpa using h
      refine ⟨ks', ws', _, _, rfl, S6, hf6, hw6, he6, nd', hsub, hcn', hws', hcl', fun y hy => ?_, hm⟩
      rw [List.take_add_one, hx] at hy
      rcases List.mem_append.mp hy with z | z
      ·exact htk y z
      ·have : y = x := by simpa using z
       subst this
       exact h
    ·rintro σ H6 ⟨ks', ws', x5, x6, rfl, S6, hf6, hw6, he6, nd', hsub, hcn', hws', hcl', htk, hm⟩
     rw [List.length_map, List.take_length] at htk
     refine ⟨2 * (l.1.toNat - ks'.length) + ws'.length, ?_, ks', ws', _, _, _, rfl, S6, hf6, hw6, nd', hsub _ hpc, hcn', hws', fun q hq h1 b hba => ?_, rfl, ?_⟩
     ·rw [List.length_append, List.length_singleton]; omega
     rotate_left
     ·rw [List.length_append, List.length_singleton] at h100; omega
     ·by_cases c : q = here
      ·subst c
       obtain ⟨x, hx, rfl⟩ := (aj b).mp hba
       exact htk x hx
      ·exact hcl' q hq h1 c b hba
   ·have h : ws = [] := by simpa using h
    subst h
    refine ⟨_, rfl, pf, ks, rfl, hf3, by omega, fun p hp => ?_⟩
    exact k _ (Hang.of nd fun q => ⟨hcn q, fun z => closed_all hpc (fun q hq b hb => hcl q hq (by simp) b hb) z⟩) p _ (S3.trans (same_upd hp)) (Same.free S3 hp) upd_same
  ·obtain ⟨a, e, b, q1, q2⟩ := h
   exact ⟨a, e, b, q1, hm _ _ q2⟩
end
end K32
namespace K32
open PySem L2 TL PyProof.Rows
def sp_ismk (K : PySem.W.Frag) : Sp := fun vs H Q _ => ∃ (v u : V) (l : Int × List (Int × Int)) (ms : List Int), vs = [v, u] ∧ Da K H (dL l) v ∧ Da K H (dI ms) u ∧ LineOk l ∧ ms.length ≤ 1000 ∧ ∀ H', Same H H' → Q (.bl (dcd (IsMk l.1 ms))) H'
def sp_keeps (K : PySem.W.Frag) : Sp := fun vs H Q _ => ∃ (v u : V) (l : Int × List (Int × Int)) (e : Int) (ms : List Int), vs = [v, .int e, u] ∧ Da K H (dL l) v ∧ Da K H (dI ms) u ∧ LineOk l ∧ 0 ≤ e ∧ e < l.1 ∧ ms.length ≤ 1000 ∧ ∀ H', Same H H' → Q (.bl (dcd (KeepsP l e ms))) H'
theorem at_pf {ms : List Int} {x : Int} (h0 : 0 ≤ x) (h1 : x < ms.length) : atI (ms.map V.int) x = some (V.int (pf ms x)) := by
 obtain ⟨z, z1, _, z2⟩ := at_int (ns := ms) (i := x) h0 h1
 rw [z2]
 unfold pf
 rw [List.getD_eq_getElem?_getD, z1]
 rfl
theorem das_zip {K : PySem.W.Frag} {H : Hp} (q : (Int × Int) × V → Bool) : ∀ {js : List (Int × Int)} {us : List V}, Das K H (js.map dP) us → Das K H ((((js.zip us).filter q).map (·.1)).map dP) (((js.zip us).filter q).map (·.2))
 | [], us, h => by rw [List.map_nil] at h; have := dgs_nil.mp h; subst this; exact dgs_nil.mpr rfl
 | p :: js, us, h => by
  rw [List.map_cons] at h
  obtain ⟨v, r, rfl, h1, h2⟩ := dgs_cons.mp h
  have ih := das_zip q h2
  rw [List.zip_cons_cons, List.filter_cons]
  split
  ·rw [List.map_cons, List.map_cons, List.map_cons]
   exact dgs_cons.mpr ⟨v, _, rfl, h1, ih⟩
  ·exact ih
theorem zip_fst (q : Int × Int → Bool) : ∀ {js : List (Int × Int)} {us : List V}, us.length = js.length → (((js.zip us).filter fun x => q x.1).map (·.1)) = js.filter q
 | [], us, h => by simp
 | p :: js, [], h => by simp at h
 | p :: js, u :: us, h => by
  rw [List.zip_cons_cons, List.filter_cons, List.filter_cons]
  have ih := zip_fst q (js := js) (us := us) (by simpa using h)
  by_cases c : q p = true
  ·rw [if_pos c, if_pos c, List.map_cons, ih]
  ·rw [if_neg c, if_neg c, ih]
abbrev s_is_marking : Stmt := top 6
theorem sc_is_marking : FnScope ["line", "marking"] ["line", "marking"] (defScope s_is_marking) := ⟨rfl, rfl, rfl, by decide +kernel, rfl, by decide +kernel, by decide +kernel⟩
theorem cc_is_marking_0 : CompOk (defScope s_is_marking) ["line", "marking"] { kind := .function, names := [(Str.ofString ".0", .local), (Str.ofString "piece", .local), (Str.ofString "sorted", .globalImplicit), (Str.ofString "marking", .free)], isGenerator := false, isCoroutine := false, more := [] } ["piece", "marking"] 1 [none, some 1] := ⟨rfl, by decide +kernel, by decide +kernel, by decide +kernel, rfl, by decide +kernel, rfl, by decide +kernel⟩
abbrev s_keeps : Stmt := top 7
theorem sc_keeps : FnScope ["line", "piece", "marking", "pieces", "joints"] ["line", "piece", "marking"] (defScope s_keeps) := ⟨rfl, rfl, rfl, by decide +kernel, rfl, by decide +kernel, by decide +kernel⟩
theorem cc_keeps_0 : CompOk (defScope s_keeps) ["line", "piece", "marking", "pieces", "joints"] { kind := .function, names := [(Str.ofString ".0", .local), (Str.ofString "joint", .local), (Str.ofString "piece_of", .globalImplicit), (Str.ofString "pieces", .free)], isGenerator := false, isCoroutine := false, more := [] } ["joint", "pieces"] 1 [none, some 3] := ⟨rfl, by decide +kernel, by decide +kernel, by decide +kernel, rfl, by decide +kernel, rfl, by decide +kernel⟩
theorem cc_keeps_1 : CompOk (defScope s_keeps) ["line", "piece", "marking", "pieces", "joints"] { kind := .function, names := [(Str.ofString ".0", .local), (Str.ofString "low", .local), (Str.ofString "high", .local), (Str.ofString "other_end", .globalImplicit), (Str.ofString "marking", .free)], isGenerator := false, isCoroutine := false, more := [] } ["low", "high", "marking"] 2 [none, none, some 2] := ⟨rfl, by decide +kernel, by decide +kernel, by decide +kernel, rfl, by decide +kernel, rfl, by decide +kernel⟩
section
variable {P : Program} {w : World} {K : PySem.W.Frag} {mg : Str → Option Value} {base : Heap} {f : Addr} {fd : FuncData}
theorem ok_is_marking (F : Fn K mg "is_marking" s_is_marking ["line", "marking"] f fd) (B : Bm mg) : FnOk P w K mg base CX0 1 f fd ["line", "marking"] (sp_ismk K) := by
 refine F.F.ok sc_is_marking (fun vs H Q E h => ?_) (fun cdv A outer s H vs Q E hr h => ?_)
 ·obtain ⟨v, u, l, ms, rfl, _⟩ := h; rfl
 ·obtain ⟨v, u, l, ms, rfl, hv, hu, ok, hz, k⟩ := h
  obtain ⟨a, b, rfl, ht, us, hl, hq⟩ := da_line hv
  obtain ⟨c, rfl, hc⟩ := da_ints.mp hu
  have h1 := ok.one
  have h40 := ok.most
  refine ⟨_, (@pss_cons _ _ _ _ _ (@ps_if _ _ _ _ _ _ _ _ (pt_cmp (@pc_neI _ _ _ _ _ (@pe_callB _ _ _ _ _ _ _ _ _ (@call_len_seq _) rfl B.len boot_len (@pa_cons _ _ _ _ _ (@pv _ 1 _ _ (by rfl) (by first | exact Or.inl rfl | exact Or.inr (  Or.inl rfl ) | exact Or.inr (  Or.inr rfl )) (by decide) (by decide)) (@pa_nil _) (by rfl)) (by decide) (by decide) (by rfl) (by rfl)) (@pe_op _ _ _ _ _ _ _ _ (@op_mul _) (@pe_int _ _ _ _) (@pe_ix _ _ _ _ _ _ _ (@ix_tup _) (@pv _ 0 _ _ (by rfl) (by first | exact Or.inl rfl | exact Or.inr (  Or.inl rfl ) | exact Or.inr (  Or.inr rfl )) (by decide) (by decide)) (@pe_int _ _ _ _) (fun _ _ => rfl))))) (@pss_one _ _ _ (@ps_ret _ _ _ _ (@pe_bl _ _ _ _))) (@pss_nil _)) (@pss_one _ _ _ (@ps_ret _ _ _ _ (@pe_callB _ _ _ _ _ _ _ _ _ (@call_all _ rfl) rfl B.all boot_all (@pa_cons _ _ _ _ _ (@pe_lc _ _ _ _ _ _ _ _ _ _ _ _ _ _ (@pi_range1 _ _ _ _ _ _ rfl B.range (@pa_cons _ _ _ _ _ (@pe_ix _ _ _ _ _ _ _ (@ix_tup _) (@pv _ 0 _ _ (by rfl) (by first | exact Or.inl rfl | exact Or.inr (  Or.inl rfl ) | exact Or.inr (  Or.inr rfl )) (by decide) (by decide)) (@pe_int _ _ _ _) (fun _ _ => rfl)) (@pa_nil _) (by rfl)) (by rfl)) rfl cc_is_marking_0 (.name (by decide)) (fun _ _ _ _ => (@pg_name _ _ (0) _ cc_is_marking_0.nd rfl (Or.inl rfl) (by first | exact .inl rfl | exact .inr rfl | assumption))) (fun _ _ _ _ => @pifs_nil _) (fun _ _ _ _ => (@pe_cmpR _ _ _ _ _ _ _ _ (@op_eqDk _ (K) rfl hr.units) (@pe_callB _ _ _ _ _ _ _ _ _ (@call_sortedk _ (K) rfl) rfl B.sorted boot_sorted (@pa_cons _ _ _ _ _ (@pe_slice _ _ _ _ _ _ _ _ _ _ (@sl_listk _ (K) rfl) (@pv _ 1 _ _ (by rfl) (by first | exact Or.inl rfl | exact Or.inr (  Or.inl rfl ) | exact Or.inr (  Or.inr rfl )) (by decide) (by decide)) (@po_some _ _ _ (@pe_op _ _ _ _ _ _ _ _ (@op_mul _) (@pe_int _ _ _ _) (@pv _ 0 _ _ (by rfl) (by first | exact Or.inl rfl | exact Or.inr (  Or.inl rfl ) | exact Or.inr (  Or.inr rfl )) (by decide) (by decide)))) (@po_some _ _ _ (@pe_op _ _ _ _ _ _ _ _ (@op_add _) (@pe_op _ _ _ _ _ _ _ _ (@op_mul _) (@pe_int _ _ _ _) (@pv _ 0 _ _ (by rfl) (by first | exact Or.inl rfl | exact Or.inr (  Or.inl rfl ) | exact Or.inr (  Or.inr rfl )) (by decide) (by decide))) (@pe_int _ _ _ _)))) (@pa_nil _) (by rfl)) (by decide) (by decide) (by rfl) (by rfl)) (@pe_lst _ _ _ _ (@pa_cons _ _ _ _ _ (@pe_int _ _ _ _) (@pa_cons _ _ _ _ _ (@pe_int _ _ _ _) (@pa_nil _) (by rfl)) (by rfl))) (@nomark _ _ (by decide) (by decide)))) (by intros; rfl)) (@pa_nil _) (by rfl)) (by decide) (by decide) (by rfl) (by rfl))))), ?_⟩
  refine ⟨_, rfl, c, _, rfl, .inl hc, _, rfl, a, _, _, _, rfl, rfl, ht, rfl, _, _, rfl, rfl, .inl ⟨by decide, by decide⟩, _, _, rfl, rfl, _, rfl, ite2 (fun h => ?_) (fun h => ?_)⟩
  ·have h : ¬ ((ms.length : Int) = 2 * l.1) := by simpa using h
   have := k H (Same.refl _)
   rw [dcd_f (fun z => h z.len)] at this
   exact this
  have h : (ms.length : Int) = 2 * l.1 := by simpa using h
  refine ⟨_, rfl, a, _, _, _, rfl, rfl, ht, rfl, _, rfl, by omega, by omega, fun q nq => lc_grow l.1.toNat (rngI 0 l.1.toNat) (fun _ => true) (fun k => V.bl (dcd (okPair ms k))) nq (by rw [rngI_len]) (small_l (by omega)) (fun i G s hi => js_range.go i G s hi) (fun G s => js_range.stop G s) ?_ ?_⟩
  ·intro i x d G G' sG yG hd P1 P0 k1 k0
   obtain ⟨rfl, rfl⟩ := yG
   have hi : i < l.1.toNat := by have := (List.getElem?_eq_some_iff.mp hd).1; rwa [rngI_len] at this
   rw [rngI_get hi] at hd
   cases hd
   refine name_yes ?_
   refine ⟨_, rfl, _, rfl, _, _, rfl, rfl, .inl ⟨by decide, by decide⟩, _, rfl, _, rfl, _, _, rfl, rfl, .inl ⟨by decide, by decide⟩, _, _, rfl, rfl, _, rfl, ?_⟩
   refine ⟨c, _, rfl, sG.seq hc, fun p2 np2 => ?_⟩
   rw [cut_two ms (by omega) (by omega)]
   refine ⟨p2, _, rfl, SqL.of upd_same, by show 2 < 64; decide, fun p3 np3 => ⟨by show 2 ≤ sizeLine; decide, fun p4 np4 => ?_⟩⟩
   have S4 := same_upd (o := .lst [.int 0, .int 1]) np4
   have S24 := (same_upd np2).trans ((same_upd np3).trans S4)
   have hv4 := k1 _ rfl S24
   refine ⟨dI (srt [pf ms (2 * (0 + (i : Int))), pf ms (2 * (0 + (i : Int)) + 1)]), dI [0, 1], da_ints.mpr ⟨p3, rfl, SqL.of (S4 _ _ upd_same)⟩, da_ints.mpr ⟨p4, rfl, SqL.of upd_same⟩, okD_ints _, okD_ints _, ?_⟩
   rw [eqv_I, ← dcd_dec, dcd_congr (srt_two _ _)]
   exact hv4
  ·intro G sG hG
   rw [filt_true] at hG
   refine ⟨q, (rngI 0 l.1.toNat).map fun k => dcd (okPair ms k), rfl, SqL.of (by rw [hG, List.map_map]; rfl), ?_⟩
   have e : ((rngI 0 l.1.toNat).map fun k => dcd (okPair ms k)).all id = dcd (IsMk l.1 ms) := by
    rw [Bool.eq_iff_iff, dcd_iff, List.all_eq_true]
    constructor
    ·intro z
     refine ⟨h, fun k k0 k1 => dcd_iff.mp (z _ (List.mem_map.mpr ⟨k, rngI_mem.mpr ⟨by omega, by omega⟩, rfl⟩))⟩
    ·rintro z x hx
     obtain ⟨k, hk, rfl⟩ := List.mem_map.mp hx
     have := rngI_mem.mp hk
     exact dcd_t (z.pair k (by omega) (by omega))
   rw [e]
   exact k G sG
theorem ok_keeps {f1 f2 f3 f4 : Addr} {fd1 fd2 fd3 fd4 : FuncData} (F : Fn K mg "keeps" s_keeps ["line", "piece", "marking"] f fd) (B : Bm mg) (F_is_marking : Fn K mg "is_marking" s_is_marking ["line", "marking"] f1 fd1) (F_hang_together : Fn K mg "hang_together" s_hang_together ["line", "piece"] f2 fd2)
  (F_piece_of : Fn K mg "piece_of" s_piece_of ["end"] f3 fd3) (F_other_end : Fn K mg "other_end" s_other_end ["end"] f4 fd4) (G_hang_together : FnOk P w K mg base CX0 2 f2 fd2 ["line", "piece"] (sp_hang K)) : FnOk P w K mg base CX0 3 f fd ["line", "piece", "marking"] (sp_keeps K) := by
 have G_is_marking : FnOk P w K mg base CX0 1 f1 fd1 ["line", "marking"] (sp_ismk K) := ok_is_marking F_is_marking B
 have G_piece_of : FnOk P w K mg base CX0 1 f3 fd3 ["end"] sp_half := ok_piece_of F_piece_of
 have G_other_end : FnOk P w K mg base CX0 1 f4 fd4 ["end"] sp_other := ok_other_end F_other_end
 refine F.F.ok sc_keeps (fun vs H Q E h => ?_) (fun cdv A outer s H vs Q E hr h => ?_)
 ·obtain ⟨v, u, l, e, ms, rfl, _⟩ := h; rfl
 ·obtain ⟨v, u, l, pc, ms, rfl, hv, hu, ok, p0, p1, hz, k⟩ := h
  obtain ⟨a, b, rfl, ht, us, hl, hq⟩ := da_line hv
  obtain ⟨c, rfl, hc⟩ := da_ints.mp hu
  have h1 := ok.one
  have h40 := ok.most
  have h80 := ok.len
  have hlen := das_ints_len hq
  refine ⟨_, (@pss_cons _ _ _ _ _ (@ps_if _ _ _ _ _ _ _ _ (@pt_not _ _ _ _ (@pt_val _ _ _ (@pe_call _ _ _ _ _ _ _ _ _ _ _ _ _ _ _ _ G_is_marking (hr.mono (by decide)) rfl F_is_marking.m F_is_marking.F.kp F_is_marking.b .nil (@pass0 _) (@pa_cons _ _ _ _ _ (@pv _ 0 _ _ (by rfl) (by first | exact Or.inl rfl | exact Or.inr (  Or.inl rfl ) | exact Or.inr (  Or.inr rfl )) (by decide) (by decide)) (@pa_cons _ _ _ _ _ (@pv _ 2 _ _ (by rfl) (by first | exact Or.inl rfl | exact Or.inr (  Or.inl rfl ) | exact Or.inr (  Or.inr rfl )) (by decide) (by decide)) (@pa_nil _) (by rfl)) (by rfl)) (by decide) (by rfl) (by rfl)) (by intros; rfl))) (@pss_one _ _ _ (@ps_ret _ _ _ _ (@pe_bl _ _ _ _))) (@pss_nil _)) (@pss_cons _ _ _ _ _ (@ps_set _ _ (3) _ _ _ _ sc_keeps.nd rfl (Or.inr rfl) (@pe_call _ _ _ _ _ _ _ _ _ _ _ _ _ _ _ _ G_hang_together (hr.mono (by decide)) rfl F_hang_together.m F_hang_together.F.kp F_hang_together.b .nil (@pass0 _) (@pa_cons _ _ _ _ _ (@pv _ 0 _ _ (by rfl) (by first | exact Or.inl rfl | exact Or.inr (  Or.inl rfl ) | exact Or.inr (  Or.inr rfl )) (by decide) (by decide)) (@pa_cons _ _ _ _ _ (@pv _ 1 _ _ (by rfl) (by first | exact Or.inl rfl | exact Or.inr (  Or.inl rfl ) | exact Or.inr (  Or.inr rfl )) (by decide) (by decide)) (@pa_nil _) (by rfl)) (by rfl)) (by decide) (by rfl) (by rfl)) (by rfl) (by first | exact .inl rfl | exact .inr rfl | assumption)) (@pss_cons _ _ _ _ _ (@ps_lc _ _ _ _ _ _ _ _ _ _ _ _ _ _ (4) _ _ _ sc_keeps.nd rfl rfl (@pi_list _ _ _ _ (@pe_ix _ _ _ _ _ _ _ (@ix_tup _) (@pv _ 0 _ _ (by rfl) (by first | exact Or.inl rfl | exact Or.inr (  Or.inl rfl ) | exact Or.inr (  Or.inr rfl )) (by decide) (by decide)) (@pe_int _ _ _ _) (fun _ _ => rfl))) rfl cc_keeps_0 (.name (by decide)) (fun _ _ _ _ => (@pg_name _ _ (0) _ cc_keeps_0.nd rfl (Or.inl rfl) (by first | exact .inl rfl | exact .inr rfl | assumption))) (fun _ _ _ _ => (@pifs_one _ _ _ (@pt_cmpR _ _ _ _ _ _ _ _ (@op_inDk _ (K) rfl hr.units) (@pe_call _ _ _ _ _ _ _ _ _ _ _ _ _ _ _ _ G_piece_of (hr.mono (by decide)) rfl F_piece_of.m F_piece_of.F.kp F_piece_of.b .nil (@pass0 _) (@pa_cons _ _ _ _ _ (@pe_ix _ _ _ _ _ _ _ (@ix_tupk _ (K) rfl) (@pv _ 0 _ _ (by rfl) (by first | exact Or.inl rfl | exact Or.inr (  Or.inl rfl ) | exact Or.inr (  Or.inr rfl )) (by decide) (by decide)) (@pe_int _ _ _ _) (fun _ _ => rfl)) (@pa_nil _) (by rfl)) (by decide) (by rfl) (by rfl)) (@pv _ 1 _ _ (by rfl) (by first | exact Or.inl rfl | exact Or.inr (  Or.inl rfl ) | exact Or.inr (  Or.inr rfl )) (by decide) (by decide)) (by with_unfolding_all rfl)))) (fun _ _ _ _ => (@pv _ 0 _ _ (by rfl) (by first | exact Or.inl rfl | exact Or.inr (  Or.inl rfl ) | exact Or.inr (  Or.inr rfl )) (by decide) (by decide))) (by rfl) (by intros; rfl)) (@pss_one _ _ _ (@ps_ret _ _ _ _ (@pe_callB _ _ _ _ _ _ _ _ _ (@call_all _ rfl) rfl B.all boot_all (@pa_cons _ _ _ _ _ (@pe_lc _ _ _ _ _ _ _ _ _ _ _ _ _ _ (@pi_list _ _ _ _ (@pv _ 4 _ _ (by rfl) (by first | exact Or.inl rfl | exact Or.inr (  Or.inl rfl ) | exact Or.inr (  Or.inr rfl )) (by decide) (by decide))) rfl cc_keeps_1 (.tup (.cons (.name (by decide)) (.cons (.name (by decide)) .nil))) (fun _ _ _ _ => (@pg_tup _ _ _ _ _ (2) rfl (@pgs_cons _ _ _ _ _ (@pg_name _ _ (0) _ cc_keeps_1.nd rfl (Or.inl rfl) (by first | exact .inl rfl | exact .inr rfl | assumption)) (@pgs_cons _ _ _ _ _ (@pg_name _ _ (1) _ cc_keeps_1.nd rfl (Or.inl rfl) (by first | exact .inl rfl | exact .inr rfl | assumption)) (@pgs_nil _) (by rfl)) (by rfl)) (by rfl) (by rfl))) (fun _ _ _ _ => @pifs_nil _) (fun _ _ _ _ => (pe_cmp (@pc_eqI _ _ _ _ _ (@pe_ix _ _ _ _ _ _ _ (@ix_listk _ (K) rfl) (@pv _ 2 _ _ (by rfl) (by first | exact Or.inl rfl | exact Or.inr (  Or.inl rfl ) | exact Or.inr (  Or.inr rfl )) (by decide) (by decide)) (@pe_call _ _ _ _ _ _ _ _ _ _ _ _ _ _ _ _ G_other_end (hr.mono (by decide)) rfl F_other_end.m F_other_end.F.kp F_other_end.b .nil (@pass0 _) (@pa_cons _ _ _ _ _ (@pv _ 0 _ _ (by rfl) (by first | exact Or.inl rfl | exact Or.inr (  Or.inl rfl ) | exact Or.inr (  Or.inr rfl )) (by decide) (by decide)) (@pa_nil _) (by rfl)) (by decide) (by rfl) (by rfl)) (fun _ _ => rfl)) (@pe_ix _ _ _ _ _ _ _ (@ix_listk _ (K) rfl) (@pv _ 2 _ _ (by rfl) (by first | exact Or.inl rfl | exact Or.inr (  Or.inl rfl ) | exact Or.inr (  Or.inr rfl )) (by decide) (by decide)) (@pv _ 1 _ _ (by rfl) (by first | exact Or.inl rfl | exact Or.inr (  Or.inl rfl ) | exact Or.inr (  Or.inr rfl )) (by decide) (by decide)) (fun _ _ => rfl))))) (by intros; rfl)) (@pa_nil _) (by rfl)) (by decide) (by decide) (by rfl) (by rfl))))))), ?_⟩
  refine ⟨_, rfl, _, rfl, _, _, l, ms, rfl, hv, hu, ok, hz, fun H1 S1 => ⟨_, rfl, ite2 (fun h => ?_) (fun h => ?_)⟩⟩
  ·have h : ¬ IsMk l.1 ms := fun z => by rw [dcd_t z] at h; simp at h
   have := k H1 S1
   rw [dcd_f (fun z => h z.1)] at this
   exact this
  have h : IsMk l.1 ms := dcd_iff.mp (by simpa using h)
  have hml := h.len
  refine ⟨_, rfl, _, rfl, _, l, pc, rfl, Da.same S1 hv, ok, p0, p1, fun ns hns pn H2 S2 npn hpn => ?_⟩
  have S12 := S1.trans S2
  have nsb : ns.length ≤ 1000 := by
   have := nodup_bound (hns.up.imp fun {a b} h => by omega) (fun q hq => ((hns.mem q).mp hq).bound ok ⟨by omega, by omega⟩ : ∀ q ∈ ns, 0 ≤ q ∧ q < l.1)
   omega
  refine ⟨_, rfl, a, _, _, _, rfl, rfl, same_tseq S12 ht, rfl, b, rfl, ⟨us, S12.seq hl⟩, fun q nq => lc_pureJ (js_list (S12.seq hl)) (l.2.zip us) (fun x => decide (x.1.1 / 2 ∈ ns)) (fun x => x.2) nq (by rw [List.length_zip, hlen, Nat.min_self]) (small_l (by omega)) ?_ ?_⟩
  ·intro i x d G hx hd sG P1 P0 k1 k0
   obtain ⟨ad, ⟨ea, eb⟩, e1, rfl, hpr⟩ := das_pair (Das.same (S12.trans sG) hq) hx
   dsimp only at hpr
   have ed : d = ((ea, eb), V.ref ad) := by
    rw [List.getElem?_zip_eq_some] at hd
    rw [e1] at hd
    rw [hx] at hd
    exact Prod.ext (Option.some.inj hd.1).symm (Option.some.inj hd.2).symm
   subst ed
   refine ⟨_, rfl, ad, _, _, _, rfl, rfl, hpr, rfl, ea, rfl, _, rfl, ns.map PyData.int, .int (ea / 2), dg_list.mpr ⟨pn, _, rfl, SqL.of (sG _ _ hpn), dgs_ints.mpr rfl⟩, dg_int.mpr rfl, okDs_I _, okD_int _, _, rfl, ?_⟩
   rw [if_neg Bool.false_ne_true, any_I]
   exact ite2 (fun h => ⟨_, rfl, k1 h⟩) (fun h => k0 (by simpa using h))
  have hz2 := das_zip (fun x : (Int × Int) × V => decide (x.1.1 / 2 ∈ ns)) hq
  rw [zip_fst (fun p : Int × Int => decide (p.1 / 2 ∈ ns)) hlen] at hz2
  generalize ((l.2.zip us).filter fun x => decide (x.1.1 / 2 ∈ ns)).map (fun x => x.2) = vs at hz2 ⊢
  have S3 := same_upd (o := .lst vs) nq
  have hq3 : (upd H2 q (.lst vs)) q = some (.lst vs) := upd_same
  generalize upd H2 q _ = H3 at S3 hq3 ⊢
  have S13 := S12.trans S3
  have vl : vs.length = (l.2.filter fun p => decide (p.1 / 2 ∈ ns)).length := das_ints_len hz2
  have fl : (l.2.filter fun p => decide (p.1 / 2 ∈ ns)).length ≤ l.2.length := List.length_filter_le _ _
  refine ⟨_, rfl, q, rfl, ⟨_, SqL.of hq3⟩, fun q4 nq4 => lc_pureJ (js_list (SqL.of (K := K) hq3)) (l.2.filter fun p => decide (p.1 / 2 ∈ ns)) (fun _ => true) (fun p => V.bl (decide (pf ms (oth p.1) = pf ms p.2))) nq4 vl (small_l (by omega)) ?_ ?_⟩
  ·intro i x d G hx hd sG P1 P0 k1 k0
   obtain ⟨ad, ⟨ea, eb⟩, e1, rfl, hpr⟩ := das_pair (Das.same (S13.trans sG) hz2) hx
   rw [hd] at e1
   cases e1
   dsimp only at hpr
   have hb := ok.ends _ (List.mem_filter.mp (List.mem_of_getElem? hd)).1
   dsimp only at hb
   have ho : 0 ≤ oth ea ∧ oth ea < 2 * l.1 := by unfold oth; omega
   have cG : SqL K G c (ms.map V.int) := (S13.trans sG).seq hc
   refine ⟨ad, _, rfl, hpr, rfl, _, _, rfl, _, _, rfl, rfl, yes_if ?_⟩
   exact ⟨_, rfl, _, rfl, ea, rfl, c, _, _, _, rfl, rfl, cG, at_pf (by omega) (by omega), _, rfl, _, rfl, c, _, _, _, rfl, rfl, cG, at_pf (by omega) (by omega), _, _, rfl, rfl, k1 rfl⟩
  refine ⟨q4, (l.2.filter fun p => decide (p.1 / 2 ∈ ns)).map fun p => decide (pf ms (oth p.1) = pf ms p.2), rfl, SqL.of (by rw [upd_same, filt_true, List.map_map]; rfl), ?_⟩
  have e : ((l.2.filter fun p => decide (p.1 / 2 ∈ ns)).map fun p => decide (pf ms (oth p.1) = pf ms p.2)).all id = dcd (KeepsP l pc ms) := by
   rw [Bool.eq_iff_iff, dcd_iff, List.all_eq_true]
   constructor
   ·intro z
    refine ⟨h, fun p hp hc => ?_⟩
    have := z _ (List.mem_map.mpr ⟨p, List.mem_filter.mpr ⟨hp, decide_eq_true ((hns.mem _).mpr hc)⟩, rfl⟩)
    exact of_decide_eq_true this
   ·rintro z x hx
    obtain ⟨p, hp, rfl⟩ := List.mem_map.mp hx
    obtain ⟨hp1, hp2⟩ := List.mem_filter.mp hp
    exact decide_eq_true (z.2 p hp1 ((hns.mem _).mp (of_decide_eq_true hp2)))
  rw [e]
  exact k _ (S13.trans (same_upd nq4))
end
end K32
namespace K32
open PySem L2 TL PyProof.Rows
structure Mks (kvs : List (Key × V)) (ks : List Int) : Prop where
 hs : ∀ e : Int, (valV kvs (.inl e)).isSome = true ↔ e / 2 ∈ ks
 iv : ∀ (e : Int) v, valV kvs (.inl e) = some v → ∃ i : Int, v = .int i
 ln : kvs.length ≤ 2 * ks.length
def sp_set (K : PySem.W.Frag) : Sp := fun vs H Q _ => ∃ (v : V) (l : Int × List (Int × Int)) (e n : Int), vs = [v, .int e, .int n] ∧ Da K H (dL l) v ∧ LineOk l ∧ 0 ≤ e ∧ e < l.1 ∧ ∀ (p : Addr) (kvs : List (Key × V)) (ks : List Int) (H' : Hp), Same H H' → H p = none → H' p = some (.dK kvs) → Mks kvs ks → (∀ q, q ∈ ks ↔ Cn l.2 e q) → Q (.ref p) H'
theorem Mks.add {kvs : List (Key × V)} {ks : List Int} (h : Mks kvs ks) {b x y : Int} (hb : b / 2 ∉ ks) : Mks (putK (putK kvs (.inl b) (.int x)) (.inl (oth b)) (.int y)) (ks ++ [b / 2]) := by
 have hv : ∀ e : Int, valV (putK (putK kvs (.inl b) (.int x)) (.inl (oth b)) (.int y)) (.inl e) = if e = oth b then some (.int y) else if e = b then some (.int x) else valV kvs (.inl e) := fun e => by
  rw [valV_put, valV_put]
  have e1 : ((Sum.inl e : Key) = Sum.inl (oth b)) = (e = oth b) := by simp
  have e2 : ((Sum.inl e : Key) = Sum.inl b) = (e = b) := by simp
  simp only [e1, e2]
 refine ⟨fun e => ?_, fun e v hh => ?_, ?_⟩
 ·rw [hv, List.mem_append, List.mem_singleton]
  by_cases c1 : e = oth b
  ·rw [if_pos c1]
   refine ⟨fun _ => .inr (by subst c1; unfold oth; omega), fun _ => rfl⟩
  ·rw [if_neg c1]
   by_cases c2 : e = b
   ·rw [if_pos c2]
    exact ⟨fun _ => .inr (by rw [c2]), fun _ => rfl⟩
   ·rw [if_neg c2, h.hs]
    refine ⟨.inl, fun z => z.elim id fun z => ?_⟩
    exact absurd z (by unfold oth at c1; omega)
 ·rw [hv] at hh
  split at hh
  ·exact ⟨_, (Option.some.inj hh).symm⟩
  ·split at hh
   ·exact ⟨_, (Option.some.inj hh).symm⟩
   ·exact h.iv e v hh
 ·have h1 := length_putK (putK kvs (.inl b) (.int x)) (.inl (oth b)) (.int y)
  have h2 := length_putK kvs (.inl b) (.int x)
  have h3 := h.ln
  rw [List.length_append, List.length_singleton]
  omega
theorem Mks.first (p x y : Int) : Mks (mergeK [] [(.inl (2 * p), .int x), (.inl (2 * p + 1), .int y)]) [p] := by
 have e0 : mergeK [] [((.inl (2 * p) : Key), V.int x), (.inl (2 * p + 1), .int y)] = putK (putK [] (.inl (2 * p)) (.int x)) (.inl (oth (2 * p))) (.int y) := by
  have : oth (2 * p) = 2 * p + 1 := by unfold oth; omega
  rw [this]
  rfl
 rw [e0]
 have := Mks.add (kvs := []) (ks := []) (b := 2 * p) (x := x) (y := y) ⟨fun e => by simp [valV], fun e v h => by simp [valV] at h, by simp⟩ (by simp)
 have e1 : 2 * p / 2 = p := by omega
 rw [e1] at this
 exact this
theorem das_both {K : PySem.W.Frag} {H : Hp} {js : List (Int × Int)} {us vs : List V} (h : Das K H (js.map dP) us) (k : Das K H ((js.map swp).map dP) vs) : Das K H ((both js).map dP) (us ++ vs) := by
 unfold both
 rw [List.map_append]
 exact Dgs.append h k
theorem sqt_hidD {K : PySem.W.Frag} {H : Hp} {t b : Addr} {kvs : List (Key × V)} {xs : List V} (ht : H t = some (.dK kvs)) (h : SqT K H b xs) : SqT K (hid t H) b xs := by
 rcases h with (h | ⟨o, h⟩) | h
 ·exact .inl (.inl (by rw [hid_ne (ne_of h ht (by intro z; cases z))]; exact h))
 ·exact .inl (.inr ⟨o, by rw [hid_ne (ne_of h ht (by intro z; cases z))]; exact h⟩)
 ·exact .inr h
theorem das_pairs_to {K : PySem.W.Frag} {H H' : Hp} (f : ∀ b xs, SqT K H b xs → SqT K H' b xs) : ∀ {js : List (Int × Int)} {us : List V}, Das K H (js.map dP) us → Das K H' (js.map dP) us
 | [], us, h => by rw [List.map_nil] at h ⊢; exact dgs_nil.mpr (dgs_nil.mp h)
 | p :: js, us, h => by
  rw [List.map_cons] at h ⊢
  obtain ⟨v, r, rfl, h1, h2⟩ := dgs_cons.mp h
  obtain ⟨a, vs, rfl, h3, h4⟩ := dg_tuple.mp h1
  refine dgs_cons.mpr ⟨_, r, rfl, dg_tuple.mpr ⟨a, vs, rfl, f _ _ h3, ?_⟩, das_pairs_to f h2⟩
  have e := dgs_ints (ns := [p.1, p.2]) |>.mp h4
  exact dgs_ints (ns := [p.1, p.2]) |>.mpr e
abbrev s_law_set : Stmt := top 16
theorem sc_law_set : FnScope ["_law_line_here", "_law_piece", "_law_number", "_law_marks", "_law_again", "_law_a", "_law_b"] ["_law_line_here", "_law_piece", "_law_number"] (defScope s_law_set) := ⟨rfl, rfl, rfl, by decide +kernel, rfl, by decide +kernel, by decide +kernel⟩
theorem cc_law_set_0 : CompOk (defScope s_law_set) ["_law_line_here", "_law_piece", "_law_number", "_law_marks", "_law_again", "_law_a", "_law_b"] { kind := .function, names := [(Str.ofString ".0", .local), (Str.ofString "_law_a", .local), (Str.ofString "_law_b", .local)], isGenerator := false, isCoroutine := false, more := [] } ["_law_a", "_law_b"] 2 [none, none] := ⟨rfl, by decide +kernel, by decide +kernel, by decide +kernel, rfl, by decide +kernel, rfl, by decide +kernel⟩
section
variable {P : Program} {w : World} {K : PySem.W.Frag} {mg : Str → Option Value} {base : Heap} {f : Addr} {fd : FuncData}
theorem ok_law_set {f1 : Addr} {fd1 : FuncData} (F : Fn K mg "_law_set" s_law_set ["_law_line_here", "_law_piece", "_law_number"] f fd) (B : Bm mg) (F_law_other : Fn K mg "_law_other" s_law_other ["_law_end"] f1 fd1) : FnOk P w K mg base CX0 2 f fd ["_law_line_here", "_law_piece", "_law_number"] (sp_set K) := by
 have G_law_other : FnOk P w K mg base CX0 1 f1 fd1 ["_law_end"] sp_other := ok_law_other F_law_other
 refine F.F.ok sc_law_set (fun vs H Q E h => ?_) (fun cdv A outer s H vs Q E hr h => ?_)
 ·obtain ⟨v, l, e, n, rfl, _⟩ := h; rfl
 ·obtain ⟨v, l, pc, n, rfl, hv, ok, p0, p1, k⟩ := h
  obtain ⟨a, b, rfl, ht, us, hl, hq⟩ := da_line hv
  have h1 := ok.one
  have h40 := ok.most
  have h80 := ok.len
  have hlen := das_ints_len hq
  refine ⟨_, (@pss_cons _ _ _ _ _ (@ps_set _ _ (3) _ _ _ _ sc_law_set.nd rfl (Or.inl rfl) (@pe_disp _ _ _ _ _ (@pps_cons _ _ _ _ _ _ _ _ _ (@pe_op _ _ _ _ _ _ _ _ (@op_mul _) (@pe_int _ _ _ _) (@pv _ 1 _ _ (by rfl) (by first | exact Or.inl rfl | exact Or.inr (  Or.inl rfl ) | exact Or.inr (  Or.inr rfl )) (by decide) (by decide))) (@pe_op _ _ _ _ _ _ _ _ (@op_mod _) (@pv _ 2 _ _ (by rfl) (by first | exact Or.inl rfl | exact Or.inr (  Or.inl rfl ) | exact Or.inr (  Or.inr rfl )) (by decide) (by decide)) (@pe_int _ _ _ _)) (@pps_cons _ _ _ _ _ _ _ _ _ (@pe_op _ _ _ _ _ _ _ _ (@op_add _) (@pe_op _ _ _ _ _ _ _ _ (@op_mul _) (@pe_int _ _ _ _) (@pv _ 1 _ _ (by rfl) (by first | exact Or.inl rfl | exact Or.inr (  Or.inl rfl ) | exact Or.inr (  Or.inr rfl )) (by decide) (by decide))) (@pe_int _ _ _ _)) (@pe_op _ _ _ _ _ _ _ _ (@op_sub _) (@pe_int _ _ _ _) (@pe_op _ _ _ _ _ _ _ _ (@op_mod _) (@pv _ 2 _ _ (by rfl) (by first | exact Or.inl rfl | exact Or.inr (  Or.inl rfl ) | exact Or.inr (  Or.inr rfl )) (by decide) (by decide)) (@pe_int _ _ _ _))) (@pps_nil _ _))) rfl rfl (by simp) (by decide)) (by rfl) (by first | exact .inl rfl | exact .inr rfl | assumption)) (@pss_cons _ _ _ _ _ (@ps_for _ _ _ _ _ _ _ _ PassesOwn.never rfl (@pi_range1 _ _ _ _ _ _ rfl B.range (@pa_cons _ _ _ _ _ (@pe_ix _ _ _ _ _ _ _ (@ix_tup _) (@pv _ 0 _ _ (by rfl) (by first | exact Or.inl rfl | exact Or.inr (  Or.inl rfl ) | exact Or.inr (  Or.inr rfl )) (by decide) (by decide)) (@pe_int _ _ _ _) (fun _ _ => rfl)) (@pa_nil _) (by rfl)) (by rfl)) (@pg_name _ _ (4) _ sc_law_set.nd rfl (Or.inl rfl) (by first | exact .inl rfl | exact .inr rfl | assumption)) (@pss_one _ _ _ (@ps_for _ _ _ _ _ _ _ _ PassesOwn.never rfl (@pi_list _ _ _ _ (@pe_op _ _ _ _ _ _ _ _ (@op_catS _) (@pe_ix _ _ _ _ _ _ _ (@ix_tup _) (@pv _ 0 _ _ (by rfl) (by first | exact Or.inl rfl | exact Or.inr (  Or.inl rfl ) | exact Or.inr (  Or.inr rfl )) (by decide) (by decide)) (@pe_int _ _ _ _) (fun _ _ => rfl)) (@pe_lc _ _ _ _ _ _ _ _ _ _ _ _ _ _ (@pi_list _ _ _ _ (@pe_ix _ _ _ _ _ _ _ (@ix_tup _) (@pv _ 0 _ _ (by rfl) (by first | exact Or.inl rfl | exact Or.inr (  Or.inl rfl ) | exact Or.inr (  Or.inr rfl )) (by decide) (by decide)) (@pe_int _ _ _ _) (fun _ _ => rfl))) rfl cc_law_set_0 (.tup (.cons (.name (by decide)) (.cons (.name (by decide)) .nil))) (fun _ _ _ _ => (@pg_tup _ _ _ _ _ (2) rfl (@pgs_cons _ _ _ _ _ (@pg_name _ _ (0) _ cc_law_set_0.nd rfl (Or.inl rfl) (by first | exact .inl rfl | exact .inr rfl | assumption)) (@pgs_cons _ _ _ _ _ (@pg_name _ _ (1) _ cc_law_set_0.nd rfl (Or.inl rfl) (by first | exact .inl rfl | exact .inr rfl | assumption)) (@pgs_nil _) (by rfl)) (by rfl)) (by rfl) (by rfl))) (fun _ _ _ _ => @pifs_nil _) (fun _ _ _ _ => (@pe_tup _ _ _ _ _ (@pa_cons _ _ _ _ _ (@pv _ 1 _ _ (by rfl) (by first | exact Or.inl rfl | exact Or.inr (  Or.inl rfl ) | exact Or.inr (  Or.inr rfl )) (by decide) (by decide)) (@pa_cons _ _ _ _ _ (@pv _ 0 _ _ (by rfl) (by first | exact Or.inl rfl | exact Or.inr (  Or.inl rfl ) | exact Or.inr (  Or.inr rfl )) (by decide) (by decide)) (@pa_nil _) (by rfl)) (by rfl)))) (by intros; rfl)))) (@pg_tup _ _ _ _ _ (2) rfl (@pgs_cons _ _ _ _ _ (@pg_name _ _ (5) _ sc_law_set.nd rfl (Or.inl rfl) (by first | exact .inl rfl | exact .inr rfl | assumption)) (@pgs_cons _ _ _ _ _ (@pg_name _ _ (6) _ sc_law_set.nd rfl (Or.inl rfl) (by first | exact .inl rfl | exact .inr rfl | assumption)) (@pgs_nil _) (by rfl)) (by rfl)) (by rfl) (by rfl)) (@pss_one _ _ _ (@ps_if _ _ _ _ _ _ _ _ (PW.pt (@pw_and _ _ _ _ _ _ _ (pt_cmp (@pc_din _ _ _ _ _ (@hu_of _ _ hr) (@pv _ 5 _ _ (by rfl) (by first | exact Or.inl rfl | exact Or.inr (  Or.inl rfl ) | exact Or.inr (  Or.inr rfl )) (by decide) (by decide)) (@pv _ 3 _ _ (by rfl) (by first | exact Or.inl rfl | exact Or.inr (  Or.inl rfl ) | exact Or.inr (  Or.inr rfl )) (by decide) (by decide)))) (@pw_and1 _ _ _ _ (pt_cmp (@pc_dnotin _ _ _ _ _ (@hu_of _ _ hr) (@pv _ 6 _ _ (by rfl) (by first | exact Or.inl rfl | exact Or.inr (  Or.inl rfl ) | exact Or.inr (  Or.inr rfl )) (by decide) (by decide)) (@pv _ 3 _ _ (by rfl) (by first | exact Or.inl rfl | exact Or.inr (  Or.inl rfl ) | exact Or.inr (  Or.inr rfl )) (by decide) (by decide))))))) (@pss_cons _ _ _ _ _ (@ps_dput _ _ _ _ _ _ _ _ _ (@hu_of _ _ hr) (@pv _ 3 _ _ (by rfl) (by first | exact Or.inl rfl | exact Or.inr (  Or.inl rfl ) | exact Or.inr (  Or.inr rfl )) (by decide) (by decide)) (@pv _ 6 _ _ (by rfl) (by first | exact Or.inl rfl | exact Or.inr (  Or.inl rfl ) | exact Or.inr (  Or.inr rfl )) (by decide) (by decide)) (@pe_op _ _ _ _ _ _ _ _ (@op_sub _) (@pe_int _ _ _ _) (@pe_dget _ _ _ _ _ _ (@hu_of _ _ hr) (@pv _ 3 _ _ (by rfl) (by first | exact Or.inl rfl | exact Or.inr (  Or.inl rfl ) | exact Or.inr (  Or.inr rfl )) (by decide) (by decide)) (@pv _ 5 _ _ (by rfl) (by first | exact Or.inl rfl | exact Or.inr (  Or.inl rfl ) | exact Or.inr (  Or.inr rfl )) (by decide) (by decide)) (fun _ _ => rfl))) rfl) (@pss_one _ _ _ (@ps_dput _ _ _ _ _ _ _ _ _ (@hu_of _ _ hr) (@pv _ 3 _ _ (by rfl) (by first | exact Or.inl rfl | exact Or.inr (  Or.inl rfl ) | exact Or.inr (  Or.inr rfl )) (by decide) (by decide)) (@pe_call _ _ _ _ _ _ _ _ _ _ _ _ _ _ _ _ G_law_other (hr.mono (by decide)) rfl F_law_other.m F_law_other.F.kp F_law_other.b .nil (@pass0 _) (@pa_cons _ _ _ _ _ (@pv _ 6 _ _ (by rfl) (by first | exact Or.inl rfl | exact Or.inr (  Or.inl rfl ) | exact Or.inr (  Or.inr rfl )) (by decide) (by decide)) (@pa_nil _) (by rfl)) (by decide) (by rfl) (by rfl)) (@pe_dget _ _ _ _ _ _ (@hu_of _ _ hr) (@pv _ 3 _ _ (by rfl) (by first | exact Or.inl rfl | exact Or.inr (  Or.inl rfl ) | exact Or.inr (  Or.inr rfl )) (by decide) (by decide)) (@pv _ 5 _ _ (by rfl) (by first | exact Or.inl rfl | exact Or.inr (  Or.inl rfl ) | exact Or.inr (  Or.inr rfl )) (by decide) (by decide)) (fun _ _ => rfl)) rfl))) (@pss_nil _))) (by intros; rfl))) (by intros; rfl)) (@pss_one _ _ _ (@ps_ret _ _ _ _ (@pv _ 3 _ _ (by rfl) (by first | exact Or.inl rfl | exact Or.inr (  Or.inl rfl ) | exact Or.inr (  Or.inr rfl )) (by decide) (by decide)))))), ?_⟩
  intro pd npd
  refine ⟨_, rfl, _, _, rfl, rfl, .inl ⟨by decide, by decide⟩, _, rfl, _, _, rfl, rfl, (by show (0 : Int) < _; decide), ?_⟩
  refine ⟨_, rfl, _, _, rfl, rfl, .inl ⟨by decide, by decide⟩, _, _, rfl, rfl, _, rfl, _, _, rfl, rfl, (by show (0 : Int) < _; decide), _, _, rfl, rfl, upd_same, [(.inl (2 * pc), .int (n % 2)), (.inl (2 * pc + 1), .int (1 - n % 2))], rfl, by show 2 ≤ 15; decide, ?_⟩
  rw [upd_self]
  have M0 := Mks.first pc (n % 2) (1 - n % 2)
  generalize mergeK [] [((.inl (2 * pc) : Key), V.int (n % 2)), (.inl (2 * pc + 1), .int (1 - n % 2))] = kv0 at M0 ⊢
  have S1 := same_upd (o := .dK kv0) npd
  have hd1 : (upd H pd (.dK kv0)) pd = some (.dK kv0) := upd_same
  generalize upd H pd _ = H1 at S1 hd1 ⊢
  refine ⟨_, rfl, a, _, _, _, rfl, rfl, same_tseq S1 ht, rfl, _, rfl, by omega, by omega,
   for_range (fun r σ H3 => ∃ (kvs : List (Key × V)) (ks : List Int) (x4 x5 x6 : Option V), σ = [some (.ref a), some (.int pc), some (.int n), some (.ref pd), x4, x5, x6] ∧ Same H H3 ∧ H3 pd = some (.dK kvs) ∧ Mks kvs ks ∧ ks.Nodup ∧ pc ∈ ks ∧ (∀ q ∈ ks, Cn l.2 pc q) ∧ (Shut l.2 ks ∨ r + 1 ≤ ks.length))
    ⟨kv0, [pc], none, none, none, rfl, S1, hd1, M0, by simp, by simp, (fun q hq => by simp at hq; subst hq; exact .refl), .inr (by simp)⟩ ?_ ?_⟩
  ·rintro r σ H3 hr3 ⟨kvs0, ks0, x4, x5, x6, rfl, S3, hd3, M3, nd3, hpc3, hcn3, hsh3⟩
   refine ⟨_, rfl, a, _, _, _, rfl, rfl, same_tseq S3 ht, rfl, _, rfl, a, _, _, _, rfl, rfl, same_tseq S3 ht, rfl, b, rfl, ⟨us, S3.seq hl⟩, fun q nq => lc_data (K := K) us.length l.2 (fun p => dP (swp p)) nq hlen (small_l (by omega)) (fun j G s hj => (js_list (S3.seq hl)).go j G s hj) (fun G s => (js_list (S3.seq hl)).stop G s) ?_ ?_⟩
   ·intro j x d G G' sG hu yG hd P1 P0 k1
    obtain ⟨rfl, y⟩ := yG
    obtain ⟨ad, ⟨ea, eb⟩, e1, rfl, hpr⟩ := das_pair (Das.same (S3.trans sG) hq) (y _ ((S3.trans sG).seq hl))
    rw [hd] at e1
    cases e1
    dsimp only at hpr
    refine ⟨ad, _, rfl, hpr, rfl, _, _, rfl, _, _, rfl, rfl, yes_if ⟨_, rfl, _, rfl, by show 2 ≤ sizeLine; decide, fun pt npt => ?_⟩⟩
    refine k1 _ _ (same_upd npt) (dg_tuple.mpr ⟨pt, _, rfl, SqT.of ?_, Dgs.two (dg_int.mpr rfl) (dg_int.mpr rfl)⟩)
    obtain ⟨us', hu'⟩ := hu
    rw [hid_ne (fun z => by rw [z, hu'] at npt; cases npt), upd_same]
    rfl
   intro vs G sG hG hD
   have hvl : vs.length = l.2.length := by have := Dgs.length hD; rwa [List.length_map] at this
   refine ⟨b, q, us, vs, rfl, rfl, (S3.trans sG).seq hl, SqL.of hG, Nat.le_of_lt (small_l (by omega)), fun pe npe => ?_⟩
   have hD2 : Das K G ((l.2.map swp).map dP) vs := by rw [List.map_map]; exact Das.same hid_same hD
   have hB : Das K H3 (l.2.map dP) us := Das.same S3 hq
   have S5 : Same H3 (upd G pe (.lst (us ++ vs))) := sG.trans (same_upd npe)
   have hB5 : Das K (upd G pe (.lst (us ++ vs))) ((both l.2).map dP) (us ++ vs) := Das.same (same_upd npe) (das_both (Das.same sG hB) hD2)
   have he5 : (upd G pe (.lst (us ++ vs))) pe = some (.lst (us ++ vs)) := upd_same
   have ped : pe ≠ pd := fun z => by have := sG _ _ hd3; rw [← z, npe] at this; cases this
   generalize upd G pe _ = H5 at S5 hB5 he5 ⊢
   refine ⟨pe, rfl, ⟨_, SqL.of he5⟩, for_list (K := K) (a := pe) (xs := us ++ vs) (fun i σ H6 => ∃ (kvs : List (Key × V)) (ks : List Int) (x5 x6 : Option V), σ = [some (.ref a), some (.int pc), some (.int n), some (.ref pd), some (.int (0 + (r : Int))), x5, x6] ∧ Same H H6 ∧ Same (hid pd H5) H6 ∧ H6 pd = some (.dK kvs) ∧ Mks kvs ks ∧ ks.Nodup ∧ pc ∈ ks ∧ (∀ q ∈ ks, Cn l.2 pc q) ∧
     ((ks = ks0 ∧ ∀ p ∈ (both l.2).take i, p.1 / 2 ∈ ks → p.2 / 2 ∈ ks) ∨ (¬ Shut l.2 ks0 ∧ ks0.length + 1 ≤ ks.length)))
    ⟨kvs0, ks0, x5, x6, rfl, S3.trans S5, hid_same, S5 _ _ hd3, M3, nd3, hpc3, hcn3, .inl ⟨rfl, fun p hp => by simp at hp⟩⟩
    (fun i σ H6 _ ⟨_, _, _, _, _, _, e, _⟩ => SqL.of (e _ _ (by rw [hid_ne ped]; exact he5))) ?_ ?_⟩
   ·rintro i y σ H6 hi ⟨kvs, ks, x5, x6, rfl, S6, T6, hd6, M6, nd6, hpc6, hcn6, hst⟩
    have hBh : Das K (hid pd H5) ((both l.2).map dP) (us ++ vs) := das_pairs_to (fun b xs => sqt_hidD (S5 _ _ hd3)) hB5
    obtain ⟨ad, ⟨ea, eb⟩, e1, rfl, hpr⟩ := das_pair (Das.same T6 hBh) hi
    dsimp only at hpr
    have hb := both_ends ok (List.mem_of_getElem? e1)
    have hadj := both_adj (List.mem_of_getElem? e1)
    dsimp only at hb hadj
    have kb := nodup_bound nd6 fun q hq => (hcn6 q hq).bound ok ⟨p0, p1⟩
    have ml := M6.ln
    refine ⟨ad, _, rfl, hpr, rfl, _, _, rfl, _, _, rfl, rfl, ?_⟩
    refine ⟨_, rfl, _, rfl, pd, _, rfl, DGet.k (k := .inl ea) hd6, _, rfl, ite2 (fun h1 => ?_) (fun h1 => ?_)⟩
    ·have h1 : ea / 2 ∈ ks := (M6.hs ea).mp h1
     refine ⟨_, rfl, _, rfl, pd, _, rfl, DGet.k (k := .inl eb) hd6, _, rfl, ite2 (fun h2 => ?_) (fun h2 => ?_)⟩
     ·have h2 : eb / 2 ∉ ks := fun z => by rw [(M6.hs eb).mpr z] at h2; cases h2
      have hne : ea ≠ eb := fun z => h2 (z ▸ h1)
      obtain ⟨x, hx⟩ : ∃ x : Int, valV kvs (.inl ea) = some (.int x) := by
       cases hv : valV kvs (.inl ea) with
       | none => have := (M6.hs ea).mpr h1; rw [hv] at this; cases this
       | some v => obtain ⟨i, rfl⟩ := M6.iv ea v hv; exact ⟨i, rfl⟩
      have g1 : DGet H6 pd (kV (.inl ea)) (some (.int x)) := hx ▸ DGet.k (k := .inl ea) hd6
      refine ⟨_, rfl, _, rfl, pd, _, rfl, g1, _, _, rfl, rfl, _, rfl, _, rfl, pd, _, rfl, DPut.k (k := .inl eb) hd6 (small_l (by omega)), ?_⟩
      have hd7 : (upd H6 pd (.dK (putK kvs (.inl eb) (.int (1 - x))))) pd = some (.dK (putK kvs (.inl eb) (.int (1 - x)))) := upd_same
      have hx7 : valV (putK kvs (.inl eb) (.int (1 - x))) (.inl ea) = some (.int x) := by
       rw [valV_put, if_neg (by intro z; cases z; exact hne rfl)]
       exact hx
      have g2 : DGet (upd H6 pd (.dK (putK kvs (.inl eb) (.int (1 - x))))) pd (kV (.inl ea)) (some (.int x)) := hx7 ▸ DGet.k (k := .inl ea) hd7
      have hl7 := length_putK kvs (.inl eb) (.int (1 - x))
      refine ⟨_, rfl, _, rfl, pd, _, rfl, g2, _, rfl, _, rfl, _, rfl, pd, _, rfl, DPut.k (k := .inl (oth eb)) hd7 (small_l (by omega)), ?_⟩
      rw [upd_self]
      have nd7 : (ks ++ [eb / 2]).Nodup := List.nodup_append.mpr ⟨nd6, by simp, fun a ha b hb => by simp at hb; subst hb; exact fun z => h2 (z ▸ ha)⟩
      have hcn7 : ∀ q ∈ ks ++ [eb / 2], Cn l.2 pc q := fun q hq => (List.mem_append.mp hq).elim (hcn6 q) fun z => by simp at z; subst z; exact (hcn6 _ h1).step hadj
      refine ⟨_, ks ++ [eb / 2], _, _, rfl, Same.upd S6 npd, Same.upd T6 hid_self, upd_same, M6.add h2, nd7, List.mem_append_left _ hpc6, hcn7, .inr ?_⟩
      rw [List.length_append, List.length_singleton]
      rcases hst with ⟨rfl, _⟩ | ⟨z1, z2⟩
      ·exact ⟨fun z => h2 (z _ h1 _ hadj), Nat.le_refl _⟩
      ·exact ⟨z1, by omega⟩
     ·have h2 : eb / 2 ∈ ks := (M6.hs eb).mp (by cases hv : (valV kvs (.inl eb)).isSome with | true => rfl | false => rw [hv] at h2; exact absurd rfl h2)
      refine ⟨kvs, ks, _, _, rfl, S6, T6, hd6, M6, nd6, hpc6, hcn6, ?_⟩
      rcases hst with ⟨rfl, hp⟩ | z
      ·refine .inl ⟨rfl, fun p hp' => ?_⟩
       rw [List.take_add_one, e1] at hp'
       rcases List.mem_append.mp hp' with z | z
       ·exact hp p z
       ·have z : p = (ea, eb) := by simpa using z
        subst z
        exact fun _ => h2
      ·exact .inr z
    ·have h1 : ea / 2 ∉ ks := fun z => h1 ((M6.hs ea).mpr z)
     refine iteF ⟨kvs, ks, _, _, rfl, S6, T6, hd6, M6, nd6, hpc6, hcn6, ?_⟩
     rcases hst with ⟨rfl, hp⟩ | z
     ·refine .inl ⟨rfl, fun p hp' => ?_⟩
      rw [List.take_add_one, e1] at hp'
      rcases List.mem_append.mp hp' with z | z
      ·exact hp p z
      ·have z : p = (ea, eb) := by simpa using z
       subst z
       exact fun c => absurd c h1
     ·exact .inr z
   ·rintro σ H6 ⟨kvs, ks, x5, x6, rfl, S6, T6, hd6, M6, nd6, hpc6, hcn6, hst⟩
    refine ⟨kvs, ks, _, _, _, rfl, S6, hd6, M6, nd6, hpc6, hcn6, ?_⟩
    rcases hst with ⟨rfl, hp⟩ | ⟨z1, z2⟩
    ·have hlb : (us ++ vs).length = (both l.2).length := by unfold both; rw [List.length_append, List.length_append, List.length_map, hlen, hvl]
     rw [hlb, List.take_length] at hp
     exact .inl (shut_both hp)
    ·rcases hsh3 with c | c
     ·exact absurd c z1
     ·exact .inr (by omega)
  rintro σ H3 ⟨kvs, ks, x4, x5, x6, rfl, S3, hd3, M3, nd3, hpc3, hcn3, hsh3⟩
  refine ⟨_, rfl, k pd kvs ks H3 S3 npd hd3 M3 fun q => ?_⟩
  have kb := nodup_bound nd3 fun q hq => (hcn3 q hq).bound ok ⟨p0, p1⟩
  have hs : Shut l.2 ks := hsh3.elim id fun z => by have z : l.1.toNat + 1 ≤ ks.length := z; omega
  exact shut_iff hpc3 hcn3 hs q
end
end K32
namespace K32
open PySem L2 TL PyProof.Rows
theorem seq_cut {t u : TS} {D : Ends} {σ : St} {H : Hp} (J : St → Hp → Prop) (first : ∀ nx : St → Hp → Prop, (∀ σ' H', J σ' H' → nx σ' H') → t { D with nx := nx } σ H) (rest : ∀ σ' H', J σ' H' → u D σ' H') : tSeq t u D σ H :=
 first (u D) rest
theorem ixN_of {n : Nat} {i : Int} (h0 : 0 ≤ i) (h1 : i < n) : ixN n i = some i.toNat := by unfold ixN; rw [if_pos h0, if_pos h1]
def sp_bent (K : PySem.W.Frag) : Sp := fun vs H Q _ => ∃ (v : V) (ms : List Int) (n : Int), vs = [v, .int n] ∧ Da K H (dI ms) v ∧ ms.length ≤ 900 ∧ 0 ≤ n ∧ ∀ (p : Addr) (ms' : List Int) (H' : Hp), Same H H' → H p = none → H' p = some (.lst (ms'.map V.int)) → ms'.length ≤ ms.length + 1 → Q (.ref p) H'
def JB (H0 : Hp) (v : V) (n way at_ sm : Int) (L : Nat) (j : Int) (σ : St) (H : Hp) : Prop := ∃ (p : Addr) (ms : List Int), σ = [some v, some (.int n), some (.ref p), some (.int way), some (.int at_), some (.int sm)] ∧ Same H0 H ∧ H0 p = none ∧ H p = some (.lst (ms.map V.int)) ∧ ms.length ≤ L + 1 ∧ (j ≤ way → ms.length = L)
abbrev s_law_bent : Stmt := top 17
theorem sc_law_bent : FnScope ["_law_marking", "_law_number", "_law_found", "_law_way", "_law_at", "_law_some"] ["_law_marking", "_law_number"] (defScope s_law_bent) := ⟨rfl, rfl, rfl, by decide +kernel, rfl, by decide +kernel, by decide +kernel⟩
theorem cc_law_bent_0 : CompOk (defScope s_law_bent) ["_law_marking", "_law_number", "_law_found", "_law_way", "_law_at", "_law_some"] { kind := .function, names := [(Str.ofString ".0", .local), (Str.ofString "_law_mark", .local)], isGenerator := false, isCoroutine := false, more := [] } ["_law_mark"] 1 [none] := ⟨rfl, by decide +kernel, by decide +kernel, by decide +kernel, rfl, by decide +kernel, rfl, by decide +kernel⟩
section
variable {P : Program} {w : World} {K : PySem.W.Frag} {mg : Str → Option Value} {base : Heap} {f : Addr} {fd : FuncData}
theorem ok_law_bent (F : Fn K mg "_law_bent" s_law_bent ["_law_marking", "_law_number"] f fd) (B : Bm mg) : FnOk P w K mg base CX0 1 f fd ["_law_marking", "_law_number"] (sp_bent K) := by
 refine F.F.ok sc_law_bent (fun vs H Q E h => ?_) (fun cdv A outer s H vs Q E hr h => ?_)
 ·obtain ⟨v, ms, n, rfl, _⟩ := h; rfl
 ·obtain ⟨v, ms, n, rfl, hv, hz, hn, k⟩ := h
  obtain ⟨c, rfl, hc⟩ := da_ints.mp hv
  refine ⟨_, (@pss_cons _ _ _ _ _ (@ps_set _ _ (2) _ _ _ _ sc_law_bent.nd rfl (Or.inl rfl) (@pe_callTy _ _ _ _ _ _ _ _ _ (@call_list_of _) rfl B.list boot_list (@pa_cons _ _ _ _ _ (@pv _ 0 _ _ (by rfl) (by first | exact Or.inl rfl | exact Or.inr (  Or.inl rfl ) | exact Or.inr (  Or.inr rfl )) (by decide) (by decide)) (@pa_nil _) (by rfl)) (by decide) (by decide) (by rfl) (by rfl)) (by rfl) (by first | exact .inl rfl | exact .inr rfl | assumption)) (@pss_cons _ _ _ _ _ (@ps_set _ _ (3) _ _ _ _ sc_law_bent.nd rfl (Or.inl rfl) (@pe_op _ _ _ _ _ _ _ _ (@op_mod _) (@pv _ 1 _ _ (by rfl) (by first | exact Or.inl rfl | exact Or.inr (  Or.inl rfl ) | exact Or.inr (  Or.inr rfl )) (by decide) (by decide)) (@pe_int _ _ _ _)) (by rfl) (by first | exact .inl rfl | exact .inr rfl | assumption)) (@pss_cons _ _ _ _ _ (@ps_set _ _ (4) _ _ _ _ sc_law_bent.nd rfl (Or.inl rfl) (@pe_op _ _ _ _ _ _ _ _ (@op_mod _) (@pe_op _ _ _ _ _ _ _ _ (@op_fdiv _) (@pv _ 1 _ _ (by rfl) (by first | exact Or.inl rfl | exact Or.inr (  Or.inl rfl ) | exact Or.inr (  Or.inr rfl )) (by decide) (by decide)) (@pe_int _ _ _ _)) (@pe_callB _ _ _ _ _ _ _ _ _ (@call_max2 _ rfl) rfl B.max boot_max (@pa_cons _ _ _ _ _ (@pe_int _ _ _ _) (@pa_cons _ _ _ _ _ (@pe_op _ _ _ _ _ _ _ _ (@op_fdiv _) (@pe_callB _ _ _ _ _ _ _ _ _ (@call_len_seq _) rfl B.len boot_len (@pa_cons _ _ _ _ _ (@pv _ 2 _ _ (by rfl) (by first | exact Or.inl rfl | exact Or.inr (  Or.inl rfl ) | exact Or.inr (  Or.inr rfl )) (by decide) (by decide)) (@pa_nil _) (by rfl)) (by decide) (by decide) (by rfl) (by rfl)) (@pe_int _ _ _ _)) (@pa_nil _) (by rfl)) (by rfl)) (by decide) (by decide) (by rfl) (by rfl))) (by rfl) (by first | exact .inl rfl | exact .inr rfl | assumption)) (@pss_cons _ _ _ _ _ (@ps_set _ _ (5) _ _ _ _ sc_law_bent.nd rfl (Or.inl rfl) (@pe_op _ _ _ _ _ _ _ _ (@op_fdiv _) (@pv _ 1 _ _ (by rfl) (by first | exact Or.inl rfl | exact Or.inr (  Or.inl rfl ) | exact Or.inr (  Or.inr rfl )) (by decide) (by decide)) (@pe_int _ _ _ _)) (by rfl) (by first | exact .inl rfl | exact .inr rfl | assumption)) (@pss_cons _ _ _ _ _ (@ps_if _ _ _ _ _ _ _ _ (pt_cmp (@pc_lt _ _ _ _ _ (@pe_callB _ _ _ _ _ _ _ _ _ (@call_len_seq _) rfl B.len boot_len (@pa_cons _ _ _ _ _ (@pv _ 2 _ _ (by rfl) (by first | exact Or.inl rfl | exact Or.inr (  Or.inl rfl ) | exact Or.inr (  Or.inr rfl )) (by decide) (by decide)) (@pa_nil _) (by rfl)) (by decide) (by decide) (by rfl) (by rfl)) (@pe_int _ _ _ _))) (@pss_one _ _ _ (@ps_ret _ _ _ _ (@pe_op _ _ _ _ _ _ _ _ (@op_cat _) (@pv _ 2 _ _ (by rfl) (by first | exact Or.inl rfl | exact Or.inr (  Or.inl rfl ) | exact Or.inr (  Or.inr rfl )) (by decide) (by decide)) (@pe_lst _ _ _ _ (@pa_cons _ _ _ _ _ (@pe_op _ _ _ _ _ _ _ _ (@op_mod _) (@pv _ 5 _ _ (by rfl) (by first | exact Or.inl rfl | exact Or.inr (  Or.inl rfl ) | exact Or.inr (  Or.inr rfl )) (by decide) (by decide)) (@pe_int _ _ _ _)) (@pa_nil _) (by rfl)))))) (@pss_nil _)) (@pss_cons _ _ _ _ _ (@ps_if _ _ _ _ _ _ _ _ (pt_cmp (@pc_lt _ _ _ _ _ (@pv _ 3 _ _ (by rfl) (by first | exact Or.inl rfl | exact Or.inr (  Or.inl rfl ) | exact Or.inr (  Or.inr rfl )) (by decide) (by decide)) (@pe_int _ _ _ _))) (@pss_one _ _ _ (@ps_asg _ _ _ _ _ _ (@pe_tup _ _ _ _ _ (@pa_cons _ _ _ _ _ (@pe_ix _ _ _ _ _ _ _ (@ix_list _) (@pv _ 2 _ _ (by rfl) (by first | exact Or.inl rfl | exact Or.inr (  Or.inl rfl ) | exact Or.inr (  Or.inr rfl )) (by decide) (by decide)) (@pe_op _ _ _ _ _ _ _ _ (@op_add _) (@pe_op _ _ _ _ _ _ _ _ (@op_mul _) (@pe_int _ _ _ _) (@pv _ 4 _ _ (by rfl) (by first | exact Or.inl rfl | exact Or.inr (  Or.inl rfl ) | exact Or.inr (  Or.inr rfl )) (by decide) (by decide))) (@pe_int _ _ _ _)) (fun _ _ => rfl)) (@pa_cons _ _ _ _ _ (@pe_ix _ _ _ _ _ _ _ (@ix_list _) (@pv _ 2 _ _ (by rfl) (by first | exact Or.inl rfl | exact Or.inr (  Or.inl rfl ) | exact Or.inr (  Or.inr rfl )) (by decide) (by decide)) (@pe_op _ _ _ _ _ _ _ _ (@op_mul _) (@pe_int _ _ _ _) (@pv _ 4 _ _ (by rfl) (by first | exact Or.inl rfl | exact Or.inr (  Or.inl rfl ) | exact Or.inr (  Or.inr rfl )) (by decide) (by decide))) (fun _ _ => rfl)) (@pa_nil _) (by rfl)) (by rfl))) (@pg_tup _ _ _ _ _ (2) rfl (@pgs_cons _ _ _ _ _ (@pg_sub _ _ _ _ _ _ _ (@pv _ 2 _ _ (by rfl) (by first | exact Or.inl rfl | exact Or.inr (  Or.inl rfl ) | exact Or.inr (  Or.inr rfl )) (by decide) (by decide)) (@pe_op _ _ _ _ _ _ _ _ (@op_mul _) (@pe_int _ _ _ _) (@pv _ 4 _ _ (by rfl) (by first | exact Or.inl rfl | exact Or.inr (  Or.inl rfl ) | exact Or.inr (  Or.inr rfl )) (by decide) (by decide))) (@set_list _) (by intros; rfl)) (@pgs_cons _ _ _ _ _ (@pg_sub _ _ _ _ _ _ _ (@pv _ 2 _ _ (by rfl) (by first | exact Or.inl rfl | exact Or.inr (  Or.inl rfl ) | exact Or.inr (  Or.inr rfl )) (by decide) (by decide)) (@pe_op _ _ _ _ _ _ _ _ (@op_add _) (@pe_op _ _ _ _ _ _ _ _ (@op_mul _) (@pe_int _ _ _ _) (@pv _ 4 _ _ (by rfl) (by first | exact Or.inl rfl | exact Or.inr (  Or.inl rfl ) | exact Or.inr (  Or.inr rfl )) (by decide) (by decide))) (@pe_int _ _ _ _)) (@set_list _) (by intros; rfl)) (@pgs_nil _) (by rfl)) (by rfl)) (by rfl) (by rfl)) (by rfl) (by rfl) (by rfl))) (@pss_nil _)) (@pss_cons _ _ _ _ _ (@ps_if _ _ _ _ _ _ _ _ (pt_cmp (@pc_eqI _ _ _ _ _ (@pv _ 3 _ _ (by rfl) (by first | exact Or.inl rfl | exact Or.inr (  Or.inl rfl ) | exact Or.inr (  Or.inr rfl )) (by decide) (by decide)) (@pe_int _ _ _ _))) (@pss_one _ _ _ (@ps_asg _ _ _ _ _ _ (@pe_op _ _ _ _ _ _ _ _ (@op_sub _) (@pe_int _ _ _ _) (@pe_ix _ _ _ _ _ _ _ (@ix_list _) (@pv _ 2 _ _ (by rfl) (by first | exact Or.inl rfl | exact Or.inr (  Or.inl rfl ) | exact Or.inr (  Or.inr rfl )) (by decide) (by decide)) (@pe_op _ _ _ _ _ _ _ _ (@op_mul _) (@pe_int _ _ _ _) (@pv _ 4 _ _ (by rfl) (by first | exact Or.inl rfl | exact Or.inr (  Or.inl rfl ) | exact Or.inr (  Or.inr rfl )) (by decide) (by decide))) (fun _ _ => rfl))) (@pg_sub _ _ _ _ _ _ _ (@pv _ 2 _ _ (by rfl) (by first | exact Or.inl rfl | exact Or.inr (  Or.inl rfl ) | exact Or.inr (  Or.inr rfl )) (by decide) (by decide)) (@pe_op _ _ _ _ _ _ _ _ (@op_mul _) (@pe_int _ _ _ _) (@pv _ 4 _ _ (by rfl) (by first | exact Or.inl rfl | exact Or.inr (  Or.inl rfl ) | exact Or.inr (  Or.inr rfl )) (by decide) (by decide))) (@set_list _) (by intros; rfl)) (by rfl) (by rfl) (by rfl))) (@pss_nil _)) (@pss_cons _ _ _ _ _ (@ps_if _ _ _ _ _ _ _ _ (pt_cmp (@pc_eqI _ _ _ _ _ (@pv _ 3 _ _ (by rfl) (by first | exact Or.inl rfl | exact Or.inr (  Or.inl rfl ) | exact Or.inr (  Or.inr rfl )) (by decide) (by decide)) (@pe_int _ _ _ _))) (@pss_cons _ _ _ _ _ (@ps_asg _ _ _ _ _ _ (@pe_ix _ _ _ _ _ _ _ (@ix_list _) (@pe_lst _ _ _ _ (@pa_cons _ _ _ _ _ (@pe_int _ _ _ _) (@pa_cons _ _ _ _ _ (@pe_un _ _ _ _ _ _ (@un_neg _) (@pe_int _ _ _ _)) (@pa_cons _ _ _ _ _ (@pe_op _ _ _ _ _ _ _ _ (@op_pow _) (@pe_int _ _ _ _) (@pe_int _ _ _ _)) (@pa_nil _) (by rfl)) (by rfl)) (by rfl))) (@pe_op _ _ _ _ _ _ _ _ (@op_mod _) (@pv _ 5 _ _ (by rfl) (by first | exact Or.inl rfl | exact Or.inr (  Or.inl rfl ) | exact Or.inr (  Or.inr rfl )) (by decide) (by decide)) (@pe_int _ _ _ _)) (fun _ _ => rfl)) (@pg_sub _ _ _ _ _ _ _ (@pv _ 2 _ _ (by rfl) (by first | exact Or.inl rfl | exact Or.inr (  Or.inl rfl ) | exact Or.inr (  Or.inr rfl )) (by decide) (by decide)) (@pe_op _ _ _ _ _ _ _ _ (@op_mul _) (@pe_int _ _ _ _) (@pv _ 4 _ _ (by rfl) (by first | exact Or.inl rfl | exact Or.inr (  Or.inl rfl ) | exact Or.inr (  Or.inr rfl )) (by decide) (by decide))) (@set_list _) (by intros; rfl)) (by rfl) (by rfl) (by rfl)) (@pss_one _ _ _ (@ps_asg _ _ _ _ _ _ (@pe_ix _ _ _ _ _ _ _ (@ix_list _) (@pe_lst _ _ _ _ (@pa_cons _ _ _ _ _ (@pe_ix _ _ _ _ _ _ _ (@ix_list _) (@pv _ 2 _ _ (by rfl) (by first | exact Or.inl rfl | exact Or.inr (  Or.inl rfl ) | exact Or.inr (  Or.inr rfl )) (by decide) (by decide)) (@pe_op _ _ _ _ _ _ _ _ (@op_add _) (@pe_op _ _ _ _ _ _ _ _ (@op_mul _) (@pe_int _ _ _ _) (@pv _ 4 _ _ (by rfl) (by first | exact Or.inl rfl | exact Or.inr (  Or.inl rfl ) | exact Or.inr (  Or.inr rfl )) (by decide) (by decide))) (@pe_int _ _ _ _)) (fun _ _ => rfl)) (@pa_cons _ _ _ _ _ (@pe_op _ _ _ _ _ _ _ _ (@op_sub _) (@pe_int _ _ _ _) (@pe_ix _ _ _ _ _ _ _ (@ix_list _) (@pv _ 2 _ _ (by rfl) (by first | exact Or.inl rfl | exact Or.inr (  Or.inl rfl ) | exact Or.inr (  Or.inr rfl )) (by decide) (by decide)) (@pe_op _ _ _ _ _ _ _ _ (@op_mul _) (@pe_int _ _ _ _) (@pv _ 4 _ _ (by rfl) (by first | exact Or.inl rfl | exact Or.inr (  Or.inl rfl ) | exact Or.inr (  Or.inr rfl )) (by decide) (by decide))) (fun _ _ => rfl))) (@pa_nil _) (by rfl)) (by rfl))) (@pe_op _ _ _ _ _ _ _ _ (@op_mod _) (@pe_op _ _ _ _ _ _ _ _ (@op_fdiv _) (@pv _ 5 _ _ (by rfl) (by first | exact Or.inl rfl | exact Or.inr (  Or.inl rfl ) | exact Or.inr (  Or.inr rfl )) (by decide) (by decide)) (@pe_int _ _ _ _)) (@pe_int _ _ _ _)) (fun _ _ => rfl)) (@pg_sub _ _ _ _ _ _ _ (@pv _ 2 _ _ (by rfl) (by first | exact Or.inl rfl | exact Or.inr (  Or.inl rfl ) | exact Or.inr (  Or.inr rfl )) (by decide) (by decide)) (@pe_op _ _ _ _ _ _ _ _ (@op_add _) (@pe_op _ _ _ _ _ _ _ _ (@op_mul _) (@pe_int _ _ _ _) (@pv _ 4 _ _ (by rfl) (by first | exact Or.inl rfl | exact Or.inr (  Or.inl rfl ) | exact Or.inr (  Or.inr rfl )) (by decide) (by decide))) (@pe_int _ _ _ _)) (@set_list _) (by intros; rfl)) (by rfl) (by rfl) (by rfl)))) (@pss_nil _)) (@pss_cons _ _ _ _ _ (@ps_if _ _ _ _ _ _ _ _ (pt_cmp (@pc_eqI _ _ _ _ _ (@pv _ 3 _ _ (by rfl) (by first | exact Or.inl rfl | exact Or.inr (  Or.inl rfl ) | exact Or.inr (  Or.inr rfl )) (by decide) (by decide)) (@pe_int _ _ _ _))) (@pss_one _ _ _ (@ps_expr _ _ _ _ (@pe_bm _ _ _ _ _ _ _ _ _ _ _ _ PySem.F.plainAttrs_list PySem.F.slot_list_append PySem.F.type_list_append (@mt_append _) (@pv _ 2 _ _ (by rfl) (by first | exact Or.inl rfl | exact Or.inr (  Or.inl rfl ) | exact Or.inr (  Or.inr rfl )) (by decide) (by decide)) (@pa_cons _ _ _ _ _ (@pe_op _ _ _ _ _ _ _ _ (@op_mod _) (@pv _ 5 _ _ (by rfl) (by first | exact Or.inl rfl | exact Or.inr (  Or.inl rfl ) | exact Or.inr (  Or.inr rfl )) (by decide) (by decide)) (@pe_int _ _ _ _)) (@pa_nil _) (by rfl)) (by rfl) (by rfl) (by rfl) (by rfl) (by rfl)) (by rfl))) (@pss_nil _)) (@pss_cons _ _ _ _ _ (@ps_if _ _ _ _ _ _ _ _ (pt_cmp (@pc_eqI _ _ _ _ _ (@pv _ 3 _ _ (by rfl) (by first | exact Or.inl rfl | exact Or.inr (  Or.inl rfl ) | exact Or.inr (  Or.inr rfl )) (by decide) (by decide)) (@pe_int _ _ _ _))) (@pss_one _ _ _ (@ps_expr _ _ _ _ (@pe_bm0 _ _ _ _ _ _ _ _ _ PySem.F.plainAttrs_list PySem.F.slot_list_pop PySem.F.type_list_pop (@mt_pop _) (@pv _ 2 _ _ (by rfl) (by first | exact Or.inl rfl | exact Or.inr (  Or.inl rfl ) | exact Or.inr (  Or.inr rfl )) (by decide) (by decide)) (by rfl) (by rfl)) (by rfl))) (@pss_nil _)) (@pss_cons _ _ _ _ _ (@ps_if _ _ _ _ _ _ _ _ (pt_cmp (@pc_eqI _ _ _ _ _ (@pv _ 3 _ _ (by rfl) (by first | exact Or.inl rfl | exact Or.inr (  Or.inl rfl ) | exact Or.inr (  Or.inr rfl )) (by decide) (by decide)) (@pe_int _ _ _ _))) (@pss_one _ _ _ (@ps_lc _ _ _ _ _ _ _ _ _ _ _ _ _ _ (2) _ _ _ sc_law_bent.nd rfl rfl (@pi_list _ _ _ _ (@pv _ 2 _ _ (by rfl) (by first | exact Or.inl rfl | exact Or.inr (  Or.inl rfl ) | exact Or.inr (  Or.inr rfl )) (by decide) (by decide))) rfl cc_law_bent_0 (.name (by decide)) (fun _ _ _ _ => (@pg_name _ _ (0) _ cc_law_bent_0.nd rfl (Or.inl rfl) (by first | exact .inl rfl | exact .inr rfl | assumption))) (fun _ _ _ _ => @pifs_nil _) (fun _ _ _ _ => (@pe_op _ _ _ _ _ _ _ _ (@op_sub _) (@pe_int _ _ _ _) (@pv _ 0 _ _ (by rfl) (by first | exact Or.inl rfl | exact Or.inr (  Or.inl rfl ) | exact Or.inr (  Or.inr rfl )) (by decide) (by decide)))) (by rfl) (by intros; rfl))) (@pss_nil _)) (@pss_cons _ _ _ _ _ (@ps_if _ _ _ _ _ _ _ _ (PW.pt (@pw_and _ _ _ _ _ _ _ (pt_cmp (@pc_eqI _ _ _ _ _ (@pv _ 3 _ _ (by rfl) (by first | exact Or.inl rfl | exact Or.inr (  Or.inl rfl ) | exact Or.inr (  Or.inr rfl )) (by decide) (by decide)) (@pe_int _ _ _ _))) (@pw_and1 _ _ _ _ (pt_cmp (@pc_eqI _ _ _ _ _ (@pe_op _ _ _ _ _ _ _ _ (@op_mod _) (@pv _ 5 _ _ (by rfl) (by first | exact Or.inl rfl | exact Or.inr (  Or.inl rfl ) | exact Or.inr (  Or.inr rfl )) (by decide) (by decide)) (@pe_int _ _ _ _)) (@pe_int _ _ _ _)))))) (@pss_one _ _ _ (@ps_set _ _ (2) _ _ _ _ sc_law_bent.nd rfl (Or.inl rfl) (@pe_lst _ _ _ _ (@pa_nil _)) (by rfl) (by first | exact .inl rfl | exact .inr rfl | assumption))) (@pss_nil _)) (@pss_one _ _ _ (@ps_ret _ _ _ _ (@pv _ 2 _ _ (by rfl) (by first | exact Or.inl rfl | exact Or.inr (  Or.inl rfl ) | exact Or.inr (  Or.inr rfl )) (by decide) (by decide)))))))))))))))), ?_⟩
  refine ⟨_, rfl, c, _, rfl, .inl hc, fun p0 np0 => ?_⟩
  have s1 := same_upd (o := .lst (ms.map V.int)) np0
  have hp : (upd H p0 (.lst (ms.map V.int))) p0 = some (.lst (ms.map V.int)) := upd_same
  generalize upd H p0 _ = H1 at s1 hp ⊢
  refine ⟨_, rfl, _, _, rfl, rfl, (by show (0 : Int) < _; decide), ?_⟩
  refine ⟨_, rfl, _, _, rfl, rfl, ⟨by decide, by decide⟩, _, rfl, p0, _, rfl, .inl (SqL.of hp), _, _, rfl, rfl, ⟨by decide, by decide⟩, _, _, rfl, ?_⟩
  rw [max_if]
  rw [List.length_map]
  refine ⟨_, _, rfl, rfl, (by show (0 : Int) < max 1 _; omega), ?_⟩
  refine ⟨_, rfl, _, _, rfl, rfl, ⟨by decide, by decide⟩, ?_⟩
  refine ⟨_, rfl, p0, _, rfl, .inl (SqL.of hp), _, _, rfl, rfl, _, rfl, ite2 (fun h => ?_) (fun h => ?_)⟩
  ·refine ⟨_, rfl, _, rfl, _, _, rfl, rfl, (by show (0 : Int) < _; decide), by show 1 ≤ sizeLine; decide, fun q nq => ?_⟩
   have s2 := same_upd (o := .lst [.int (n / 200 % 2)]) nq
   refine ⟨p0, q, _, _, rfl, rfl, s2 _ _ hp, upd_same, Nat.le_of_lt (small_l (by rw [List.length_map, List.length_singleton]; omega)), fun r nr => ?_⟩
   refine k r (ms ++ [n / 200 % 2]) _ (s1.trans (s2.trans (same_upd nr))) (Same.free (s1.trans s2) nr) (by rw [upd_same, List.map_append]; rfl) (by rw [List.length_append, List.length_singleton]; exact Nat.le_refl _)
  have h2 : 2 ≤ ms.length := by
   rw [List.length_map] at h
   have h : ¬ ((ms.length : Int) < 2) := by simpa using h
   omega
  dsimp only [tNext]
  have a0 : 0 ≤ n / 9 % max 1 ((ms.length : Int) / 2) := Int.emod_nonneg _ (by omega)
  have a1 : n / 9 % max 1 ((ms.length : Int) / 2) < max 1 ((ms.length : Int) / 2) := Int.emod_lt_of_pos _ (by omega)
  generalize n / 9 % max 1 ((ms.length : Int) / 2) = at_ at a0 a1 ⊢
  have a2 : 2 * at_ + 1 < ms.length := by omega
  have w0 : 0 ≤ n % 9 := by omega
  generalize hway : n % 9 = way at w0 ⊢
  generalize n / 200 = sm
  obtain ⟨L, hL⟩ : ∃ L, ms.length = L := ⟨_, rfl⟩
  rw [hL] at a2 h2 hz k
  have l1 : ms.length ≤ L + 1 := by omega
  have l2 : 0 ≤ way → ms.length = L := fun _ => hL
  clear hc hv h a1 hL hway
  have a21 : ∀ ms' : List Int, ms'.length = L → 2 * at_ < (ms'.map V.int).length ∧ 2 * at_ + 1 < (ms'.map V.int).length := fun ms' h => by rw [List.length_map, h]; omega
  refine seq_cut (JB H (.ref c) n way at_ sm L 3) (fun nx hJ => ?_) (fun σ' H' hj => ?_)
  ·refine ⟨_, rfl, _, _, rfl, rfl, _, rfl, ite2 (fun h => ?_) (fun h => hJ _ _ ⟨p0, ms, rfl, s1, np0, hp, l1, fun z => l2 (by omega)⟩)⟩
   have hl := l2 (by omega)
   obtain ⟨g0, g1⟩ := a21 ms hl
   have e0 := at_pf (ms := ms) (x := 2 * at_) (by omega) (by omega)
   have e1 := at_pf (ms := ms) (x := 2 * at_ + 1) (by omega) (by omega)
   refine ⟨_, rfl, _, rfl, _, _, rfl, rfl, .inl ⟨by decide, by decide⟩, _, _, rfl, rfl, p0, _, _, _, rfl, rfl, SqL.of hp, e1, _, rfl, _, rfl, _, _, rfl, rfl, .inl ⟨by decide, by decide⟩, p0, _, _, _, rfl, rfl, SqL.of hp, e0, by show 2 ≤ sizeLine; decide, fun q nq => ?_⟩
   have s2 := same_upd (o := .tup [.int (pf ms (2 * at_ + 1)), .int (pf ms (2 * at_))]) nq
   have hp2 := s2 _ _ hp
   have hq2 : (upd _ q (.tup [.int (pf ms (2 * at_ + 1)), .int (pf ms (2 * at_))])) q = some (.tup [.int (pf ms (2 * at_ + 1)), .int (pf ms (2 * at_))]) := upd_same (H := H1)
   refine ⟨q, _, rfl, SqT.of hq2, rfl, _, _, rfl, ?_⟩
   refine ⟨_, rfl, _, rfl, _, _, rfl, rfl, .inl ⟨by decide, by decide⟩, p0, _, _, _, rfl, rfl, hp2, ixN_of (by omega) g0, ?_⟩
   refine ⟨_, _, rfl, _, rfl, _, rfl, _, _, rfl, rfl, .inl ⟨by decide, by decide⟩, _, _, rfl, rfl, p0, _, _, _, rfl, rfl, upd_same, ixN_of (by omega) (by rw [List.length_set]; exact g1), rfl, ?_⟩
   rw [upd_self]
   exact hJ _ _ ⟨p0, (ms.set (2 * at_).toNat (pf ms (2 * at_ + 1))).set (2 * at_ + 1).toNat (pf ms (2 * at_)), rfl, Same.upd (s1.trans s2) np0, np0, by rw [upd_same, List.map_set, List.map_set], by rw [List.length_set, List.length_set]; omega, fun _ => by rw [List.length_set, List.length_set]; exact hl⟩
  clear s1 np0 hp l1 l2
  obtain ⟨p0, ms, rfl, s1, np0, hp, l1, l2⟩ := hj
  refine seq_cut (JB H (.ref c) n way at_ sm L 4) (fun nx hJ => ?_) (fun σ' H' hj => ?_)
  ·refine ⟨_, rfl, _, _, rfl, rfl, _, rfl, ite2 (fun h => ?_) (fun h => hJ _ _ ⟨p0, ms, rfl, s1, np0, hp, l1, fun z => l2 (by omega)⟩)⟩
   have h : way = 3 := by simpa using h
   have hl := l2 (by omega)
   obtain ⟨g0, g1⟩ := a21 ms hl
   have e0 := at_pf (ms := ms) (x := 2 * at_) (by omega) (by omega)
   refine ⟨_, rfl, _, rfl, _, _, rfl, rfl, .inl ⟨by decide, by decide⟩, p0, _, _, _, rfl, rfl, SqL.of hp, e0, _, _, rfl, rfl, ?_⟩
   refine ⟨_, rfl, _, rfl, _, _, rfl, rfl, .inl ⟨by decide, by decide⟩, p0, _, _, _, rfl, rfl, hp, ixN_of (by omega) g0, ?_⟩
   exact hJ _ _ ⟨p0, ms.set (2 * at_).toNat (1 - pf ms (2 * at_)), rfl, Same.upd s1 np0, np0, by rw [upd_same, List.map_set], by rw [List.length_set]; omega, fun _ => by rw [List.length_set]; exact hl⟩
  clear s1 np0 hp l1 l2
  obtain ⟨p0, ms, rfl, s1, np0, hp, l1, l2⟩ := hj
  refine seq_cut (JB H (.ref c) n way at_ sm L 5) (fun nx hJ => ?_) (fun σ' H' hj => ?_)
  ·refine ⟨_, rfl, _, _, rfl, rfl, _, rfl, ite2 (fun h => ?_) (fun h => hJ _ _ ⟨p0, ms, rfl, s1, np0, hp, l1, fun z => l2 (by omega)⟩)⟩
   have h : way = 4 := by simpa using h
   have hl := l2 (by omega)
   obtain ⟨g0, g1⟩ := a21 ms hl
   obtain ⟨x, _, _, hx⟩ := at_int (ns := [2, -1, (10 : Int) ^ (39 : Int).toNat]) (i := sm % 3) (by omega) (by show sm % 3 < 3; omega)
   refine ⟨_, rfl, _, _, rfl, rfl, ⟨by decide, by decide, by decide⟩, by show 3 ≤ sizeLine; decide, fun q nq => ?_⟩
   have s2 := same_upd (o := .lst [.int 2, .int (-1), .int ((10 : Int) ^ (39 : Int).toNat)]) nq
   have hp2 := s2 _ _ hp
   refine ⟨_, rfl, _, _, rfl, rfl, (by show (0 : Int) < _; decide), q, _, _, _, rfl, rfl, SqL.of upd_same, hx, ?_⟩
   generalize upd _ q _ = H2 at s2 hp2 ⊢
   refine ⟨_, rfl, _, rfl, _, _, rfl, rfl, .inl ⟨by decide, by decide⟩, p0, _, _, _, rfl, rfl, hp2, ixN_of (by omega) g0, ?_⟩
   have hp3 : (upd H2 p0 (.lst ((ms.map V.int).set (2 * at_).toNat (.int x)))) p0 = some (.lst ((ms.set (2 * at_).toNat x).map V.int)) := by rw [upd_same, List.map_set]
   have s3 : Same H (upd H2 p0 (.lst ((ms.map V.int).set (2 * at_).toNat (.int x)))) := Same.upd (s1.trans s2) np0
   generalize upd H2 p0 _ = H3 at hp3 s3 ⊢
   have hl3 : (ms.set (2 * at_).toNat x).length = L := by rw [List.length_set]; exact hl
   generalize ms.set (2 * at_).toNat x = ms3 at hp3 hl3
   obtain ⟨g2, g3⟩ := a21 ms3 hl3
   have e0 := at_pf (ms := ms3) (x := 2 * at_) (by omega) (by omega)
   have e1 := at_pf (ms := ms3) (x := 2 * at_ + 1) (by omega) (by omega)
   obtain ⟨y, _, _, hy⟩ := at_int (ns := [pf ms3 (2 * at_ + 1), 1 - pf ms3 (2 * at_)]) (i := sm / 3 % 2) (by omega) (by show sm / 3 % 2 < 2; omega)
   refine ⟨_, rfl, _, rfl, _, _, rfl, rfl, .inl ⟨by decide, by decide⟩, _, _, rfl, rfl, p0, _, _, _, rfl, rfl, SqL.of hp3, e1, _, rfl, _, rfl, _, _, rfl, rfl, .inl ⟨by decide, by decide⟩, p0, _, _, _, rfl, rfl, SqL.of hp3, e0, _, _, rfl, rfl, by show 2 ≤ sizeLine; decide, fun q2 nq2 => ?_⟩
   have s4 := same_upd (o := .lst [.int (pf ms3 (2 * at_ + 1)), .int (1 - pf ms3 (2 * at_))]) nq2
   have hp4 := s4 _ _ hp3
   refine ⟨_, rfl, _, _, rfl, rfl, ⟨by decide, by decide⟩, _, _, rfl, rfl, (by show (0 : Int) < _; decide), q2, _, _, _, rfl, rfl, SqL.of upd_same, hy, ?_⟩
   generalize upd _ q2 _ = H4 at s4 hp4 ⊢
   refine ⟨_, rfl, _, rfl, _, _, rfl, rfl, .inl ⟨by decide, by decide⟩, _, _, rfl, rfl, p0, _, _, _, rfl, rfl, hp4, ixN_of (by omega) g3, ?_⟩
   exact hJ _ _ ⟨p0, ms3.set (2 * at_ + 1).toNat y, rfl, Same.upd (s3.trans s4) np0, np0, by rw [upd_same, List.map_set], by rw [List.length_set]; omega, fun _ => by rw [List.length_set]; exact hl3⟩
  clear s1 np0 hp l1 l2
  obtain ⟨p0, ms, rfl, s1, np0, hp, l1, l2⟩ := hj
  refine seq_cut (JB H (.ref c) n way at_ sm L 6) (fun nx hJ => ?_) (fun σ' H' hj => ?_)
  ·refine ⟨_, rfl, _, _, rfl, rfl, _, rfl, ite2 (fun h => ?_) (fun h => hJ _ _ ⟨p0, ms, rfl, s1, np0, hp, l1, fun z => l2 (by omega)⟩)⟩
   have h : way = 5 := by simpa using h
   have hl := l2 (by omega)
   refine ⟨_, rfl, .inl ⟨rfl, _, SqL.of hp⟩, _, rfl, _, _, rfl, rfl, (by show (0 : Int) < _; decide), p0, _, _, rfl, rfl, hp, small_l (by rw [List.length_map]; omega), ?_⟩
   exact hJ _ _ ⟨p0, ms ++ [sm % 2], rfl, Same.upd s1 np0, np0, by rw [upd_same, List.map_append]; rfl, by rw [List.length_append, List.length_singleton]; omega, fun z => absurd z (by omega)⟩
  clear s1 np0 hp l1 l2
  obtain ⟨p0, ms, rfl, s1, np0, hp, l1, l2⟩ := hj
  refine seq_cut (JB H (.ref c) n way at_ sm L 7) (fun nx hJ => ?_) (fun σ' H' hj => ?_)
  ·refine ⟨_, rfl, _, _, rfl, rfl, _, rfl, ite2 (fun h => ?_) (fun h => hJ _ _ ⟨p0, ms, rfl, s1, np0, hp, l1, fun z => l2 (by omega)⟩)⟩
   have h : way = 6 := by simpa using h
   have hl := l2 (by omega)
   refine ⟨_, rfl, .inl ⟨rfl, _, SqL.of hp⟩, p0, _, _, rfl, rfl, hp, List.getElem?_eq_getElem (by rw [List.length_map]; omega), ?_⟩
   exact hJ _ _ ⟨p0, ms.dropLast, rfl, Same.upd s1 np0, np0, by rw [upd_same, List.map_dropLast], by rw [List.length_dropLast]; omega, fun z => absurd z (by omega)⟩
  clear s1 np0 hp l1 l2
  obtain ⟨p0, ms, rfl, s1, np0, hp, l1, l2⟩ := hj
  refine seq_cut (JB H (.ref c) n way at_ sm L 8) (fun nx hJ => ?_) (fun σ' H' hj => ?_)
  ·refine ⟨_, rfl, _, _, rfl, rfl, _, rfl, ite2 (fun h => ?_) (fun h => hJ _ _ ⟨p0, ms, rfl, s1, np0, hp, l1, fun z => l2 (by omega)⟩)⟩
   have h : way = 7 := by simpa using h
   have hl := l2 (by omega)
   refine ⟨_, rfl, p0, rfl, ⟨_, SqL.of hp⟩, fun q nq => lc_pureJ (js_list (SqL.of (K := K) hp)) ms (fun _ => true) (fun x => V.int (1 - x)) nq (by rw [List.length_map]) (small_l (by rw [List.length_map]; omega)) ?_ ?_⟩
   ·intro i x d G hx hd sG P1 P0 k1 k0
    rw [List.getElem?_map, hd] at hx
    cases hx
    exact name_yes ⟨_, rfl, _, _, rfl, rfl, k1 rfl⟩
   ·exact hJ _ _ ⟨q, ms.map (1 - ·), rfl, s1.trans (same_upd nq), Same.free s1 nq, by rw [upd_same, filt_true, List.map_map]; rfl, by rw [List.length_map]; omega, fun z => absurd z (by omega)⟩
  clear s1 np0 hp l1 l2
  obtain ⟨p0, ms, rfl, s1, np0, hp, l1, l2⟩ := hj
  refine seq_cut (JB H (.ref c) n way at_ sm L 9) (fun nx hJ => ?_) (fun σ' H' hj => ?_)
  ·refine ⟨_, rfl, _, _, rfl, rfl, _, rfl, ite2 (fun h => ?_) (fun h => iteF (hJ _ _ ⟨p0, ms, rfl, s1, np0, hp, l1, fun z => l2 (by omega)⟩))⟩
   have h : way = 8 := by simpa using h
   refine ⟨_, rfl, _, _, rfl, rfl, (by show (0 : Int) < _; decide), _, _, rfl, rfl, _, rfl, ite2 (fun h2 => ?_) (fun h2 => hJ _ _ ⟨p0, ms, rfl, s1, np0, hp, l1, fun z => l2 (by omega)⟩)⟩
   refine ⟨by show 0 ≤ sizeLine; decide, fun q nq => ?_⟩
   exact hJ _ _ ⟨q, [], rfl, s1.trans (same_upd nq), Same.free s1 nq, upd_same, by simp, fun z => absurd z (by omega)⟩
  obtain ⟨p0, ms, rfl, s1, np0, hp, l1, l2⟩ := hj
  exact ⟨_, rfl, k p0 ms _ s1 np0 hp l1⟩
end
end K32
namespace K32
open PySem L2 TL PyProof.Rows
abbrev s_law_keeps : Stmt := top 18
theorem sc_law_keeps : FnScope ["_law_line_here", "_law_piece", "_law_marking", "_law_k", "_law_near"] ["_law_line_here", "_law_piece", "_law_marking"] (defScope s_law_keeps) := ⟨rfl, rfl, rfl, by decide +kernel, rfl, by decide +kernel, by decide +kernel⟩
theorem cc_law_keeps_0 : CompOk (defScope s_law_keeps) ["_law_line_here", "_law_piece", "_law_marking", "_law_k", "_law_near"] { kind := .function, names := [(Str.ofString ".0", .local), (Str.ofString "_law_joint", .local), (Str.ofString "_law_marking", .free), (Str.ofString "_law_near", .free)], isGenerator := false, isCoroutine := false, more := [] } ["_law_joint", "_law_marking", "_law_near"] 1 [none, some 2, some 4] := ⟨rfl, by decide +kernel, by decide +kernel, by decide +kernel, rfl, by decide +kernel, rfl, by decide +kernel⟩
section
variable {P : Program} {w : World} {K : PySem.W.Frag} {mg : Str → Option Value} {base : Heap} {f : Addr} {fd : FuncData}
theorem ok_law_keeps {f1 : Addr} {fd1 : FuncData} (F : Fn K mg "_law_keeps" s_law_keeps ["_law_line_here", "_law_piece", "_law_marking"] f fd) (B : Bm mg) (F_law_set : Fn K mg "_law_set" s_law_set ["_law_line_here", "_law_piece", "_law_number"] f1 fd1)
  (G_law_set : FnOk P w K mg base CX0 2 f1 fd1 ["_law_line_here", "_law_piece", "_law_number"] (sp_set K)) : FnOk P w K mg base CX0 3 f fd ["_law_line_here", "_law_piece", "_law_marking"] (sp_keeps K) := by
 refine F.F.ok sc_law_keeps (fun vs H Q E h => ?_) (fun cdv A outer s H vs Q E hr h => ?_)
 ·obtain ⟨v, u, l, e, ms, rfl, _⟩ := h; rfl
 ·obtain ⟨v, u, l, pc, ms, rfl, hv, hu, ok, p0, p1, hz, k⟩ := h
  obtain ⟨a, b, rfl, ht, us, hl, hq⟩ := da_line hv
  obtain ⟨c, rfl, hc⟩ := da_ints.mp hu
  have h1 := ok.one
  have h40 := ok.most
  have h80 := ok.len
  have hlen := das_ints_len hq
  refine ⟨_, (@pss_cons _ _ _ _ _ (@ps_if _ _ _ _ _ _ _ _ (pt_cmp (@pc_neI _ _ _ _ _ (@pe_callB _ _ _ _ _ _ _ _ _ (@call_len_seq _) rfl B.len boot_len (@pa_cons _ _ _ _ _ (@pv _ 2 _ _ (by rfl) (by first | exact Or.inl rfl | exact Or.inr (  Or.inl rfl ) | exact Or.inr (  Or.inr rfl )) (by decide) (by decide)) (@pa_nil _) (by rfl)) (by decide) (by decide) (by rfl) (by rfl)) (@pe_op _ _ _ _ _ _ _ _ (@op_mul _) (@pe_int _ _ _ _) (@pe_ix _ _ _ _ _ _ _ (@ix_tup _) (@pv _ 0 _ _ (by rfl) (by first | exact Or.inl rfl | exact Or.inr (  Or.inl rfl ) | exact Or.inr (  Or.inr rfl )) (by decide) (by decide)) (@pe_int _ _ _ _) (fun _ _ => rfl))))) (@pss_one _ _ _ (@ps_ret _ _ _ _ (@pe_bl _ _ _ _))) (@pss_nil _)) (@pss_cons _ _ _ _ _ (@ps_for _ _ _ _ _ _ _ _ PassesOwn.never rfl (@pi_range1 _ _ _ _ _ _ rfl B.range (@pa_cons _ _ _ _ _ (@pe_ix _ _ _ _ _ _ _ (@ix_tup _) (@pv _ 0 _ _ (by rfl) (by first | exact Or.inl rfl | exact Or.inr (  Or.inl rfl ) | exact Or.inr (  Or.inr rfl )) (by decide) (by decide)) (@pe_int _ _ _ _) (fun _ _ => rfl)) (@pa_nil _) (by rfl)) (by rfl)) (@pg_name _ _ (3) _ sc_law_keeps.nd rfl (Or.inl rfl) (by first | exact .inl rfl | exact .inr rfl | assumption)) (@pss_one _ _ _ (@ps_if _ _ _ _ _ _ _ _ (@pt_cmpR _ _ _ _ _ _ _ _ (@op_notInD _ hr.units) (@pe_slice _ _ _ _ _ _ _ _ _ _ (@sl_list _) (@pv _ 2 _ _ (by rfl) (by first | exact Or.inl rfl | exact Or.inr (  Or.inl rfl ) | exact Or.inr (  Or.inr rfl )) (by decide) (by decide)) (@po_some _ _ _ (@pe_op _ _ _ _ _ _ _ _ (@op_mul _) (@pe_int _ _ _ _) (@pv _ 3 _ _ (by rfl) (by first | exact Or.inl rfl | exact Or.inr (  Or.inl rfl ) | exact Or.inr (  Or.inr rfl )) (by decide) (by decide)))) (@po_some _ _ _ (@pe_op _ _ _ _ _ _ _ _ (@op_add _) (@pe_op _ _ _ _ _ _ _ _ (@op_mul _) (@pe_int _ _ _ _) (@pv _ 3 _ _ (by rfl) (by first | exact Or.inl rfl | exact Or.inr (  Or.inl rfl ) | exact Or.inr (  Or.inr rfl )) (by decide) (by decide))) (@pe_int _ _ _ _)))) (@pe_lst _ _ _ _ (@pa_cons _ _ _ _ _ (@pe_lst _ _ _ _ (@pa_cons _ _ _ _ _ (@pe_int _ _ _ _) (@pa_cons _ _ _ _ _ (@pe_int _ _ _ _) (@pa_nil _) (by rfl)) (by rfl))) (@pa_cons _ _ _ _ _ (@pe_lst _ _ _ _ (@pa_cons _ _ _ _ _ (@pe_int _ _ _ _) (@pa_cons _ _ _ _ _ (@pe_int _ _ _ _) (@pa_nil _) (by rfl)) (by rfl))) (@pa_nil _) (by rfl)) (by rfl))) (by with_unfolding_all rfl)) (@pss_one _ _ _ (@ps_ret _ _ _ _ (@pe_bl _ _ _ _))) (@pss_nil _))) (by intros; rfl)) (@pss_cons _ _ _ _ _ (@ps_set _ _ (4) _ _ _ _ sc_law_keeps.nd rfl (Or.inr rfl) (@pe_call _ _ _ _ _ _ _ _ _ _ _ _ _ _ _ _ G_law_set (hr.mono (by decide)) rfl F_law_set.m F_law_set.F.kp F_law_set.b .nil (@pass0 _) (@pa_cons _ _ _ _ _ (@pv _ 0 _ _ (by rfl) (by first | exact Or.inl rfl | exact Or.inr (  Or.inl rfl ) | exact Or.inr (  Or.inr rfl )) (by decide) (by decide)) (@pa_cons _ _ _ _ _ (@pv _ 1 _ _ (by rfl) (by first | exact Or.inl rfl | exact Or.inr (  Or.inl rfl ) | exact Or.inr (  Or.inr rfl )) (by decide) (by decide)) (@pa_cons _ _ _ _ _ (@pe_int _ _ _ _) (@pa_nil _) (by rfl)) (by rfl)) (by rfl)) (by decide) (by rfl) (by rfl)) (by rfl) (by first | exact .inl rfl | exact .inr rfl | assumption)) (@pss_one _ _ _ (@ps_ret _ _ _ _ (@pe_cmpR _ _ _ _ _ _ _ _ (@op_eqD _ hr.units) (@pe_lc _ _ _ _ _ _ _ _ _ _ _ _ _ _ (@pi_list _ _ _ _ (@pe_ix _ _ _ _ _ _ _ (@ix_tup _) (@pv _ 0 _ _ (by rfl) (by first | exact Or.inl rfl | exact Or.inr (  Or.inl rfl ) | exact Or.inr (  Or.inr rfl )) (by decide) (by decide)) (@pe_int _ _ _ _) (fun _ _ => rfl))) rfl cc_law_keeps_0 (.name (by decide)) (fun _ _ _ _ => (@pg_name _ _ (0) _ cc_law_keeps_0.nd rfl (Or.inl rfl) (by first | exact .inl rfl | exact .inr rfl | assumption))) (fun _ _ _ _ => (@pifs_one _ _ _ (PW.pt (@pw_and _ _ _ _ _ _ _ (pt_cmp (@pc_din _ _ _ _ _ (@hu_of _ _ hr) (@pe_ix _ _ _ _ _ _ _ (@ix_tupk _ (K) rfl) (@pv _ 0 _ _ (by rfl) (by first | exact Or.inl rfl | exact Or.inr (  Or.inl rfl ) | exact Or.inr (  Or.inr rfl )) (by decide) (by decide)) (@pe_int _ _ _ _) (fun _ _ => rfl)) (@pv _ 2 _ _ (by rfl) (by first | exact Or.inl rfl | exact Or.inr (  Or.inl rfl ) | exact Or.inr (  Or.inr rfl )) (by decide) (by decide)))) (@pw_and1 _ _ _ _ (pt_cmp (@pc_eqI _ _ _ _ _ (@pe_ix _ _ _ _ _ _ _ (@ix_listk _ (K) rfl) (@pv _ 1 _ _ (by rfl) (by first | exact Or.inl rfl | exact Or.inr (  Or.inl rfl ) | exact Or.inr (  Or.inr rfl )) (by decide) (by decide)) (@pe_ix _ _ _ _ _ _ _ (@ix_tupk _ (K) rfl) (@pv _ 0 _ _ (by rfl) (by first | exact Or.inl rfl | exact Or.inr (  Or.inl rfl ) | exact Or.inr (  Or.inr rfl )) (by decide) (by decide)) (@pe_int _ _ _ _) (fun _ _ => rfl)) (fun _ _ => rfl)) (@pe_ix _ _ _ _ _ _ _ (@ix_listk _ (K) rfl) (@pv _ 1 _ _ (by rfl) (by first | exact Or.inl rfl | exact Or.inr (  Or.inl rfl ) | exact Or.inr (  Or.inr rfl )) (by decide) (by decide)) (@pe_ix _ _ _ _ _ _ _ (@ix_tupk _ (K) rfl) (@pv _ 0 _ _ (by rfl) (by first | exact Or.inl rfl | exact Or.inr (  Or.inl rfl ) | exact Or.inr (  Or.inr rfl )) (by decide) (by decide)) (@pe_int _ _ _ _) (fun _ _ => rfl)) (fun _ _ => rfl))))))))) (fun _ _ _ _ => (@pv _ 0 _ _ (by rfl) (by first | exact Or.inl rfl | exact Or.inr (  Or.inl rfl ) | exact Or.inr (  Or.inr rfl )) (by decide) (by decide))) (by intros; rfl)) (@pe_lst _ _ _ _ (@pa_nil _)) (@nomark _ _ (by decide) (by decide)))))))), ?_⟩
  refine ⟨_, rfl, c, _, rfl, .inl hc, _, rfl, a, _, _, _, rfl, rfl, ht, rfl, _, _, rfl, rfl, .inl ⟨by decide, by decide⟩, _, _, rfl, rfl, _, rfl, ite2 (fun h => ?_) (fun h => ?_)⟩
  ·have h : ¬ ((ms.length : Int) = 2 * l.1) := by simpa using h
   have := k H (Same.refl _)
   rw [dcd_f (fun z => h z.1.len)] at this
   exact this
  have h : (ms.length : Int) = 2 * l.1 := by simpa using h
  refine ⟨_, rfl, a, _, _, _, rfl, rfl, ht, rfl, _, rfl, by omega, by omega,
   for_range (fun i σ H3 => ∃ x3 : Option V, σ = [some (.ref a), some (.int pc), some (.ref c), x3, none] ∧ Same H H3 ∧ ∀ j : Nat, j < i → okPair ms (j : Int)) ⟨none, rfl, Same.refl _, fun j hj => absurd hj (by omega)⟩ ?_ ?_⟩
  ·rintro i σ H3 hi ⟨x3, rfl, S3, hp⟩
   have hi : i < l.1.toNat := hi
   rw [Int.zero_add]
   refine ⟨_, rfl, _, rfl, _, _, rfl, rfl, .inl ⟨by decide, by decide⟩, _, rfl, _, rfl, _, _, rfl, rfl, .inl ⟨by decide, by decide⟩, _, _, rfl, rfl, _, rfl, c, _, rfl, S3.seq hc, fun p2 np2 => ?_⟩
   rw [cut_two ms (by omega) (by omega)]
   refine ⟨by show 2 ≤ sizeLine; decide, fun p3 np3 => ⟨by show 2 ≤ sizeLine; decide, fun p4 np4 => ⟨by show 2 ≤ sizeLine; decide, fun p5 np5 => ?_⟩⟩⟩
   have S25 := (same_upd (o := .lst ([pf ms (2 * (i : Int)), pf ms (2 * (i : Int) + 1)].map V.int)) np2).trans ((same_upd (o := .lst [.int 0, .int 1]) np3).trans ((same_upd (o := .lst [.int 1, .int 0]) np4).trans (same_upd (o := .lst [.ref p3, .ref p4]) np5)))
   have g2 := ((same_upd (o := .lst [.int 0, .int 1]) np3).trans ((same_upd (o := .lst [.int 1, .int 0]) np4).trans (same_upd (o := .lst [.ref p3, .ref p4]) np5))) _ _ (upd_same (H := H3) (a := p2) (o := .lst ([pf ms (2 * (i : Int)), pf ms (2 * (i : Int) + 1)].map V.int)))
   refine ⟨[dI [0, 1], dI [1, 0]], dI [pf ms (2 * (i : Int)), pf ms (2 * (i : Int) + 1)], dg_list.mpr ⟨p5, _, rfl, SqL.of upd_same, Dgs.two (da_ints.mpr ⟨p3, rfl, SqL.of ?_⟩) (da_ints.mpr ⟨p4, rfl, SqL.of ?_⟩)⟩, da_ints.mpr ⟨p2, rfl, SqL.of g2⟩, ⟨by decide, by decide⟩, okD_ints _, _, rfl, ?_⟩
   ·exact ((same_upd (o := .lst [.int 1, .int 0]) np4).trans (same_upd (o := .lst [.ref p3, .ref p4]) np5)) _ _ upd_same
   ·exact (same_upd (o := .lst [.ref p3, .ref p4]) np5) _ _ upd_same
   generalize upd (upd (upd (upd H3 p2 _) p3 _) p4 _) p5 _ = H5 at S25
   rw [if_pos rfl]
   have e : ([dI [0, 1], dI [1, 0]].any fun z => PyData.eqv z (dI [pf ms (2 * (i : Int)), pf ms (2 * (i : Int) + 1)])) = dcd (okPair ms (i : Int)) := by
    rw [Bool.eq_iff_iff, dcd_iff, List.any_cons, List.any_cons, List.any_nil, eqv_I, eqv_I]
    unfold okPair
    simp
    omega
   rw [e]
   refine ite2 (fun z => ?_) (fun z => ?_)
   ·have z : ¬ okPair ms (i : Int) := fun y => by rw [dcd_t y] at z; cases z
    have := k H5 (S3.trans S25)
    rw [dcd_f (fun y => z (y.1.pair _ (by omega) (by omega)))] at this
    exact this
   ·have z : okPair ms (i : Int) := Classical.byContradiction fun y => by rw [dcd_f y] at z; exact z rfl
    refine ⟨_, rfl, S3.trans S25, fun j hj => ?_⟩
    rcases (show j < i ∨ j = i by omega) with y | y
    ·exact hp j y
    ·rw [y]; exact z
  rintro σ H3 ⟨x3, rfl, S3, hp⟩
  have M : IsMk l.1 ms := ⟨h, fun q q0 q1 => by
   have := hp q.toNat (by show q.toNat < l.1.toNat; omega)
   rwa [show ((q.toNat : Nat) : Int) = q by omega] at this⟩
  refine ⟨_, rfl, _, rfl, _, l, pc, 0, rfl, Da.same S3 hv, ok, p0, p1, fun pd kvs ks H4 S4 npd hd MK hks => ?_⟩
  have S34 := S3.trans S4
  refine ⟨_, rfl, a, _, _, _, rfl, rfl, same_tseq S34 ht, rfl, b, rfl, ⟨us, S34.seq hl⟩, fun q nq => lc_pureJ (js_list (S34.seq hl)) (l.2.zip us) (fun x => (valV kvs (.inl x.1.1)).isSome && decide (pf ms x.1.1 = pf ms x.1.2)) (fun x => x.2) nq (by rw [List.length_zip, hlen, Nat.min_self]) (small_l (by omega)) ?_ ?_⟩
  ·intro i x d G hx hd' sG P1 P0 k1 k0
   obtain ⟨ad, ⟨ea, eb⟩, e1, rfl, hpr⟩ := das_pair (Das.same (S34.trans sG) hq) hx
   dsimp only at hpr
   have ed : d = ((ea, eb), V.ref ad) := by
    rw [List.getElem?_zip_eq_some] at hd'
    rw [e1] at hd'
    rw [hx] at hd'
    exact Prod.ext (Option.some.inj hd'.1).symm (Option.some.inj hd'.2).symm
   subst ed
   have hb := ok.ends _ (List.mem_of_getElem? e1)
   dsimp only at hb k1 k0
   have cG : SqL K G c (ms.map V.int) := (S34.trans sG).seq hc
   refine ⟨_, rfl, ad, _, _, _, rfl, rfl, hpr, rfl, _, rfl, pd, _, rfl, DGet.k (k := .inl ea) (sG _ _ hd), _, rfl, ?_⟩
   cases hv : (valV kvs (.inl ea)).isSome with
   | true =>
    rw [hv] at k1 k0
    refine iteT ⟨_, rfl, _, rfl, ad, _, _, _, rfl, rfl, hpr, rfl, c, _, _, _, rfl, rfl, cG, at_pf (by omega) (by omega), _, rfl, _, rfl, ad, _, _, _, rfl, rfl, hpr, rfl, c, _, _, _, rfl, rfl, cG, at_pf (by omega) (by omega), _, _, rfl, rfl, _, rfl, ite2 (fun h => ⟨_, rfl, k1 (by rw [Bool.true_and]; exact h)⟩) (fun h => k0 (by rw [Bool.true_and]; simpa using h))⟩
   | false =>
    rw [hv] at k0
    exact iteF (iteF (k0 rfl))
  have hz2 := das_zip (fun x : (Int × Int) × V => (valV kvs (.inl x.1.1)).isSome && decide (pf ms x.1.1 = pf ms x.1.2)) hq
  rw [zip_fst (fun p : Int × Int => (valV kvs (.inl p.1)).isSome && decide (pf ms p.1 = pf ms p.2)) hlen] at hz2
  generalize ((l.2.zip us).filter fun x => (valV kvs (.inl x.1.1)).isSome && decide (pf ms x.1.1 = pf ms x.1.2)).map (fun x => x.2) = vs at hz2 ⊢
  have S5 := same_upd (o := .lst vs) nq
  refine ⟨by show 0 ≤ sizeLine; decide, fun pz npz => ?_⟩
  have S6 := same_upd (o := .lst []) npz
  have S36 := S34.trans (S5.trans S6)
  refine ⟨.list ((l.2.filter fun p : Int × Int => (valV kvs (.inl p.1)).isSome && decide (pf ms p.1 = pf ms p.2)).map dP), .list [], dg_list.mpr ⟨q, vs, rfl, SqL.of (S6 _ _ upd_same), Das.same S36 hz2⟩, dg_list.mpr ⟨pz, [], rfl, SqL.of upd_same, dgs_nil.mpr rfl⟩, okD_J _, okD_nil, ?_⟩
  rw [eqv_list_nil]
  have e : ((l.2.filter fun p : Int × Int => (valV kvs (.inl p.1)).isSome && decide (pf ms p.1 = pf ms p.2)).map dP).isEmpty = dcd (KeepsP l pc ms) := by
   rw [Bool.eq_iff_iff, dcd_iff, List.isEmpty_iff, List.map_eq_nil_iff, List.filter_eq_nil_iff]
   constructor
   ·intro z
    refine ⟨M, fun p hp hc => (M.odd ok hp).mpr fun y => z p hp ?_⟩
    rw [Bool.and_eq_true, decide_eq_true_eq]
    exact ⟨(MK.hs p.1).mpr ((hks _).mpr hc), y⟩
   ·intro z p hp y
    rw [Bool.and_eq_true, decide_eq_true_eq] at y
    exact (M.odd ok hp).mp (z.2 p hp ((hks _).mp ((MK.hs p.1).mp y.1))) y.2
  rw [e]
  exact k _ S36
end
end K32
namespace K32
open PySem L2 TL PyProof.Rows
def sp_law (K : PySem.W.Frag) : Sp := fun vs H Q _ => ∃ (a : Addr) (ns : List Int), vs = [.ref a] ∧ SqL K H a (ns.map V.int) ∧ ∀ H', Q (.bl true) H'
abbrev s_law : Stmt := top 19
theorem sc_law : FnScope ["_law_script", "_law_line_here", "_law_number", "_law_piece", "_law_marks", "_law_marking", "_law_k", "_law_mark", "_law_given", "_law_found"] ["_law_script"] (defScope s_law) := ⟨rfl, rfl, rfl, by decide +kernel, rfl, by decide +kernel, by decide +kernel⟩
section
variable {P : Program} {w : World} {K : PySem.W.Frag} {mg : Str → Option Value} {base : Heap} {f : Addr} {fd : FuncData}
theorem ok_law {f1 f2 f3 f4 f5 f6 f7 : Addr} {fd1 fd2 fd3 fd4 fd5 fd6 fd7 : FuncData} (F : Fn K mg "law" s_law ["_law_script"] f fd) (B : Bm mg) (F_law_line : Fn K mg "_law_line" s_law_line ["_law_script"] f1 fd1) (G_law_line : FnOk P w K mg base CX0 3 f1 fd1 ["_law_script"] (sp_line K))
  (F_law_cell_at : Fn K mg "_law_cell_at" s_law_cell_at ["_law_script", "_law_k"] f2 fd2) (F_law_mix : Fn K mg "_law_mix" s_law_mix ["_law_cell", "_law_k"] f3 fd3) (F_law_set : Fn K mg "_law_set" s_law_set ["_law_line_here", "_law_piece", "_law_number"] f4 fd4)
  (G_law_set : FnOk P w K mg base CX0 2 f4 fd4 ["_law_line_here", "_law_piece", "_law_number"] (sp_set K)) (F_law_bent : Fn K mg "_law_bent" s_law_bent ["_law_marking", "_law_number"] f5 fd5) (F_keeps : Fn K mg "keeps" s_keeps ["line", "piece", "marking"] f6 fd6)
  (G_keeps : FnOk P w K mg base CX0 3 f6 fd6 ["line", "piece", "marking"] (sp_keeps K)) (F_law_keeps : Fn K mg "_law_keeps" s_law_keeps ["_law_line_here", "_law_piece", "_law_marking"] f7 fd7) (G_law_keeps : FnOk P w K mg base CX0 3 f7 fd7 ["_law_line_here", "_law_piece", "_law_marking"] (sp_keeps K)) :
  FnOk P w K mg base CX0 4 f fd ["_law_script"] (sp_law K) := by
 have G_law_mix : FnOk P w K mg base CX0 1 f3 fd3 ["_law_cell", "_law_k"] sp_mix := ok_law_mix F_law_mix B.toBl
 have G_law_cell_at : FnOk P w K mg base CX0 1 f2 fd2 ["_law_script", "_law_k"] (sp_cell K) := ok_law_cell_at F_law_cell_at B.toBl
 have G_law_bent : FnOk P w K mg base CX0 1 f5 fd5 ["_law_marking", "_law_number"] (sp_bent K) := ok_law_bent F_law_bent B
 refine F.F.ok sc_law (fun vs H Q E h => ?_) (fun cdv A outer s H vs Q E hr h => ?_)
 ·obtain ⟨a, ns, rfl, _⟩ := h; rfl
 ·obtain ⟨a0, ns, rfl, hS, k⟩ := h
  refine ⟨_, (@pss_cons _ _ _ _ _ (@ps_set _ _ (1) _ _ _ _ sc_law.nd rfl (Or.inl rfl) (@pe_call _ _ _ _ _ _ _ _ _ _ _ _ _ _ _ _ G_law_line (hr.mono (by decide)) rfl F_law_line.m F_law_line.F.kp F_law_line.b .nil (@pass0 _) (@pa_cons _ _ _ _ _ (@pv _ 0 _ _ (by rfl) (by first | exact Or.inl rfl | exact Or.inr (  Or.inl rfl ) | exact Or.inr (  Or.inr rfl )) (by decide) (by decide)) (@pa_nil _) (by rfl)) (by decide) (by rfl) (by rfl)) (by rfl) (by first | exact .inl rfl | exact .inr rfl | assumption)) (@pss_cons _ _ _ _ _ (@ps_set _ _ (2) _ _ _ _ sc_law.nd rfl (Or.inl rfl) (@pe_call _ _ _ _ _ _ _ _ _ _ _ _ _ _ _ _ G_law_mix (hr.mono (by decide)) rfl F_law_mix.m F_law_mix.F.kp F_law_mix.b .nil (@pass0 _) (@pa_cons _ _ _ _ _ (@pe_call _ _ _ _ _ _ _ _ _ _ _ _ _ _ _ _ G_law_cell_at (hr.mono (by decide)) rfl F_law_cell_at.m F_law_cell_at.F.kp F_law_cell_at.b .nil (@pass0 _) (@pa_cons _ _ _ _ _ (@pv _ 0 _ _ (by rfl) (by first | exact Or.inl rfl | exact Or.inr (  Or.inl rfl ) | exact Or.inr (  Or.inr rfl )) (by decide) (by decide)) (@pa_cons _ _ _ _ _ (@pe_int _ _ _ _) (@pa_nil _) (by rfl)) (by rfl)) (by decide) (by rfl) (by rfl)) (@pa_cons _ _ _ _ _ (@pe_int _ _ _ _) (@pa_nil _) (by rfl)) (by rfl)) (by decide) (by rfl) (by rfl)) (by rfl) (by first | exact .inl rfl | exact .inr rfl | assumption)) (@pss_cons _ _ _ _ _ (@ps_set _ _ (3) _ _ _ _ sc_law.nd rfl (Or.inl rfl) (@pe_op _ _ _ _ _ _ _ _ (@op_mod _) (@pv _ 2 _ _ (by rfl) (by first | exact Or.inl rfl | exact Or.inr (  Or.inl rfl ) | exact Or.inr (  Or.inr rfl )) (by decide) (by decide)) (@pe_ix _ _ _ _ _ _ _ (@ix_tup _) (@pv _ 1 _ _ (by rfl) (by first | exact Or.inl rfl | exact Or.inr (  Or.inl rfl ) | exact Or.inr (  Or.inr rfl )) (by decide) (by decide)) (@pe_int _ _ _ _) (fun _ _ => rfl))) (by rfl) (by first | exact .inl rfl | exact .inr rfl | assumption)) (@pss_cons _ _ _ _ _ (@ps_set _ _ (4) _ _ _ _ sc_law.nd rfl (Or.inl rfl) (@pe_dnewK _ _) (by rfl) (by first | exact .inl rfl | exact .inr rfl | assumption)) (@pss_cons _ _ _ _ _ (@ps_if _ _ _ _ _ _ _ _ (pt_cmp (@pc_gt _ _ _ _ _ (@pe_op _ _ _ _ _ _ _ _ (@op_mod _) (@pe_op _ _ _ _ _ _ _ _ (@op_fdiv _) (@pv _ 2 _ _ (by rfl) (by first | exact Or.inl rfl | exact Or.inr (  Or.inl rfl ) | exact Or.inr (  Or.inr rfl )) (by decide) (by decide)) (@pe_int _ _ _ _)) (@pe_int _ _ _ _)) (@pe_int _ _ _ _))) (@pss_one _ _ _ (@ps_set _ _ (4) _ _ _ _ sc_law.nd rfl (Or.inl rfl) (@pe_call _ _ _ _ _ _ _ _ _ _ _ _ _ _ _ _ G_law_set (hr.mono (by decide)) rfl F_law_set.m F_law_set.F.kp F_law_set.b .nil (@pass0 _) (@pa_cons _ _ _ _ _ (@pv _ 1 _ _ (by rfl) (by first | exact Or.inl rfl | exact Or.inr (  Or.inl rfl ) | exact Or.inr (  Or.inr rfl )) (by decide) (by decide)) (@pa_cons _ _ _ _ _ (@pv _ 3 _ _ (by rfl) (by first | exact Or.inl rfl | exact Or.inr (  Or.inl rfl ) | exact Or.inr (  Or.inr rfl )) (by decide) (by decide)) (@pa_cons _ _ _ _ _ (@pe_op _ _ _ _ _ _ _ _ (@op_fdiv _) (@pv _ 2 _ _ (by rfl) (by first | exact Or.inl rfl | exact Or.inr (  Or.inl rfl ) | exact Or.inr (  Or.inr rfl )) (by decide) (by decide)) (@pe_int _ _ _ _)) (@pa_nil _) (by rfl)) (by rfl)) (by rfl)) (by decide) (by rfl) (by rfl)) (by rfl) (by first | exact .inl rfl | exact .inr rfl | assumption))) (@pss_nil _)) (@pss_cons _ _ _ _ _ (@ps_set _ _ (5) _ _ _ _ sc_law.nd rfl (Or.inl rfl) (@pe_lst _ _ _ _ (@pa_nil _)) (by rfl) (by first | exact .inl rfl | exact .inr rfl | assumption)) (@pss_cons _ _ _ _ _ (@ps_for _ _ _ _ _ _ _ _ PassesOwn.never rfl (@pi_range1 _ _ _ _ _ _ rfl B.range (@pa_cons _ _ _ _ _ (@pe_ix _ _ _ _ _ _ _ (@ix_tup _) (@pv _ 1 _ _ (by rfl) (by first | exact Or.inl rfl | exact Or.inr (  Or.inl rfl ) | exact Or.inr (  Or.inr rfl )) (by decide) (by decide)) (@pe_int _ _ _ _) (fun _ _ => rfl)) (@pa_nil _) (by rfl)) (by rfl)) (@pg_name _ _ (6) _ sc_law.nd rfl (Or.inl rfl) (by first | exact .inl rfl | exact .inr rfl | assumption)) (@pss_cons _ _ _ _ _ (@ps_set _ _ (7) _ _ _ _ sc_law.nd rfl (Or.inl rfl) (@pe_dget2 _ _ _ _ _ _ _ _ _ (@hu_of _ _ hr) (@pv _ 4 _ _ (by rfl) (by first | exact Or.inl rfl | exact Or.inr (  Or.inl rfl ) | exact Or.inr (  Or.inr rfl )) (by decide) (by decide)) (@pe_op _ _ _ _ _ _ _ _ (@op_mul _) (@pe_int _ _ _ _) (@pv _ 6 _ _ (by rfl) (by first | exact Or.inl rfl | exact Or.inr (  Or.inl rfl ) | exact Or.inr (  Or.inr rfl )) (by decide) (by decide))) (@pe_op _ _ _ _ _ _ _ _ (@op_mod _) (@pe_call _ _ _ _ _ _ _ _ _ _ _ _ _ _ _ _ G_law_mix (hr.mono (by decide)) rfl F_law_mix.m F_law_mix.F.kp F_law_mix.b .nil (@pass0 _) (@pa_cons _ _ _ _ _ (@pe_call _ _ _ _ _ _ _ _ _ _ _ _ _ _ _ _ G_law_cell_at (hr.mono (by decide)) rfl F_law_cell_at.m F_law_cell_at.F.kp F_law_cell_at.b .nil (@pass0 _) (@pa_cons _ _ _ _ _ (@pv _ 0 _ _ (by rfl) (by first | exact Or.inl rfl | exact Or.inr (  Or.inl rfl ) | exact Or.inr (  Or.inr rfl )) (by decide) (by decide)) (@pa_cons _ _ _ _ _ (@pe_int _ _ _ _) (@pa_nil _) (by rfl)) (by rfl)) (by decide) (by rfl) (by rfl)) (@pa_cons _ _ _ _ _ (@pv _ 6 _ _ (by rfl) (by first | exact Or.inl rfl | exact Or.inr (  Or.inl rfl ) | exact Or.inr (  Or.inr rfl )) (by decide) (by decide)) (@pa_nil _) (by rfl)) (by rfl)) (by decide) (by rfl) (by rfl)) (@pe_int _ _ _ _)) ⟨rfl, rfl, rfl, rfl⟩) (by rfl) (by first | exact .inl rfl | exact .inr rfl | assumption)) (@pss_one _ _ _ (@ps_set _ _ (5) _ _ _ _ sc_law.nd rfl (Or.inl rfl) (@pe_op _ _ _ _ _ _ _ _ (@op_cat _) (@pv _ 5 _ _ (by rfl) (by first | exact Or.inl rfl | exact Or.inr (  Or.inl rfl ) | exact Or.inr (  Or.inr rfl )) (by decide) (by decide)) (@pe_lst _ _ _ _ (@pa_cons _ _ _ _ _ (@pv _ 7 _ _ (by rfl) (by first | exact Or.inl rfl | exact Or.inr (  Or.inl rfl ) | exact Or.inr (  Or.inr rfl )) (by decide) (by decide)) (@pa_cons _ _ _ _ _ (@pe_op _ _ _ _ _ _ _ _ (@op_sub _) (@pe_int _ _ _ _) (@pv _ 7 _ _ (by rfl) (by first | exact Or.inl rfl | exact Or.inr (  Or.inl rfl ) | exact Or.inr (  Or.inr rfl )) (by decide) (by decide))) (@pa_nil _) (by rfl)) (by rfl)))) (by rfl) (by first | exact .inl rfl | exact .inr rfl | assumption)))) (by intros; rfl)) (@pss_cons _ _ _ _ _ (@ps_for _ _ _ _ _ _ _ _ PassesOwn.never rfl (@pi_range1 _ _ _ _ _ _ rfl B.range (@pa_cons _ _ _ _ _ (@pe_op _ _ _ _ _ _ _ _ (@op_mod _) (@pe_op _ _ _ _ _ _ _ _ (@op_mod _) (@pe_op _ _ _ _ _ _ _ _ (@op_fdiv _) (@pv _ 2 _ _ (by rfl) (by first | exact Or.inl rfl | exact Or.inr (  Or.inl rfl ) | exact Or.inr (  Or.inr rfl )) (by decide) (by decide)) (@pe_int _ _ _ _)) (@pe_int _ _ _ _)) (@pe_int _ _ _ _)) (@pa_nil _) (by rfl)) (by rfl)) (@pg_name _ _ (6) _ sc_law.nd rfl (Or.inl rfl) (by first | exact .inl rfl | exact .inr rfl | assumption)) (@pss_one _ _ _ (@ps_set _ _ (5) _ _ _ _ sc_law.nd rfl (Or.inl rfl) (@pe_call _ _ _ _ _ _ _ _ _ _ _ _ _ _ _ _ G_law_bent (hr.mono (by decide)) rfl F_law_bent.m F_law_bent.F.kp F_law_bent.b .nil (@pass0 _) (@pa_cons _ _ _ _ _ (@pv _ 5 _ _ (by rfl) (by first | exact Or.inl rfl | exact Or.inr (  Or.inl rfl ) | exact Or.inr (  Or.inr rfl )) (by decide) (by decide)) (@pa_cons _ _ _ _ _ (@pe_call _ _ _ _ _ _ _ _ _ _ _ _ _ _ _ _ G_law_mix (hr.mono (by decide)) rfl F_law_mix.m F_law_mix.F.kp F_law_mix.b .nil (@pass0 _) (@pa_cons _ _ _ _ _ (@pe_call _ _ _ _ _ _ _ _ _ _ _ _ _ _ _ _ G_law_cell_at (hr.mono (by decide)) rfl F_law_cell_at.m F_law_cell_at.F.kp F_law_cell_at.b .nil (@pass0 _) (@pa_cons _ _ _ _ _ (@pv _ 0 _ _ (by rfl) (by first | exact Or.inl rfl | exact Or.inr (  Or.inl rfl ) | exact Or.inr (  Or.inr rfl )) (by decide) (by decide)) (@pa_cons _ _ _ _ _ (@pe_op _ _ _ _ _ _ _ _ (@op_add _) (@pe_int _ _ _ _) (@pv _ 6 _ _ (by rfl) (by first | exact Or.inl rfl | exact Or.inr (  Or.inl rfl ) | exact Or.inr (  Or.inr rfl )) (by decide) (by decide))) (@pa_nil _) (by rfl)) (by rfl)) (by decide) (by rfl) (by rfl)) (@pa_cons _ _ _ _ _ (@pe_int _ _ _ _) (@pa_nil _) (by rfl)) (by rfl)) (by decide) (by rfl) (by rfl)) (@pa_nil _) (by rfl)) (by rfl)) (by decide) (by rfl) (by rfl)) (by rfl) (by first | exact .inl rfl | exact .inr rfl | assumption))) (by intros; rfl)) (@pss_cons _ _ _ _ _ (@ps_set _ _ (8) _ _ _ _ sc_law.nd rfl (Or.inl rfl) (@pe_callTy _ _ _ _ _ _ _ _ _ (@call_list_of _) rfl B.list boot_list (@pa_cons _ _ _ _ _ (@pv _ 5 _ _ (by rfl) (by first | exact Or.inl rfl | exact Or.inr (  Or.inl rfl ) | exact Or.inr (  Or.inr rfl )) (by decide) (by decide)) (@pa_nil _) (by rfl)) (by decide) (by decide) (by rfl) (by rfl)) (by rfl) (by first | exact .inl rfl | exact .inr rfl | assumption)) (@pss_cons _ _ _ _ _ (@ps_set _ _ (9) _ _ _ _ sc_law.nd rfl (Or.inl rfl) (@pe_call _ _ _ _ _ _ _ _ _ _ _ _ _ _ _ _ G_keeps (hr.mono (by decide)) rfl F_keeps.m F_keeps.F.kp F_keeps.b .nil (@pass0 _) (@pa_cons _ _ _ _ _ (@pv _ 1 _ _ (by rfl) (by first | exact Or.inl rfl | exact Or.inr (  Or.inl rfl ) | exact Or.inr (  Or.inr rfl )) (by decide) (by decide)) (@pa_cons _ _ _ _ _ (@pv _ 3 _ _ (by rfl) (by first | exact Or.inl rfl | exact Or.inr (  Or.inl rfl ) | exact Or.inr (  Or.inr rfl )) (by decide) (by decide)) (@pa_cons _ _ _ _ _ (@pv _ 8 _ _ (by rfl) (by first | exact Or.inl rfl | exact Or.inr (  Or.inl rfl ) | exact Or.inr (  Or.inr rfl )) (by decide) (by decide)) (@pa_nil _) (by rfl)) (by rfl)) (by rfl)) (by decide) (by rfl) (by rfl)) (by rfl) (by first | exact .inl rfl | exact .inr rfl | assumption)) (@pss_one _ _ _ (@ps_ret _ _ _ _ (@pe_and _ _ _ _ _ _ _ (@pe_callB _ _ _ _ _ _ _ _ _ (@call_isinst _) rfl B.isinstance boot_isinstance (@pa_cons _ _ _ _ _ (@pv _ 9 _ _ (by rfl) (by first | exact Or.inl rfl | exact Or.inr (  Or.inl rfl ) | exact Or.inr (  Or.inr rfl )) (by decide) (by decide)) (@pa_cons _ _ _ _ _ (@pe_bltn _ _ (.ty "bool") _ _ rfl B.bool boot_bool rfl (by decide) (by decide)) (@pa_nil _) (by rfl)) (by rfl)) (by decide) (by decide) (by rfl) (by rfl)) (@pe_and _ _ _ _ _ _ _ (@pe_cmpR _ _ _ _ _ _ _ _ (@op_eq _) (@pv _ 9 _ _ (by rfl) (by first | exact Or.inl rfl | exact Or.inr (  Or.inl rfl ) | exact Or.inr (  Or.inr rfl )) (by decide) (by decide)) (@pe_call _ _ _ _ _ _ _ _ _ _ _ _ _ _ _ _ G_law_keeps (hr.mono (by decide)) rfl F_law_keeps.m F_law_keeps.F.kp F_law_keeps.b .nil (@pass0 _) (@pa_cons _ _ _ _ _ (@pv _ 1 _ _ (by rfl) (by first | exact Or.inl rfl | exact Or.inr (  Or.inl rfl ) | exact Or.inr (  Or.inr rfl )) (by decide) (by decide)) (@pa_cons _ _ _ _ _ (@pv _ 3 _ _ (by rfl) (by first | exact Or.inl rfl | exact Or.inr (  Or.inl rfl ) | exact Or.inr (  Or.inr rfl )) (by decide) (by decide)) (@pa_cons _ _ _ _ _ (@pv _ 5 _ _ (by rfl) (by first | exact Or.inl rfl | exact Or.inr (  Or.inl rfl ) | exact Or.inr (  Or.inr rfl )) (by decide) (by decide)) (@pa_nil _) (by rfl)) (by rfl)) (by rfl)) (by decide) (by rfl) (by rfl)) (@nomark _ _ (by decide) (by decide))) (@pe_one _ _ _ _ _ (@pe_cmpR _ _ _ _ _ _ _ _ (@op_eqD _ hr.units) (@pv _ 8 _ _ (by rfl) (by first | exact Or.inl rfl | exact Or.inr (  Or.inl rfl ) | exact Or.inr (  Or.inr rfl )) (by decide) (by decide)) (@pv _ 5 _ _ (by rfl) (by first | exact Or.inl rfl | exact Or.inr (  Or.inl rfl ) | exact Or.inr (  Or.inr rfl )) (by decide) (by decide)) (@nomark _ _ (by decide) (by decide)))))))))))))))))), ?_⟩
  refine ⟨_, rfl, a0, ns, rfl, hS, fun v l H1 S1 hv ok => ?_⟩
  obtain ⟨a, b, rfl, ht, us, hl, hq⟩ := da_line hv
  have h1 := ok.one
  have h40 := ok.most
  refine ⟨_, rfl, a0, ns, 10, rfl, S1.seq hS, by decide, fun c => ⟨c, 0, rfl, by decide, by decide, fun n n0 n1 => ?_⟩⟩
  refine ⟨_, rfl, _, rfl, a, _, _, _, rfl, rfl, ht, rfl, _, _, rfl, rfl, (by show (0 : Int) < l.1; omega), ?_⟩
  have q0 : 0 ≤ n % l.1 := Int.emod_nonneg _ (by omega)
  have q1 : n % l.1 < l.1 := Int.emod_lt_of_pos _ (by omega)
  dsimp only
  generalize n % l.1 = pc at q0 q1 ⊢
  intro pm npm
  have S2 := same_upd (o := .dK []) npm
  have hm2 : (upd H1 pm (.dK [])) pm = some (.dK []) := upd_same
  generalize upd H1 pm _ = H2 at S2 hm2 ⊢
  dsimp only [gName]
  refine seq_cut (fun σ H' => ∃ (pm : Addr) (kvs : List (Key × V)), σ = [some (.ref a0), some (.ref a), some (.int n), some (.int pc), some (.ref pm), none, none, none, none, none] ∧ Same H1 H' ∧ H' pm = some (.dK kvs) ∧ ∀ (e : Int) v, valV kvs (.inl e) = some v → ∃ i : Int, v = .int i) (fun nx hJ => ?_) (fun σ' H' hj => ?_)
  ·refine ⟨_, rfl, _, _, rfl, rfl, ⟨by decide, by decide⟩, _, _, rfl, rfl, (by show (0 : Int) < _; decide), _, _, rfl, rfl, _, rfl, ite2 (fun _ => ?_) (fun _ => ?_)⟩
   ·refine ⟨_, rfl, _, rfl, _, rfl, _, _, rfl, rfl, ⟨by decide, by decide⟩, _, l, pc, _, rfl, Da.same S2 hv, ok, q0, q1, fun p kvs ks H' S' np hp M _ => ?_⟩
    exact hJ _ _ ⟨p, kvs, rfl, S2.trans S', hp, M.iv⟩
   ·exact hJ _ _ ⟨pm, [], rfl, S2, hm2, fun e v h => by simp [valV] at h⟩
  clear npm S2 hm2
  obtain ⟨pm, kvs, rfl, S2, hm2, hiv⟩ := hj
  refine ⟨by show 0 ≤ sizeLine; decide, fun p5 np5 => ?_⟩
  have S3 := S2.trans (same_upd (o := .lst []) np5)
  have hm3 := (same_upd (o := .lst []) np5) _ _ hm2
  have hp3 : (upd H' p5 (.lst [])) p5 = some (.lst []) := upd_same
  generalize upd H' p5 _ = H3 at S3 hm3 hp3 ⊢
  refine ⟨_, rfl, a, _, _, _, rfl, rfl, same_tseq S3 ht, rfl, _, rfl, by omega, by omega,
   for_range (fun i σ H4 => ∃ (pp : Addr) (ms : List Int) (x6 x7 : Option V), σ = [some (.ref a0), some (.ref a), some (.int n), some (.int pc), some (.ref pm), some (.ref pp), x6, x7, none, none] ∧ Same H1 H4 ∧ H4 pm = some (.dK kvs) ∧ H4 pp = some (.lst (ms.map V.int)) ∧ ms.length = 2 * i)
    ⟨p5, [], none, none, rfl, S3, hm3, hp3, rfl⟩ ?_ ?_⟩
  ·rintro i σ H4 hi ⟨pp, ms, x6, x7, rfl, S4, hm4, hp4, hl4⟩
   have hi : i < l.1.toNat := hi
   rw [Int.zero_add]
   refine ⟨_, rfl, pm, rfl, .inl ⟨kvs, .inl hm4⟩, _, rfl, _, _, rfl, rfl, .inl ⟨by decide, by decide⟩, _, rfl, a0, ns, 11, rfl, (S1.trans S4).seq hS, by decide, fun c2 => ⟨_, rfl, c2, _, rfl, by omega, by omega, fun m m0 m1 => ?_⟩⟩
   refine ⟨_, _, rfl, rfl, (by show (0 : Int) < _; decide), _, DGet.k (k := .inl (2 * (i : Int))) hm4, ?_⟩
   obtain ⟨x, hx⟩ : ∃ x : Int, (valV kvs (.inl (2 * (i : Int)))).getD (.int (m % 2)) = .int x := by
    cases hv : valV kvs (.inl (2 * (i : Int))) with
    | none => exact ⟨_, rfl⟩
    | some v => obtain ⟨y, rfl⟩ := hiv _ v hv; exact ⟨y, rfl⟩
   rw [hx]
   refine ⟨_, rfl, _, rfl, _, rfl, _, _, rfl, rfl, by show 2 ≤ sizeLine; decide, fun q nq => ?_⟩
   have s5 := same_upd (o := .lst [.int x, .int (1 - x)]) nq
   refine ⟨pp, q, _, _, rfl, rfl, s5 _ _ hp4, upd_same, Nat.le_of_lt (small_l (by rw [List.length_map]; show ms.length + 2 ≤ 1000; omega)), fun r nr => ?_⟩
   have s6 := s5.trans (same_upd (o := .lst (ms.map V.int ++ [.int x, .int (1 - x)])) nr)
   exact ⟨r, ms ++ [x, 1 - x], _, _, rfl, S4.trans s6, s6 _ _ hm4, by rw [upd_same, List.map_append]; rfl, by rw [List.length_append, hl4]; show 2 * i + 2 = 2 * (i + 1); omega⟩
  rintro σ H4 ⟨pp, ms, x6, x7, rfl, S4, hm4, hp4, hl4⟩
  have hl4 : ms.length = 2 * l.1.toNat := hl4
  have z0 : 0 ≤ n / 160 % 4 % 3 := by omega
  have z1 : n / 160 % 4 % 3 < 3 := by omega
  refine ⟨_, rfl, _, _, rfl, rfl, ⟨by decide, by decide⟩, _, _, rfl, rfl, (by show (0 : Int) < _; decide), _, _, rfl, rfl, (by show (0 : Int) < _; decide), _, rfl, by show -(2 ^ 62) ≤ n / 160 % 4 % 3; omega, by show n / 160 % 4 % 3 < 2 ^ 62; omega,
   for_range (fun i σ H5 => ∃ (pp : Addr) (ms : List Int) (x6 x7 : Option V), σ = [some (.ref a0), some (.ref a), some (.int n), some (.int pc), some (.ref pm), some (.ref pp), x6, x7, none, none] ∧ Same H1 H5 ∧ H5 pp = some (.lst (ms.map V.int)) ∧ ms.length ≤ 80 + i)
    ⟨pp, ms, x6, x7, rfl, S4, hp4, by omega⟩ ?_ ?_⟩
  ·rintro i σ H5 hi ⟨pp, ms, x6, x7, rfl, S5, hp5, hl5⟩
   have hi : i < (n / 160 % 4 % 3).toNat := hi
   rw [Int.zero_add]
   refine ⟨_, rfl, _, rfl, _, rfl, _, _, rfl, rfl, a0, ns, _, rfl, (S1.trans S5).seq hS, by show (0 : Int) ≤ 12 + i; omega, fun c2 => ⟨c2, 0, rfl, by decide, by decide, fun m m0 m1 => ?_⟩⟩
   refine ⟨_, ms, m, rfl, da_ints.mpr ⟨pp, rfl, SqL.of hp5⟩, by omega, m0, fun p ms' H6 s6 np hp hl => ?_⟩
   exact ⟨p, ms', _, _, rfl, S5.trans s6, hp, by omega⟩
  rintro σ H5 ⟨pp, ms, x6, x7, rfl, S5, hp5, hl5⟩
  have hl5 : ms.length ≤ 80 + (n / 160 % 4 % 3).toNat := hl5
  refine ⟨_, rfl, pp, _, rfl, .inl (SqL.of hp5), fun pg npg => ?_⟩
  have s6 := same_upd (o := .lst (ms.map V.int)) npg
  have hg6 : (upd H5 pg (.lst (ms.map V.int))) pg = some (.lst (ms.map V.int)) := upd_same
  generalize upd H5 pg _ = H6 at s6 hg6 ⊢
  have S6 := S5.trans s6
  refine ⟨_, rfl, _, rfl, _, rfl, _, _, l, pc, ms, rfl, Da.same S6 hv, da_ints.mpr ⟨pg, rfl, SqL.of hg6⟩, ok, q0, q1, by omega, fun H7 s7 => ?_⟩
  refine ⟨_, rfl, _, _, _, true, rfl, .bl _, kit_same, true, rfl, iteT ?_⟩
  refine ⟨_, rfl, _, rfl, _, rfl, _, rfl, _, _, l, pc, ms, rfl, Da.same (S6.trans s7) hv, da_ints.mpr ⟨pp, rfl, SqL.of ((s6.trans s7) _ _ hp5)⟩, ok, q0, q1, by omega, fun H8 s8 => ?_⟩
  refine ⟨rfl, _, rfl, ?_⟩
  rw [show decide (V.bl (dcd (KeepsP l pc ms)) = V.bl (dcd (KeepsP l pc ms))) = true from decide_eq_true rfl]
  have S68 := s6.trans (s7.trans s8)
  refine iteT ⟨_, rfl, _, rfl, dI ms, dI ms, da_ints.mpr ⟨pg, rfl, SqL.of ((s7.trans s8) _ _ hg6)⟩, da_ints.mpr ⟨pp, rfl, SqL.of (S68 _ _ hp5)⟩, okD_ints _, okD_ints _, ?_⟩
  rw [eqv_same (okD_ints _)]
  exact k _
end
end K32
namespace K32
open PySem L2 TL PyProof.Rows
theorem fn_mk {K : PySem.W.Frag} {h : Heap} {mg : Str → Option Value} {x : Str} {st : Stmt} {ps : List Str} {f : Addr} {oc : Value} {od an : Option Addr} {osl : Array (Option Value)} {kV doc pm cdv ct : Value} (X : K.In h) (G : h.Ns mainGlobals mg) (a : PySem.W.nsIn K mainGlobals x = some (some (.ref f)))
  (l : K.lookup f = some ⟨oc, od, .func (PySem.W.fnOf x x (defArgs st) (defBody st) (defScope st) .none kV doc pm an cdv ct), osl⟩) (c : PySem.W.codeIn K cdv x = true) (k : PySem.W.keepIn K (.ref f) = true)
  (hb : ∀ (kV doc pm : Value) (an : Option Addr) (cdv ct : Value) (us : List Value), us.length = ps.length → bindArgs (PySem.W.fnOf x x (defArgs st) (defBody st) (defScope st) .none kV doc pm an cdv ct) ⟨us, []⟩ = pure (ps.zip us)) :
  Fn K mg x st ps f (PySem.W.fnOf x x (defArgs st) (defBody st) (defScope st) .none kV doc pm an cdv ct) := ⟨fun_mk (st := st) l c k, PySem.W.mg_of X G a, (fun_mk (st := st) l c k).binds (ps := ps) hb⟩
structure En (K : PySem.W.Frag) (x : Str) (st : Stmt) (f : Addr) (oc : Value) (od : Option Addr) (osl : Array (Option Value)) (kV doc pm : Value) (an : Option Addr) (cdv ct : Value) : Prop where
 a : PySem.W.nsIn K mainGlobals x = some (some (.ref f))
 l : K.lookup f = some ⟨oc, od, .func (PySem.W.fnOf x x (defArgs st) (defBody st) (defScope st) .none kV doc pm an cdv ct), osl⟩
 c : PySem.W.codeIn K cdv x = true
 k : PySem.W.keepIn K (.ref f) = true
theorem all_mk {l : PySem.W.OpenLaw} {w : World} {K : PySem.W.Frag} {h : Heap} {mg : Str → Option Value} {fa f1 f2 f3 f4 f5 f6 f7 f8 f9 f10 f11 f12 f13 f14 f15 f16 : Addr} (X : K.In h) (G : h.Ns mainGlobals mg) (hfa : mg "law" = some (.ref fa))
  {od1 an1 od2 an2 od3 an3 od4 an4 od5 an5 od6 an6 od7 an7 od8 an8 od9 an9 od10 an10 od11 an11 od12 an12 od13 an13 od14 an14 od15 an15 od16 an16 : Option Addr} {sl1 sl2 sl3 sl4 sl5 sl6 sl7 sl8 sl9 sl10 sl11 sl12 sl13 sl14 sl15 sl16 : Array (Option Value)} {oc1 kV1 dc1 pm1 cd1 ct1 oc2 kV2 dc2 pm2 cd2 ct2 oc3 kV3 dc3 pm3 cd3 ct3 oc4 kV4 dc4 pm4 cd4 ct4 oc5 kV5 dc5 pm5 cd5 ct5 oc6 kV6 dc6 pm6 cd6 ct6 oc7 kV7 dc7 pm7 cd7 ct7 oc8 kV8 dc8 pm8 cd8 ct8 oc9 kV9 dc9 pm9 cd9 ct9 oc10 kV10 dc10 pm10 cd10 ct10 oc11 kV11 dc11 pm11 cd11 ct11 oc12 kV12 dc12 pm12 cd12 ct12 oc13 kV13 dc13 pm13 cd13 ct13 oc14 kV14 dc14 pm14 cd14 ct14 oc15 kV15 dc15 pm15 cd15 ct15 oc16 kV16 dc16 pm16 cd16 ct16 : Value}
  (e1 : En K "other_end" s_other_end f1 oc1 od1 sl1 kV1 dc1 pm1 an1 cd1 ct1)
  (e2 : En K "piece_of" s_piece_of f2 oc2 od2 sl2 kV2 dc2 pm2 an2 cd2 ct2)
  (e3 : En K "joined" s_joined f3 oc3 od3 sl3 kV3 dc3 pm3 an3 cd3 ct3)
  (e4 : En K "hang_together" s_hang_together f4 oc4 od4 sl4 kV4 dc4 pm4 an4 cd4 ct4)
  (e5 : En K "is_marking" s_is_marking f5 oc5 od5 sl5 kV5 dc5 pm5 an5 cd5 ct5)
  (e6 : En K "keeps" s_keeps f6 oc6 od6 sl6 kV6 dc6 pm6 an6 cd6 ct6)
  (e7 : En K "_law_cell_at" s_law_cell_at f7 oc7 od7 sl7 kV7 dc7 pm7 an7 cd7 ct7)
  (e8 : En K "_law_mix" s_law_mix f8 oc8 od8 sl8 kV8 dc8 pm8 an8 cd8 ct8)
  (e9 : En K "_law_turned_row" s_law_turned_row f9 oc9 od9 sl9 kV9 dc9 pm9 an9 cd9 ct9)
  (e10 : En K "_law_other" s_law_other f10 oc10 od10 sl10 kV10 dc10 pm10 an10 cd10 ct10)
  (e11 : En K "_law_line" s_law_line f11 oc11 od11 sl11 kV11 dc11 pm11 an11 cd11 ct11)
  (e12 : En K "_law_renamed" s_law_renamed f12 oc12 od12 sl12 kV12 dc12 pm12 an12 cd12 ct12)
  (e13 : En K "_law_set" s_law_set f13 oc13 od13 sl13 kV13 dc13 pm13 an13 cd13 ct13)
  (e14 : En K "_law_bent" s_law_bent f14 oc14 od14 sl14 kV14 dc14 pm14 an14 cd14 ct14)
  (e15 : En K "_law_keeps" s_law_keeps f15 oc15 od15 sl15 kV15 dc15 pm15 an15 cd15 ct15)
  (e16 : En K "law" s_law f16 oc16 od16 sl16 kV16 dc16 pm16 an16 cd16 ct16)
  (z1 : PySem.W.nsIn K mainGlobals "len" = some none) (z2 : PySem.W.nsIn K mainGlobals "range" = some none) (z3 : PySem.W.nsIn K mainGlobals "sorted" = some none) (z4 : PySem.W.nsIn K mainGlobals "enumerate" = some none) (z5 : PySem.W.nsIn K mainGlobals "reversed" = some none) (z6 : PySem.W.nsIn K mainGlobals "min" = some none) (z7 : PySem.W.nsIn K mainGlobals "max" = some none) (z8 : PySem.W.nsIn K mainGlobals "list" = some none) (z9 : PySem.W.nsIn K mainGlobals "int" = some none) (z10 : PySem.W.nsIn K mainGlobals "isinstance" = some none) (z11 : PySem.W.nsIn K mainGlobals "zip" = some none) (z12 : PySem.W.nsIn K mainGlobals "sum" = some none) (z13 : PySem.W.nsIn K mainGlobals "all" = some none) (z14 : PySem.W.nsIn K mainGlobals "set" = some none) (z15 : PySem.W.nsIn K mainGlobals "tuple" = some none) (z16 : PySem.W.nsIn K mainGlobals "abs" = some none) (z17 : PySem.W.nsIn K mainGlobals "bool" = some none) (z18 : PySem.W.nsIn K mainGlobals "dict" = some none) (z19 : PySem.W.nsIn K mainGlobals "str" = some none) :
  ∃ fd : FuncData, (∀ (s : Shared) (v : Value), BindsTo s fd ⟨[v], []⟩ [("_law_script", v)]) ∧ ∀ base : Heap, K.In base → base.Ns mainGlobals mg → FnOk l.prog w K mg base CX0 4 fa fd ["_law_script"] (sp_law K) := by
 have e := hfa.symm.trans (PySem.W.mg_of X G e16.a)
 cases e
 have B : Bm mg := ⟨⟨PySem.W.mg_none_of X G z1, PySem.W.mg_none_of X G z2, PySem.W.mg_none_of X G z3, PySem.W.mg_none_of X G z4, PySem.W.mg_none_of X G z5, PySem.W.mg_none_of X G z6, PySem.W.mg_none_of X G z7, PySem.W.mg_none_of X G z8, PySem.W.mg_none_of X G z9, PySem.W.mg_none_of X G z10⟩, PySem.W.mg_none_of X G z11, PySem.W.mg_none_of X G z12, PySem.W.mg_none_of X G z13, PySem.W.mg_none_of X G z14, PySem.W.mg_none_of X G z15, PySem.W.mg_none_of X G z16, PySem.W.mg_none_of X G z17, PySem.W.mg_none_of X G z18, PySem.W.mg_none_of X G z19⟩
 have F_other_end := fn_mk (st := s_other_end) (ps := ["end"]) X G e1.a e1.l e1.c e1.k fun _ _ _ _ _ _ us hl => match us, hl with | [_], _ => rfl
 have F_piece_of := fn_mk (st := s_piece_of) (ps := ["end"]) X G e2.a e2.l e2.c e2.k fun _ _ _ _ _ _ us hl => match us, hl with | [_], _ => rfl
 have F_joined := fn_mk (st := s_joined) (ps := ["line", "end"]) X G e3.a e3.l e3.c e3.k fun _ _ _ _ _ _ us hl => match us, hl with | [_, _], _ => rfl
 have F_hang_together := fn_mk (st := s_hang_together) (ps := ["line", "piece"]) X G e4.a e4.l e4.c e4.k fun _ _ _ _ _ _ us hl => match us, hl with | [_, _], _ => rfl
 have F_is_marking := fn_mk (st := s_is_marking) (ps := ["line", "marking"]) X G e5.a e5.l e5.c e5.k fun _ _ _ _ _ _ us hl => match us, hl with | [_, _], _ => rfl
 have F_keeps := fn_mk (st := s_keeps) (ps := ["line", "piece", "marking"]) X G e6.a e6.l e6.c e6.k fun _ _ _ _ _ _ us hl => match us, hl with | [_, _, _], _ => rfl
 have F_law_cell_at := fn_mk (st := s_law_cell_at) (ps := ["_law_script", "_law_k"]) X G e7.a e7.l e7.c e7.k fun _ _ _ _ _ _ us hl => match us, hl with | [_, _], _ => rfl
 have F_law_mix := fn_mk (st := s_law_mix) (ps := ["_law_cell", "_law_k"]) X G e8.a e8.l e8.c e8.k fun _ _ _ _ _ _ us hl => match us, hl with | [_, _], _ => rfl
 have F_law_turned_row := fn_mk (st := s_law_turned_row) (ps := ["_law_number", "_law_many"]) X G e9.a e9.l e9.c e9.k fun _ _ _ _ _ _ us hl => match us, hl with | [_, _], _ => rfl
 have F_law_other := fn_mk (st := s_law_other) (ps := ["_law_end"]) X G e10.a e10.l e10.c e10.k fun _ _ _ _ _ _ us hl => match us, hl with | [_], _ => rfl
 have F_law_line := fn_mk (st := s_law_line) (ps := ["_law_script"]) X G e11.a e11.l e11.c e11.k fun _ _ _ _ _ _ us hl => match us, hl with | [_], _ => rfl
 have F_law_renamed := fn_mk (st := s_law_renamed) (ps := ["_law_line_here", "_law_cell"]) X G e12.a e12.l e12.c e12.k fun _ _ _ _ _ _ us hl => match us, hl with | [_, _], _ => rfl
 have F_law_set := fn_mk (st := s_law_set) (ps := ["_law_line_here", "_law_piece", "_law_number"]) X G e13.a e13.l e13.c e13.k fun _ _ _ _ _ _ us hl => match us, hl with | [_, _, _], _ => rfl
 have F_law_bent := fn_mk (st := s_law_bent) (ps := ["_law_marking", "_law_number"]) X G e14.a e14.l e14.c e14.k fun _ _ _ _ _ _ us hl => match us, hl with | [_, _], _ => rfl
 have F_law_keeps := fn_mk (st := s_law_keeps) (ps := ["_law_line_here", "_law_piece", "_law_marking"]) X G e15.a e15.l e15.c e15.k fun _ _ _ _ _ _ us hl => match us, hl with | [_, _, _], _ => rfl
 have F_law := fn_mk (st := s_law) (ps := ["_law_script"]) X G e16.a e16.l e16.c e16.k fun _ _ _ _ _ _ us hl => match us, hl with | [_], _ => rfl
 refine ⟨PySem.W.fnOf "law" "law" (defArgs s_law) (defBody s_law) (defScope s_law) .none kV16 dc16 pm16 an16 cd16 ct16, fun s v => .of_eq rfl, fun base _ _ => ?_⟩
 have G_law_renamed : FnOk l.prog w K mg base CX0 2 _ _ _ _ := ok_law_renamed F_law_renamed F_law_mix F_law_turned_row B.toBl
 have G_law_line : FnOk l.prog w K mg base CX0 3 _ _ _ _ := ok_law_line F_law_line F_law_mix F_law_cell_at F_law_other F_law_renamed G_law_renamed B.toBl
 have G_hang_together : FnOk l.prog w K mg base CX0 2 _ _ _ _ := ok_hang_together F_hang_together B.toBl F_joined F_piece_of
 have G_keeps : FnOk l.prog w K mg base CX0 3 _ _ _ _ := ok_keeps F_keeps B F_is_marking F_hang_together F_piece_of F_other_end G_hang_together
 have G_law_set : FnOk l.prog w K mg base CX0 2 _ _ _ _ := ok_law_set F_law_set B F_law_other
 have G_law_keeps : FnOk l.prog w K mg base CX0 3 _ _ _ _ := ok_law_keeps F_law_keeps B F_law_set G_law_set
 exact ok_law F_law B F_law_line G_law_line F_law_cell_at F_law_mix F_law_set G_law_set F_law_bent F_keeps G_keeps F_law_keeps G_law_keeps
theorem walk {l : PySem.W.OpenLaw} {q : Program} {loose : List Str} {XP : (Str → Option Value) → Heap → Prop} {YP : World → Heap → Prop} {d : DefRec} {K : Params → PySem.W.Frag} (hn : l.most = some 63) (hdf : d.params.defaults = [])
  (hY : ∀ (w : World) (h : Heap), YP w h → (K w.params).In h)
  (F : ∀ (w : World) (mg : Str → Option Value) (fa : Addr) (h : Heap), (K w.params).In h → h.Ns mainGlobals mg → mg d.name = some (.ref fa) →
   ∃ fd : FuncData, (∀ (s : Shared) (u : Value), BindsTo s fd ⟨[u], []⟩ [("_law_script", u)]) ∧ ∀ base : Heap, (K w.params).In base → base.Ns mainGlobals mg → FnOk l.prog w (K w.params) mg base CX0 4 fa fd ["_law_script"] (sp_law (K w.params))) :
  PySem.W.WalkO q loose XP YP l.row.toRowW d [] (fun f vs => PySem.call f vs) :=
 L2.walk_of (n := 63) (k := 4) (x := "_law_script") (CX := fun _ => CX0) (sp := fun w => sp_law (K w.params)) hn (by decide) hdf ⟨rfl, by decide, by decide⟩ hY F (fun _ _ a ns hl _ hS => ⟨a, ns, rfl, hS, fun _ => rfl⟩) fun _ _ _ _ _ z => z
end K32
namespace PySem.W.Fast
def tw10049054977787355526:=0
def tw10164351712817146931:=0
def tw1016770094865611962:=0
def tw10552685148383946134:=0
def tw10788620468376007589:=0
def tw10879737982718232639:=0
def tw11095975018203297409:=0
def tw11185495031660379524:=0
def tw11262415980967074877:=0
def tw11262755807643673273:=0
def tw11369119558540742322:=0
def tw11492958290522044479:=0
def tw11517205425318930226:=0
def tw11715302890188383175:=0
def tw12075287179991499887:=0
def tw12195644619514960535:=0
def tw12269927342546560993:=0
def tw12309665890038813906:=0
def tw12334305775294010847:=0
def tw12719784914176491752:=0
def tw13095374421616927019:=0
def tw13189734334267726122:=0
def tw13212299519234025347:=0
def tw13474778764719517250:=0
def tw13722819888770741330:=0
def tw1374329996571633517:=0
def tw14126374508495675046:=0
def tw14392256183222709249:=0
def tw14435631438775234713:=0
def tw15270550390012771303:=0
def tw15425733986363181817:=0
def tw15643918019699963561:=0
def tw15801881511114440495:=0
def tw15907652414050264481:=0
def tw16084877246555724477:=0
def tw16212816888009670840:=0
def tw1622981975080178946:=0
def tw163656189219172358:=0
def tw16369889718190653214:=0
def tw16420328824457291031:=0
def tw16657583746530050559:=0
def tw16896147227556647826:=0
def tw16946127600764209005:=0
def tw16965781624161762810:=0
def tw17284245564389321323:=0
def tw17320414117706144924:=0
def tw1732885111825831513:=0
def tw17501258597247435267:=0
def tw17546461731801101028:=0
def tw17786559656328223086:=0
def tw17805659353447659662:=0
def tw17956400059508748749:=0
def tw18195441185541625763:=0
def tw18388476214737349922:=0
def tw2081906407672995953:=0
def tw2205394816876477921:=0
def tw2211572178377754031:=0
def tw2295095285651364279:=0
def tw2372739200746654274:=0
def tw2830930521727894563:=0
def tw299148183808809140:=0
def tw3803346196430075700:=0
def tw3985839074847670312:=0
def tw439913535212551319:=0
def tw4521576168322384414:=0
def tw4635974441139349851:=0
def tw4752070021113746472:=0
def tw4854102451399969722:=0
def tw4906306035290207303:=0
def tw4908699553579932068:=0
def tw5228847389787334626:=0
def tw5303608859623922428:=0
def tw5319199239928429931:=0
def tw5419591734076911988:=0
def tw5533934333530216181:=0
def tw5552343786749372802:=0
def tw577797503979893197:=0
def tw5960919296573760704:=0
def tw6101143495372332139:=0
def tw6318041317903963434:=0
def tw6319435847977745773:=0
def tw6471658841144736687:=0
def tw6723770069481615675:=0
def tw6769576499969330884:=0
def tw6935403086084432035:=0
def tw6951558626813553591:=0
def tw722357623104965172:=0
def tw7280414403441878328:=0
def tw728850378941936859:=0
def tw7329156444142280091:=0
def tw745401191680090646:=0
def tw7956878314800894933:=0
def tw8006901789477777859:=0
def tw8163286142557204148:=0
def tw8485136326340077728:=0
def tw8535357542301390015:=0
def tw8824961192706638964:=0
def tw887360543168209010:=0
def tw8955729442381183148:=0
def tw9040841306730177810:=0
def tw90610642654475200:=0
def tw9184250977514423827:=0
def tw9192499797627726175:=0
def tw9569511293294001460:=0
def tw9581765578429007041:=0
end PySem.W.Fast
open PySem PySem.W PyProof.Rows
set_option maxRecDepth 100000 in
set_option maxHeartbeats 0 in
theorem PySem.Challenge.cw_turnline_k32_markings_looked_at_holds : PySem.Challenge.rw_turnline_k32_markings_looked_at.Holds := by
 w_on; o_law; k_head; (case hw => w_witness2)
 k_fill
 refine K32.walk (l := PySem.Challenge.rw_turnline_k32_markings_looked_at) rfl rfl (fun w h Y => PySem.W.kIn_of Y) ?F
 case F =>
  intro w mg fa h KX G hmg
  refine' K32.all_mk KX G hmg ⟨?a1, ?l1, ?c1, ?k1⟩ ⟨?a2, ?l2, ?c2, ?k2⟩ ⟨?a3, ?l3, ?c3, ?k3⟩ ⟨?a4, ?l4, ?c4, ?k4⟩ ⟨?a5, ?l5, ?c5, ?k5⟩ ⟨?a6, ?l6, ?c6, ?k6⟩ ⟨?a7, ?l7, ?c7, ?k7⟩ ⟨?a8, ?l8, ?c8, ?k8⟩ ⟨?a9, ?l9, ?c9, ?k9⟩ ⟨?a10, ?l10, ?c10, ?k10⟩ ⟨?a11, ?l11, ?c11, ?k11⟩ ⟨?a12, ?l12, ?c12, ?k12⟩ ⟨?a13, ?l13, ?c13, ?k13⟩ ⟨?a14, ?l14, ?c14, ?k14⟩ ⟨?a15, ?l15, ?c15, ?k15⟩ ⟨?a16, ?l16, ?c16, ?k16⟩ ?z1 ?z2 ?z3 ?z4 ?z5 ?z6 ?z7 ?z8 ?z9 ?z10 ?z11 ?z12 ?z13 ?z14 ?z15 ?z16 ?z17 ?z18 ?z19
  (case a1 => k_is); (case l1 => k_is); (case c1 => k_is); (case k1 => k_is)
  (case a2 => k_is); (case l2 => k_is); (case c2 => k_is); (case k2 => k_is)
  (case a3 => k_is); (case l3 => k_is); (case c3 => k_is); (case k3 => k_is)
  (case a4 => k_is); (case l4 => k_is); (case c4 => k_is); (case k4 => k_is)
  (case a5 => k_is); (case l5 => k_is); (case c5 => k_is); (case k5 => k_is)
  (case a6 => k_is); (case l6 => k_is); (case c6 => k_is); (case k6 => k_is)
  (case a7 => k_is); (case l7 => k_is); (case c7 => k_is); (case k7 => k_is)
  (case a8 => k_is); (case l8 => k_is); (case c8 => k_is); (case k8 => k_is)
  (case a9 => k_is); (case l9 => k_is); (case c9 => k_is); (case k9 => k_is)
  (case a10 => k_is); (case l10 => k_is); (case c10 => k_is); (case k10 => k_is)
  (case a11 => k_is); (case l11 => k_is); (case c11 => k_is); (case k11 => k_is)
  (case a12 => k_is); (case l12 => k_is); (case c12 => k_is); (case k12 => k_is)
  (case a13 => k_is); (case l13 => k_is); (case c13 => k_is); (case k13 => k_is)
  (case a14 => k_is); (case l14 => k_is); (case c14 => k_is); (case k14 => k_is)
  (case a15 => k_is); (case l15 => k_is); (case c15 => k_is); (case k15 => k_is)
  (case a16 => k_is); (case l16 => k_is); (case c16 => k_is); (case k16 => k_is)
  (case z1 => k_is)
  (case z2 => k_is)
  (case z3 => k_is)
  (case z4 => k_is)
  (case z5 => k_is)
  (case z6 => k_is)
  (case z7 => k_is)
  (case z8 => k_is)
  (case z9 => k_is)
  (case z10 => k_is)
  (case z11 => k_is)
  (case z12 => k_is)
  (case z13 => k_is)
  (case z14 => k_is)
  (case z15 => k_is)
  (case z16 => k_is)
  (case z17 => k_is)
  (case z18 => k_is)
  (case z19 => k_is)
