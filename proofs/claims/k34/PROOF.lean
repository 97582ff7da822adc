import PyProof.Rows.All
import Wide.All
import OpenK.AllK
import Wide.FinOn
import PyProof.EqAt
import PyProof.EqKinds
import PyProof.TupleCall
import PyProof.CompFree
import PyProof.EvalArms
import KE.BitLaws
import OpenK.KOwn
import KE.KIsAll
import PyProof.ExcArgsOwn
import PyProof.IsiH_list
import PyProof.NsDelKeeps
import PyProof.ExcAttrAll.ValueError
import PyProof.ExcBaseAll.ValueError
import PyProof.ZipIter
import PyProof.Rows.SumAny
import KE.LcSums
import PyProof.SetRoads
import PyProof.Rows.SetFrom
import KE.KSetDisp
import PyProof.DictIter
import PyProof.DictRoadsH
import PyProof.Rows.TupDisplay
import PyProof.FString
import PyProof.FactsAll.list_1
import PyProof.CollectWalk
import PyProof.StrWalks
import PyProof.StrLawsTight
import PyProof.StrLawsChain
import PyProof.StrLawsIn
import PyProof.StrCalls2
import PyProof.StrBlockG
import PyProof.SliceStr2
import KE.KIntText
import PyProof.CollectIter
import PyProof.Walks
import PyProof.SetKind
import PyProof.TupleKey
import PyProof.IsRules
import PyProof.SetNew
import PyProof.StrOps2
import PyProof.Rows.Range3
import PyProof.DictCompW
import KE.KDictSum
import PyProof.Rows.SeqMore
import PyProof.DictItems
import KE.KPairComp
import PySem.Challenge.RW_turnline_k34_whole_trains_turned_and_the
set_option Elab.async false
set_option linter.all false
set_option maxRecDepth 100000
namespace L2
open PySem PySem.Spec PyProof.Rows
abbrev Key := Sum Int Str
def keyIs : Key → Value → Bool
 | .inl k, v => Value.isInt k v
 | .inr x, v => Value.isStrOf x v
def keyH (w : World) : Key → Int
 | .inl k => hashInt k
 | .inr x => hashStr w x
theorem keyIs_shape : ∀ {k : Key} {v : Value}, keyIs k v = true → (∃ i t, k = Sum.inl i ∧ v = Value.int i t) ∨ (∃ x t, k = Sum.inr x ∧ v = Value.str x t)
 | .inl i, v, h => by
  obtain ⟨t, e⟩ := Value.isInt_shape (k := i) (v := v) h
  exact .inl ⟨i, t, rfl, e⟩
 | .inr x, v, h => by
  obtain ⟨t, e⟩ := Value.isStrOf_shape (x := x) (v := v) h
  exact .inr ⟨x, t, rfl, e⟩
theorem keyIs_int (i : Int) (t : Tok) : keyIs (.inl i) (.int i t) = true := by simp [keyIs, Value.isInt]
theorem keyIs_str (x : Str) (t : Tok) : keyIs (.inr x) (.str x t) = true := by simp [keyIs, Value.isStrOf]
theorem key_ll (a b : Int) : decide ((Sum.inl a : Key) = Sum.inl b) = (a == b) := by
 by_cases e : a = b
 ·subst e; simp
 ·have h : ¬ (Sum.inl a : Key) = Sum.inl b := fun q => e (Sum.inl.inj q)
  rw [decide_eq_false h]
  exact (beq_eq_false_iff_ne.mpr e).symm
theorem key_rr (a b : Str) : decide ((Sum.inr a : Key) = Sum.inr b) = decide (a = b) := by
 by_cases e : a = b
 ·subst e; simp
 ·have h : ¬ (Sum.inr a : Key) = Sum.inr b := fun q => e (Sum.inr.inj q)
  rw [decide_eq_false h, decide_eq_false e]
theorem key_lr (a : Int) (b : Str) : decide ((Sum.inl a : Key) = Sum.inr b) = false := decide_eq_false (fun q => nomatch q)
theorem key_rl (a : Str) (b : Int) : decide ((Sum.inr a : Key) = Sum.inl b) = false := decide_eq_false (fun q => nomatch q)
def mixKind (prog : Program) (w : World) : PySem.KeyKind prog w Key where
 is := keyIs
 hash := keyH w
 inj := fun v a b ha hb => by
  rcases keyIs_shape ha with ⟨i, t, rfl, rfl⟩ | ⟨x, t, rfl, rfl⟩
  ·rcases keyIs_shape hb with ⟨j, u, rfl, e⟩ | ⟨y, u, rfl, e⟩
   ·injection e with e1 _; rw [e1]
   ·exact nomatch e
  ·rcases keyIs_shape hb with ⟨j, u, rfl, e⟩ | ⟨y, u, rfl, e⟩
   ·exact nomatch e
   ·injection e with e1 _; rw [e1]
 byValue := fun k v h => by
  rcases keyIs_shape h with ⟨i, t, rfl, rfl⟩ | ⟨x, t, rfl, rfl⟩ <;> rfl
 pyHash := fun hv h => by
  rcases keyIs_shape hv with ⟨i, t, rfl, rfl⟩ | ⟨x, t, rfl, rfl⟩
  ·exact wpAny_pyHash_int h
  ·exact wpAny_pyHash_str h
 eqBool := fun hu hv h => by
  rcases keyIs_shape hu with ⟨i, t, rfl, rfl⟩ | ⟨x, t, rfl, rfl⟩
  ·rcases keyIs_shape hv with ⟨j, u, rfl, rfl⟩ | ⟨y, u, rfl, rfl⟩
   ·rw [key_ll] at h; exact wpAny_eqBool_int h
   ·rw [key_lr] at h; exact SeqAt.EqAt.int_str i t y u _ _ _ _ h
  ·rcases keyIs_shape hv with ⟨j, u, rfl, rfl⟩ | ⟨y, u, rfl, rfl⟩
   ·rw [key_rl] at h; exact SeqAt.EqAt.str_int x t j u _ _ _ _ h
   ·rw [key_rr] at h; exact wpAny_eqBool_str h
 «strs» := fun k x t v h => by
  rcases keyIs_shape h with ⟨i, u, rfl, e⟩ | ⟨y, u, rfl, e⟩
  ·exact nomatch e
  ·injection e with e1 _
   subst e1
   cases v <;> rfl
theorem mixKind_int (prog : Program) (w : World) (i : Int) (t : Tok) : (mixKind prog w).is (.inl i) (.int i t) = true := keyIs_int i t
theorem mixKind_str (prog : Program) (w : World) (x : Str) (t : Tok) : (mixKind prog w).is (.inr x) (.str x t) = true := keyIs_str x t
end L2
namespace L2
open PySem PySem.Spec PyProof.Rows
inductive V where
 | non | bl (b : Bool) | int (i : Int) | str (x : Str) | byt (b : Array UInt8) | flt (b : UInt64) | ref (a : Addr) | ty (n : String)
 deriving DecidableEq
def RelV : V → Value → Prop
 | .non, u => u = Value.none
 | .bl b, u => u = Value.bool b
 | .int i, u => ∃ t, u = Value.int i t
 | .str x, u => ∃ t, u = Value.str x t
 | .byt b, u => ∃ t, u = Value.bytes b t
 | .flt b, u => ∃ t, u = Value.float b t
 | .ref a, u => u = Value.ref a
 | .ty n, u => u = Value.type n
abbrev Vals : List V → List Value → Prop := Paired RelV
theorem Vals.length {xs : List V} {us : List Value} (r : Vals xs us) : xs.length = us.length := Paired.length r
theorem Vals.get : ∀ {xs : List V} {us : List Value} {i : Nat} {x : V}, Vals xs us → xs[i]? = some x → ∃ u, us[i]? = some u ∧ RelV x u
 | _, _, _, _, .nil, e => by simp at e
 | _, _, 0, _, .cons r _, e => by simp at e; subst e; exact ⟨_, rfl, r⟩
 | _, _, i + 1, x, .cons _ t, e => by
  obtain ⟨u, h1, h2⟩ := Vals.get (i := i) (x := x) t (by simpa using e)
  exact ⟨u, by simpa using h1, h2⟩
theorem Vals.set {x : V} {u : Value} (r : RelV x u) : ∀ {xs : List V} {us : List Value} (i : Nat), Vals xs us → Vals (xs.set i x) (us.set i u)
 | _, _, _, .nil => .nil
 | _, _, 0, .cons _ t => .cons r t
 | _, _, i + 1, .cons q t => .cons q (Vals.set r i t)
theorem Vals.append : ∀ {xs ys : List V} {us ws : List Value}, Vals xs us → Vals ys ws → Vals (xs ++ ys) (us ++ ws)
 | _, _, _, _, .nil, s => s
 | _, _, _, _, .cons r t, s => .cons r (Vals.append t s)
theorem Vals.take : ∀ {xs : List V} {us : List Value} (n : Nat), Vals xs us → Vals (xs.take n) (us.take n)
 | _, _, 0, _ => .nil
 | _, _, _ + 1, .nil => .nil
 | _, _, n + 1, .cons r t => .cons r (Vals.take n t)
theorem Vals.drop : ∀ {xs : List V} {us : List Value} (n : Nat), Vals xs us → Vals (xs.drop n) (us.drop n)
 | _, _, 0, r => r
 | _, _, _ + 1, .nil => .nil
 | _, _, n + 1, .cons _ t => Vals.drop n t
def RelO : Option V → Option Value → Prop
 | some v, some u => RelV v u
 | none, none => True
 | _, _ => False
def KV {κ : Type} : List (κ × V) → List (κ × Value) → Prop := Paired fun (p : κ × V) (q : κ × Value) => p.1 = q.1 ∧ RelV p.2 q.2
def kV : Key → V
 | .inl i => .int i
 | .inr x => .str x
inductive HO where
 /-- a list -/
 | lst (xs : List V)
 /-- a tuple (never changes) -/
 | tup (xs : List V)
 /-- a dict whose keys are ints and texts; one whose keys are tuples of ints and texts (the empty one is both) -/
 | dK (kvs : List (Key × V)) | dT (kvs : List (List Key × V))
 /-- a set of ints: its members, its size -/
 | set (S : Int → Bool) (n : Nat)
 /-- an instance of the class at C, its dict at dx, its attributes -/
 | ins (C dx : Addr) (fs : List (Str × V))
 /-- the dict of the instance at x -/
 | own (x : Addr)
 /-- the dict of an exception -/
 | xd (fs : List (Str × V))
 /-- a bound method, f of x -/
 | met (f x : Addr)
 /-- a range object lo, lo + 1, .. below hi -/
 | rng (lo hi : Int)
 /-- a thing that is known to the object (the script; a dict while a loop walks it): read, never written while it is so -/
 | frz (o : Obj) (u : HO)
 /-- a code object's table -/
 | tbl (ps : Array Value)
 /-- any other thing, by what is true of its one object (a def of one's own: SetO a S n := HO.ext fun h => ..) -/
 | ext (φ : Heap → Prop)
abbrev Hp := Addr → Option HO
def upd (H : Hp) (a : Addr) (o : HO) : Hp := fun b => if b = a then some o else H b
theorem upd_same {H : Hp} {a : Addr} {o : HO} : upd H a o a = some o := by unfold upd; rw [if_pos rfl]
theorem upd_ne {H : Hp} {a b : Addr} {o : HO} (h : b ≠ a) : upd H a o b = H b := by unfold upd; rw [if_neg h]
theorem upd_upd {H : Hp} {a : Addr} {o u : HO} : upd (upd H a o) a u = upd H a u := by
 funext b; unfold upd; split <;> rfl
theorem ne_of {H : Hp} {a b : Addr} {o u : HO} (h : H a = some o) (h' : H b = some u) (d : o ≠ u) : a ≠ b := by
 intro e; subst e; rw [h] at h'; exact d (Option.some.inj h')
theorem ne_of_none {H : Hp} {a b : Addr} {o : HO} (h : H a = some o) (h' : H b = none) : a ≠ b := by
 intro e; subst e; rw [h] at h'; cases h'
section
variable (P : Program) (w : World)
def ObjOk (H : Hp) (h : Heap) (a : Addr) : HO → Prop
 | .lst xs => xs.length ≤ sizeLine ∧ ∃ (its : List Value) (n : Nat), Vals xs its ∧ h.get? a = some { cls := .type "list", data := .seq its.toArray n }
 | .tup xs => xs.length ≤ sizeLine ∧ ∃ its : List Value, Vals xs its ∧ IsTup h a its.toArray
 | .dK kvs => kvs.length ≤ sizeLine ∧ (a == sysModules) = false ∧ ∃ vs, KV kvs vs ∧ h.DictOf (mixKind P w) a vs
 | .dT kvs => kvs.length ≤ sizeLine ∧ (a == sysModules) = false ∧ ∃ xs : List (List Key × Addr × Value),
   Paired (fun (p : List Key × V) (q : List Key × Addr × Value) => p.1 = q.1 ∧ H q.2.1 = some (.tup (p.1.map kV)) ∧ RelV p.2 q.2.2) kvs xs ∧
   ∃ o es ep, h.get? a = some o ∧ o.ExactDict ∧ o.data = .dict es ep ∧ es.toList = xs.map (entryOfKey (tupleKind (mixKind P w))) ∧ (xs.map (·.1)).Nodup
 | .set S n => h.SetOf (intKind P w) a S n
 | .ins C dx fs => H dx = some (.own a) ∧ fs.length ≤ 1000 ∧ dx ≠ a ∧ h.get? a = some (PySem.W.instObj C dx) ∧
   ∃ mA, h.Ns1 dx mA ∧ (∀ f, RelO (fs.lookup f) (mA f)) ∧ PySem.Within mA (fs.map (·.1))
 | .own _ => ∃ o, h.get? a = some o
 | .xd fs => ∃ mA, h.Ns1 a mA ∧ ∀ f, RelO (fs.lookup f) (mA f)
 | .rng lo hi => ∃ t u v, h.get? a = some { cls := .type "range", data := .fields #[.int lo t, .int hi u, .int 1 v] }
 | .frz o u => h.get? a = some o ∧ ObjOk H h a u
 | .tbl ps => h.get? a = some { cls := .none, data := .fields ps }
 | .met f x => h.get? a = some (PySem.W.methodObj (.ref f) (.ref x))
 | .ext φ => φ h ∧ (∃ o, h.get? a = some o) ∧ ∀ h1 h2 : Heap, φ h1 → (∀ o, h1.get? a = some o → h2.get? a = some o) → φ h2
def HOk (H : Hp) (h : Heap) : Prop := ∀ a o, H a = some o → ObjOk P w H h a o
end
section
variable {P : Program} {w : World} {H H' : Hp} {h h' : Heap} {a : Addr} {o : HO}
theorem ObjOk.lt (x : ObjOk P w H h a o) : a < h.objs.size := by
 cases o with
 | lst xs => obtain ⟨_, _, _, _, e⟩ := x; exact Heap.lt_size e
 | tup xs => obtain ⟨_, _, _, p⟩ := x; exact p.lt
 | dK kvs => obtain ⟨_, _, _, _, o, _, _, e, _⟩ := x; exact Heap.lt_size e
 | dT kvs => obtain ⟨_, _, _, _, o, _, _, e, _⟩ := x; exact Heap.lt_size e
 | set S n => obtain ⟨o, _, _, _, e, _⟩ := x; exact Heap.lt_size e
 | ins C dx fs => obtain ⟨_, _, _, e, _⟩ := x; exact Heap.lt_size e
 | own y => obtain ⟨_, e⟩ := x; exact Heap.lt_size e
 | xd fs => obtain ⟨_, ⟨_, _, _, e, _⟩, _⟩ := x; exact Heap.lt_size e
 | rng lo hi => obtain ⟨_, _, _, e⟩ := x; exact Heap.lt_size e
 | frz ob u => obtain ⟨e, _⟩ := x; exact Heap.lt_size e
 | tbl ps => exact Heap.lt_size (show h.get? a = some _ from x)
 | met f y => exact Heap.lt_size (show h.get? a = some _ from x)
 | ext φ => obtain ⟨_, ⟨_, e⟩, _⟩ := x; exact Heap.lt_size e
theorem Paired.mapP {α β : Type} {F G : α → β → Prop} : ∀ {l₁ : List α} {l₂ : List β}, Paired F l₁ l₂ → (∀ a b, F a b → G a b) → Paired G l₁ l₂
 | _, _, .nil, _ => .nil
 | _, _, .cons r t, f => .cons (f _ _ r) (Paired.mapP t f)
theorem ObjOk.stay (x : ObjOk P w H h a o) (k : ∀ b u, (b = a ∨ H b = some (.own a)) → h.get? b = some u → h'.get? b = some u)
  (ho : ∀ b, H b = some (.own a) → H' b = some (.own a)) (ht : ∀ b xs, H b = some (.tup xs) → H' b = some (.tup xs)) : ObjOk P w H' h' a o := by
 induction o with
 | lst xs => obtain ⟨z, its, n, r, e⟩ := x; exact ⟨z, its, n, r, k _ _ (.inl rfl) e⟩
 | tup xs => obtain ⟨z, its, r, ob, e, c⟩ := x; exact ⟨z, its, r, ob, k _ _ (.inl rfl) e, c⟩
 | dK kvs => obtain ⟨z, y, vs, r, ob, es, ep, e, c⟩ := x; exact ⟨z, y, vs, r, ob, es, ep, k _ _ (.inl rfl) e, c⟩
 | dT kvs =>
  obtain ⟨z, y, xs, r, ob, es, ep, e, c⟩ := x
  exact ⟨z, y, xs, Paired.mapP r fun p q z => ⟨z.1, ht _ _ z.2.1, z.2.2⟩, ob, es, ep, k _ _ (.inl rfl) e, c⟩
 | set S n => obtain ⟨ob, es, ep, t, e, c⟩ := x; exact ⟨ob, es, ep, t, k _ _ (.inl rfl) e, c⟩
 | ins C dx fs =>
  obtain ⟨d, z, ne, e, mA, ⟨od, es, ep, e2, c⟩, r⟩ := x
  exact ⟨ho _ d, z, ne, k _ _ (.inl rfl) e, mA, ⟨od, es, ep, k _ _ (.inr d) e2, c⟩, r⟩
 | own y => obtain ⟨ob, e⟩ := x; exact ⟨ob, k _ _ (.inl rfl) e⟩
 | xd fs => obtain ⟨mA, ⟨od, es, ep, e, c⟩, r⟩ := x; exact ⟨mA, ⟨od, es, ep, k _ _ (.inl rfl) e, c⟩, r⟩
 | rng lo hi => obtain ⟨t, u, v, e⟩ := x; exact ⟨t, u, v, k _ _ (.inl rfl) e⟩
 | frz ob u ih => obtain ⟨e, q⟩ := x; exact ⟨k _ _ (.inl rfl) e, ih q⟩
 | tbl ps =>
  have e : h.get? a = some { cls := .none, data := .fields ps } := x
  show h'.get? a = some { cls := .none, data := .fields ps }
  exact k a _ (.inl rfl) e
 | met f y =>
  have e : h.get? a = some (PySem.W.methodObj (.ref f) (.ref y)) := x
  show h'.get? a = some (PySem.W.methodObj (.ref f) (.ref y))
  exact k a _ (.inl rfl) e
 | ext φ => obtain ⟨p, ⟨o, e⟩, st⟩ := x; exact ⟨st _ _ p fun o q => k _ _ (.inl rfl) q, ⟨o, k _ _ (.inl rfl) e⟩, st⟩
theorem HOk.lt (x : HOk P w H h) (e : H a = some o) : a < h.objs.size := (x a o e).lt
theorem HOk.fresh (x : HOk P w H h) (e : h.objs.size ≤ a) : H a = none := by
 cases q : H a with
 | none => rfl
 | some u => exact absurd (Nat.lt_of_lt_of_le (x.lt q) e) (Nat.lt_irrefl _)
theorem HOk.kept (x : HOk P w H h) (k : ∀ b u, h.get? b = some u → h'.get? b = some u) : HOk P w H h' := fun a o e =>
 (x a o e).stay (fun b u _ q => k b u q) (fun _ q => q) fun _ _ q => q
theorem HOk.laid (x : HOk P w H h) (k : ∀ b u, h.get? b = some u → h'.get? b = some u) (hp : h.objs.size ≤ a) (new : ObjOk P w (upd H a o) h' a o) : HOk P w (upd H a o) h' := fun b u e => by
 have hn := x.fresh hp
 by_cases hb : b = a
 ·subst hb; rw [upd_same] at e; cases e; exact new
 ·rw [upd_ne hb] at e
  exact (x b u e).stay (fun c v _ q => k c v q) (fun c q => by rw [upd_ne (ne_of_none q hn)]; exact q) fun c xs q => by rw [upd_ne (ne_of_none q hn)]; exact q
end
def Rd (H : Hp) (a : Addr) (u : HO) : Prop := H a = some u ∨ ∃ o, H a = some (.frz o u)
theorem Rd.ok {P : Program} {w : World} {H : Hp} {h : Heap} {a : Addr} {u : HO} (r : Rd H a u) (x : HOk P w H h) : ObjOk P w H h a u := by
 rcases r with r | ⟨o, r⟩
 ·exact x a u r
 ·obtain ⟨_, q⟩ := x a _ r
  exact q
def Mut : Option HO → Prop
 | some (.lst _) => True
 | some (.dK _) => True
 | some (.dT _) => True
 | some (.set _ _) => True
 | some (.ins _ _ _) => True
 | some (.ext _) => True
 | _ => False
section
variable {P : Program} {w : World} {H : Hp} {h h' : Heap} {x e : Addr} {o' : HO}
theorem HOk.write (ok : HOk P w H h) (mu : Mut (H x)) (he : e = x ∨ H e = some (.own x)) (k : ∀ b u, b ≠ e → h.get? b = some u → h'.get? b = some u) (heo : ∃ u, h'.get? e = some u)
  (new : ObjOk P w (upd H x o') h' x o') : HOk P w (upd H x o') h' := fun b u q => by
 have nown : ∀ c y, H c = some (.own y) → c ≠ x := fun c y r z => by subst z; rw [r] at mu; exact mu
 have ntup : ∀ c xs, H c = some (.tup xs) → c ≠ x := fun c xs r z => by subst z; rw [r] at mu; exact mu
 by_cases hb : b = x
 ·subst hb; rw [upd_same] at q; cases q; exact new
 ·rw [upd_ne hb] at q
  by_cases hbe : b = e
  ·have q' : H b = some (.own x) := by
    rcases he with z | z
    ·exact absurd (hbe.trans z) hb
    ·rw [hbe]; exact z
   rw [q] at q'; cases q'
   obtain ⟨v, hv⟩ := heo
   exact ⟨v, by rw [hbe]; exact hv⟩
  ·refine (ok b u q).stay (fun c v hc r => k c v ?_ r) (fun c r => by rw [upd_ne (nown c b r)]; exact r) fun c xs r => by rw [upd_ne (ntup c xs r)]; exact r
   rcases hc with rfl | hc
   ·exact hbe
   ·rintro rfl
    rcases he with z | z
    ·exact nown c b hc z
    ·rw [hc] at z; cases z; exact hb rfl
end
structure Un (fs ex : List Addr) (H H' : Hp) (h h' : Heap) : Prop where
 keep : ∀ b o, h.get? b = some o → H b = none → b ∉ fs → b ∉ ex → h'.get? b = some o
 slot : ∀ b o, h.get? b = some o → H b = none → b ∈ fs → b ∉ ex → ∃ sl, h'.get? b = some { o with slots := sl }
 free : ∀ b o, h.get? b = some o → H b = none → b ∉ ex → H' b = none
 there : ∀ b o, h.get? b = some o → b ∉ ex → ∃ o', h'.get? b = some o'
 tups : ∀ b xs, H b = some (.tup xs) → H' b = some (.tup xs)
 frzs : ∀ b o u, H b = some (.frz o u) → H' b = some (.frz o u)
 tbls : ∀ b ps, H b = some (.tbl ps) → ∃ more, H' b = some (.tbl (ps ++ more))
section
variable {fs fs' ex ex' : List Addr} {H H1 H2 : Hp} {h h1 h2 h' : Heap} {a x e : Addr} {o : HO}
theorem Un.any (u : Un fs ex H H1 h h1) {b : Addr} {ob : Obj} (q : h.get? b = some ob) (n : H b = none) (hx : b ∉ ex) : ∃ sl, h1.get? b = some { ob with slots := sl } := by
 by_cases hb : b ∈ fs
 ·exact u.slot b ob q n hb hx
 ·exact ⟨ob.slots, u.keep b ob q n hb hx⟩
theorem Un.trans (a : Un fs ex H H1 h h1) (b : Un fs ex H1 H2 h1 h2) : Un fs ex H H2 h h2 where
 keep := fun c ob q n hc hx => b.keep c ob (a.keep c ob q n hc hx) (a.free c ob q n hx) hc hx
 slot := fun c ob q n hc hx => by
  obtain ⟨sl, e1⟩ := a.slot c ob q n hc hx
  obtain ⟨sl', e2⟩ := b.slot c _ e1 (a.free c ob q n hx) hc hx
  exact ⟨sl', e2⟩
 free := fun c ob q n hx => by
  obtain ⟨o', e1⟩ := a.there c ob q hx
  exact b.free c o' e1 (a.free c ob q n hx) hx
 there := fun c ob q hx => by
  obtain ⟨o', e1⟩ := a.there c ob q hx
  exact b.there c o' e1 hx
 tups := fun c xs q => b.tups c xs (a.tups c xs q)
 frzs := fun c ob xs q => b.frzs c ob xs (a.frzs c ob xs q)
 tbls := fun c ps q => by
  obtain ⟨m1, e1⟩ := a.tbls c ps q
  obtain ⟨m2, e2⟩ := b.tbls c _ e1
  exact ⟨m1 ++ m2, by rw [e2, Array.append_assoc]⟩
theorem Un.kept (k : ∀ b u, h.get? b = some u → h'.get? b = some u) : Un fs ex H H h h' :=
 ⟨fun b ob q _ _ _ => k b ob q, fun b ob q _ _ _ => ⟨ob.slots, k b ob q⟩, fun _ _ _ n _ => n, fun b ob q _ => ⟨ob, k b ob q⟩, fun _ _ q => q, fun _ _ _ q => q, fun _ ps q => ⟨#[], by rw [q]; simp⟩⟩
theorem Un.refl : Un fs ex H H h h := Un.kept fun _ _ q => q
theorem Un.laid (k : ∀ b u, h.get? b = some u → h'.get? b = some u) (hp : h.objs.size ≤ a) (hn : H a = none) : Un fs ex H (upd H a o) h h' where
 keep := fun b u q _ _ _ => k b u q
 slot := fun b u q _ _ _ => ⟨u.slots, k b u q⟩
 free := fun b u q n _ => by rw [upd_ne (Nat.ne_of_lt (Nat.lt_of_lt_of_le (Heap.lt_size q) hp))]; exact n
 there := fun b u q _ => ⟨u, k b u q⟩
 tups := fun b xs q => by rw [upd_ne (ne_of_none q hn)]; exact q
 frzs := fun b u xs q => by rw [upd_ne (ne_of_none q hn)]; exact q
 tbls := fun b ps q => ⟨#[], by rw [upd_ne (ne_of_none q hn), q]; simp⟩
theorem Un.write (mu : Mut (H x)) (he : e = x ∨ H e = some (.own x)) (k : ∀ b u, b ≠ e → h.get? b = some u → h'.get? b = some u) (heo : ∃ u, h'.get? e = some u) : Un fs ex H (upd H x o) h h' := by
 have hx : ∀ b, H b = none → b ≠ x := fun b n z => by subst z; rw [n] at mu; exact mu
 have hb : ∀ b, H b = none → b ≠ e := fun b n z => by
  subst z
  rcases he with r | r
  ·exact hx b n r
  ·rw [n] at r; cases r
 have hm : ∀ b u, H b = some u → ¬ Mut (some u) → b ≠ x := fun b u q nm z => by subst z; rw [q] at mu; exact nm mu
 refine ⟨fun b u q n _ _ => k b u (hb b n) q, fun b u q n _ _ => ⟨u.slots, k b u (hb b n) q⟩, fun b u q n _ => by rw [upd_ne (hx b n)]; exact n, fun b u q _ => ?_,
  fun b xs q => by rw [upd_ne (hm b _ q fun z => z)]; exact q, fun b u xs q => by rw [upd_ne (hm b _ q fun z => z)]; exact q, fun b ps q => ⟨#[], by rw [upd_ne (hm b _ q fun z => z), q]; simp⟩⟩
 by_cases hbe : b = e
 ·subst hbe; exact heo
 ·exact ⟨u, k b u hbe q⟩
end
def trk (h : Heap) (H : Hp) : List Addr := (List.range h.objs.size).filter fun a => (H a).isSome
def hidT (h : Heap) (H : Hp) : Heap := PySem.W.hideAll h (trk h H)
theorem hidT_size (h : Heap) (H : Hp) : (hidT h H).objs.size = h.objs.size := PySem.W.hideAll_size _ _
theorem hidT_get {h : Heap} {H : Hp} {b : Addr} {o : Obj} (e : h.get? b = some o) (n : H b = none) : (hidT h H).get? b = some o :=
 PySem.W.hideAll_get _ e fun hm => by
  have q : (H b).isSome = true := (List.mem_filter.mp hm).2
  rw [n] at q; simp at q
theorem of_hidT {h : Heap} {H : Hp} {b : Addr} {o : Obj} (e : (hidT h H).get? b = some o) : h.get? b = some o ∧ H b = none := by
 have e' : h.get? b = some o := PySem.W.of_hideAll (trk h H) e
 refine ⟨e', ?_⟩
 cases q : H b with
 | none => rfl
 | some x =>
  have hm : b ∈ trk h H := List.mem_filter.mpr ⟨List.mem_range.mpr (Heap.lt_size e'), by simp [q]⟩
  have z : (hidT h H).get? b = none := PySem.W.hideAll_none (trk h H) hm
  rw [z] at e; cases e
end L2
namespace L2
open PySem PySem.Spec PyProof.Rows
structure Mod (K : PySem.W.Frag) (mg : Str → Option Value) (base : Heap) : Prop where
 kin : K.In base
 glob : base.Ns mainGlobals mg
 blt : ∃ mb, base.Ns builtinsNs mb ∧ ∀ x : Str, x ≠ "__name__" → mb x = bootBuiltins x
 nolimit : base.NoLimit
structure Cx where
 prog : Program
 w : World
 K : PySem.W.Frag
 mg : Str → Option Value
 base : Heap
 A : Around
 N : List Str
 s₀ : Shared
 H₀ : Hp
 env : Env
 outer : List Env
 stack : List Env
 ex : List Addr
 fn : Str → Bool
 calm : Bool
 pn : List (Addr × Obj)
 xe : Value → Shared → Prop
def frs (l : List Env) : List Addr := l.filterMap (·.frame)
abbrev Cx.fs (X : Cx) : List Addr := frs X.outer
def Vis (sc : Scope) (x : Str) : Prop := sc.names.lookup x = some .local ∨ sc.names.lookup x = some .cell ∨ sc.names.lookup x = some .free
def Loc (sc : Scope) (x : Str) : Prop := sc.names.lookup x = some .local ∨ sc.names.lookup x = some .cell
def Look (env : Env) (h : Heap) (m : Str → Option Value) (x : Str) (u : Value) : Prop :=
 (env.kindOf x = some .local ∧ m x = some u) ∨ ((env.kindOf x = some .cell ∨ env.kindOf x = some .free) ∧ ∃ c, env.cells.lookup x = some c ∧ h.IsCell c (some u))
structure Cx.Ok (X : Cx) : Prop where
 mod : Mod X.K X.mg X.base
 kind : X.env.scope.kind = .function
 glob : X.env.globals = mainGlobals
 blt : X.env.builtins = builtinsNs
 above : X.s₀.heap.objs.size ≤ X.env.locals
 inj : ∀ x y c, X.env.cells.lookup x = some c → X.env.cells.lookup y = some c → x = y
 has : ∀ x, (X.env.kindOf x = some .cell ∨ X.env.kindOf x = some .free) → ∃ c, X.env.cells.lookup x = some c
 cab : ∀ x c, X.fn x = true → X.env.cells.lookup x = some c → X.s₀.heap.objs.size ≤ c
 hd : X.calm = true → X.A.handled = none
 frames : X.A.frames = some X.stack
 stk : X.stack = X.outer ∨ (X.stack = X.env :: X.outer ∧ X.env.frame = some X.env.locals)
 exf : ∀ b ∈ X.ex, b ≠ X.env.locals ∧ ∀ x c, X.env.cells.lookup x = some c → c ≠ b
 bs : ∀ b o, X.base.get? b = some o → X.s₀.heap.get? b = some o ∧ X.H₀ b = none
 bsz : X.base.objs.size ≤ X.s₀.heap.objs.size
 noex : ∀ b o, X.base.get? b = some o → b ∉ X.ex
 exfs : ∀ b ∈ X.ex, b ∉ X.fs
 funs : X.s₀.heap.FunFrames X.base X.outer
 frf : ∀ b ∈ X.fs, X.H₀ b = none
structure Inv (X : Cx) (pins : List (Addr × Obj)) (σ : List (Option V)) (H : Hp) (s : Shared) : Prop where
 ok : X.Ok
 os : s.os = X.s₀.os
 bare : AllBare s.gens
 base : Un X.fs X.ex X.H₀ H X.s₀.heap s.heap
 loc : ∃ m, s.heap.Ns X.env.locals m ∧ ∀ (i : Nat) (x : Str) (v : V), X.N[i]? = some x → σ[i]? = some (some v) → Vis X.env.scope x → ∃ u, RelV v u ∧ Look X.env s.heap m x u
 cell : ∀ x c, X.env.cells.lookup x = some c → ∃ v, s.heap.IsCell c v
 free : H X.env.locals = none
 freeC : ∀ x c, X.env.cells.lookup x = some c → H c = none
 pin : ∀ p ∈ X.pn ++ pins, s.heap.get? p.1 = some p.2 ∧ H p.1 = none ∧ p.1 ≠ X.env.locals ∧ p.1 ∉ X.fs ∧ ∀ v, p.2.data ≠ .cell v
 hok : HOk X.prog X.w H s.heap
 len : σ.length = X.N.length
section
variable {X : Cx} {pins : List (Addr × Obj)} {σ : List (Option V)} {H H' : Hp} {s : Shared} {h' : Heap}
theorem Cx.Ok.nofr (ok : X.Ok) {b : Addr} {o : Obj} (e : X.base.get? b = some o) : b ∉ X.fs := fun hb => by
 have := (ok.funs.mem hb).1
 rw [e] at this; cases this
theorem Inv.bs (I : Inv X pins σ H s) : ∀ b o, X.base.get? b = some o → s.heap.get? b = some o ∧ H b = none := fun b o e =>
 ⟨I.base.keep b o (I.ok.bs b o e).1 (I.ok.bs b o e).2 (I.ok.nofr e) (I.ok.noex b o e), I.base.free b o (I.ok.bs b o e).1 (I.ok.bs b o e).2 (I.ok.noex b o e)⟩
theorem Inv.bk (I : Inv X pins σ H s) : ∀ b o, X.base.get? b = some o → s.heap.get? b = some o := fun b o e => (I.bs b o e).1
theorem Inv.mod (I : Inv X pins σ H s) : Mod X.K X.mg X.base := I.ok.mod
theorem Inv.kIn (I : Inv X pins σ H s) : X.K.In s.heap := I.ok.mod.kin.keeps I.bk
theorem Inv.lt (I : Inv X pins σ H s) : X.env.locals < s.heap.objs.size := let ⟨_, hn, _⟩ := I.loc; hn.lt
theorem Inv.sz (I : Inv X pins σ H s) : X.s₀.heap.objs.size ≤ s.heap.objs.size := Nat.le_trans I.ok.above (Nat.le_of_lt I.lt)
theorem Inv.nofs (I : Inv X pins σ H s) {a : Addr} (h : s.heap.objs.size ≤ a) : a ∉ X.fs := fun hb => by
 obtain ⟨_, o, ho, _⟩ := I.ok.funs.mem hb
 exact absurd (Nat.lt_of_lt_of_le (Heap.lt_size ho) (Nat.le_trans I.sz h)) (Nat.lt_irrefl _)
theorem Inv.cne (I : Inv X pins σ H s) : ∀ x c, X.env.cells.lookup x = some c → c ≠ X.env.locals := fun x c e z => by
 obtain ⟨v, o, ho, hd⟩ := I.cell x c e
 obtain ⟨m, ⟨o', es, ep, ho', hd', _⟩, _⟩ := I.loc
 rw [z, ho'] at ho; cases ho; rw [hd'] at hd; cases hd
theorem Inv.funs (I : Inv X pins σ H s) : s.heap.FunFrames X.base X.outer := by
 have all : ∀ (l : List Env), (∀ b ∈ frs l, b ∈ X.fs) → X.s₀.heap.FunFrames X.base l → s.heap.FunFrames X.base l := by
  intro l
  induction l with
  | nil => intro _ _; trivial
  | cons env r ih =>
   intro hs hl
   obtain ⟨hk, ⟨L, o, hf, hn, ho, hd⟩, hr⟩ := hl
   have hL : L ∈ X.fs := hs L (by unfold frs; rw [List.filterMap_cons, hf]; exact List.mem_cons_self)
   obtain ⟨sl, e⟩ := I.base.slot L o ho (I.ok.frf L hL) hL fun z => I.ok.exfs L z hL
   exact ⟨hk, ⟨L, _, hf, hn, e, hd⟩, ih (fun b hb => hs b (by unfold frs; rw [List.filterMap_cons, hf]; exact List.mem_cons_of_mem _ hb)) hr⟩
 exact all X.outer (fun _ hb => hb) I.ok.funs
theorem Inv.stack (I : Inv X pins σ H s) : s.heap.FunFrames X.base X.stack := by
 rcases I.ok.stk with e | ⟨e, hf⟩
 ·rw [e]; exact I.funs
 ·rw [e]
  obtain ⟨m, hn, _⟩ := I.loc
  refine .cons (by rw [I.ok.kind]; decide) hf hn ?_ I.funs
  exact Heap.get?_none_of_le (Nat.le_trans I.ok.bsz I.ok.above)
theorem Inv.stkSub (I : Inv X pins σ H s) : ∀ b ∈ frs X.stack, b ∈ X.env.locals :: X.fs := fun b hb => by
 rcases I.ok.stk with e | ⟨e, hf⟩
 ·rw [e] at hb; exact List.mem_cons_of_mem _ hb
 ·rw [e] at hb
  unfold frs at hb
  rw [List.filterMap_cons, hf] at hb
  exact hb
theorem Inv.stkFree (I : Inv X pins σ H s) : ∀ b ∈ frs X.stack, H b = none := fun b hb => by
 rcases List.mem_cons.mp (I.stkSub b hb) with e | hb
 ·rw [e]; exact I.free
 ·obtain ⟨_, o, ho, _⟩ := I.ok.funs.mem hb
  exact I.base.free b o ho (I.ok.frf b hb) fun z => I.ok.exfs b z hb
theorem Inv.step {g' : Array GenState} {t' : Nat} {d' : Drawn} {ch : List Addr} (I : Inv X pins σ H s)
  (hch : ∀ b ∈ ch, (b ∈ X.ex ∨ X.s₀.heap.objs.size ≤ b) ∧ b ≠ X.env.locals ∧ (∀ x c, X.env.cells.lookup x = some c → c ≠ b) ∧ ∀ p ∈ X.pn ++ pins, p.1 ≠ b)
  (keep : ∀ b o, b ≠ X.env.locals → b ∉ X.fs → b ∉ ch → s.heap.get? b = some o → H b = none → h'.get? b = some o)
  (slot : ∀ b o, b ≠ X.env.locals → b ∈ X.fs → b ∉ ch → s.heap.get? b = some o → H b = none → ∃ sl, h'.get? b = some { o with slots := sl }) (free : ∀ b o, b ∉ ch → s.heap.get? b = some o → H b = none → H' b = none)
  (there : ∀ b o, b ∉ ch → s.heap.get? b = some o → ∃ o', h'.get? b = some o')
  (tups : ∀ b xs, H b = some (.tup xs) → H' b = some (.tup xs)) (frzs : ∀ b o u, H b = some (.frz o u) → H' b = some (.frz o u)) (tbls : ∀ b ps, H b = some (.tbl ps) → ∃ more, H' b = some (.tbl (ps ++ more)))
  (ns : ∀ m, s.heap.Ns X.env.locals m → h'.Ns X.env.locals m) (hok : HOk X.prog X.w H' h') (hg : AllBare g') :
  Inv X pins σ H' { s with heap := h', gens := g', drawn := d', toks := t' } := by
 have neL : ∀ b o, X.s₀.heap.get? b = some o → b ≠ X.env.locals := fun b o e => Nat.ne_of_lt (Nat.lt_of_lt_of_le (Heap.lt_size e) I.ok.above)
 have neC : ∀ b o, X.s₀.heap.get? b = some o → b ∉ X.ex → b ∉ ch := fun b o e hx hb => by
  rcases (hch b hb).1 with z | z
  ·exact hx z
  ·exact absurd (Nat.lt_of_lt_of_le (Heap.lt_size e) z) (Nat.lt_irrefl _)
 have cellK : ∀ x c, X.env.cells.lookup x = some c → ∀ v, s.heap.IsCell c v → h'.IsCell c v := fun x c e v ⟨o, ho, hd⟩ => by
  have nch : c ∉ ch := fun z => (hch c z).2.2.1 x c e rfl
  by_cases hc : c ∈ X.fs
  ·obtain ⟨sl, q⟩ := slot c o (I.cne x c e) hc nch ho (I.freeC x c e)
   exact ⟨_, q, hd⟩
  ·exact ⟨o, keep c o (I.cne x c e) hc nch ho (I.freeC x c e), hd⟩
 refine ⟨I.ok, I.os, hg, ⟨fun b o e n hb hx => ?_, fun b o e n hb hx => ?_, fun b o e n hx => ?_, fun b o e hx => ?_, fun b xs e => tups b xs (I.base.tups b xs e), fun b o xs e => frzs b o xs (I.base.frzs b o xs e), fun b ps e => ?_⟩, ?_, fun x c e => ?_, ?_, fun x c e => ?_, fun p hp => ?_, hok, I.len⟩
 ·exact keep b o (neL b o e) hb (neC b o e hx) (I.base.keep b o e n hb hx) (I.base.free b o e n hx)
 ·obtain ⟨sl, e1⟩ := I.base.slot b o e n hb hx
  obtain ⟨sl', e2⟩ := slot b _ (neL b o e) hb (neC b o e hx) e1 (I.base.free b o e n hx)
  exact ⟨sl', e2⟩
 ·obtain ⟨o', e1⟩ := I.base.there b o e hx
  exact free b o' (neC b o e hx) e1 (I.base.free b o e n hx)
 ·obtain ⟨o', e1⟩ := I.base.there b o e hx
  exact there b o' (neC b o e hx) e1
 ·obtain ⟨m1, e1⟩ := I.base.tbls b ps e
  obtain ⟨m2, e2⟩ := tbls b _ e1
  exact ⟨m1 ++ m2, by rw [e2, Array.append_assoc]⟩
 ·obtain ⟨m, hn, hl⟩ := I.loc
  refine ⟨m, ns m hn, fun i x v e1 e2 e3 => ?_⟩
  obtain ⟨u, r, l⟩ := hl i x v e1 e2 e3
  refine ⟨u, r, ?_⟩
  rcases l with l | ⟨k, c, e, z⟩
  ·exact .inl l
  ·exact .inr ⟨k, c, e, cellK x c e _ z⟩
 ·obtain ⟨v, z⟩ := I.cell x c e
  exact ⟨v, cellK x c e v z⟩
 ·obtain ⟨m, ⟨o, _, _, ho, _⟩, _⟩ := I.loc
  exact free _ o (fun z => (hch _ z).2.1 rfl) ho I.free
 ·obtain ⟨v, o, ho, hd⟩ := I.cell x c e
  exact free c o (fun z => (hch c z).2.2.1 x c e rfl) ho (I.freeC x c e)
 ·obtain ⟨e, n, ne, nf, d⟩ := I.pin p hp
  have nch : p.1 ∉ ch := fun z => (hch p.1 z).2.2.2 p hp rfl
  exact ⟨keep p.1 p.2 ne nf nch e n, free p.1 p.2 nch e n, ne, nf, d⟩
theorem Inv.un {t' : Nat} (I : Inv X pins σ H s) (u : Un X.fs [] H H' s.heap h') (hok : HOk X.prog X.w H' h') : Inv X pins σ H' { s with heap := h', toks := t' } := by
 obtain ⟨m, ⟨o, es, ep, ho, r⟩, _⟩ := id I.loc
 obtain ⟨sl, hL⟩ := u.any ho I.free (by simp)
 exact I.step (g' := s.gens) (d' := s.drawn) (ch := []) (fun _ z => nomatch z) (fun b o _ hb _ e n => u.keep b o e n hb (by simp)) (fun b o _ hb _ e n => u.slot b o e n hb (by simp)) (fun b o _ e n => u.free b o e n (by simp)) (fun b o _ e => u.there b o e (by simp)) u.tups u.frzs u.tbls (fun m' hm => by
  obtain ⟨o', es', ep', ho', r'⟩ := hm
  rw [ho] at ho'; cases ho'
  exact ⟨_, es', ep', hL, r'⟩) hok I.bare
theorem Inv.call {g' : Array GenState} {t' : Nat} {d' : Drawn} {ch : List Addr} (I : Inv X pins σ H s) (u : Un (frs X.stack) ch H H' s.heap h') (hok : HOk X.prog X.w H' h') (hg : AllBare g')
  (hch : ∀ b ∈ ch, (b ∈ X.ex ∨ X.s₀.heap.objs.size ≤ b) ∧ b ≠ X.env.locals ∧ (∀ x c, X.env.cells.lookup x = some c → c ≠ b) ∧ ∀ p ∈ X.pn ++ pins, p.1 ≠ b) :
  Inv X pins σ H' { s with heap := h', gens := g', drawn := d', toks := t' } := by
 obtain ⟨m, ⟨o, es, ep, ho, r⟩, _⟩ := id I.loc
 obtain ⟨sl, hL⟩ := u.any ho I.free fun z => (hch _ z).2.1 rfl
 exact I.step (ch := ch) hch (fun b o hL hb hc e n => u.keep b o e n (fun z => (List.mem_cons.mp (I.stkSub b z)).elim hL hb) hc) (fun b o _ _ hc e n => u.any e n hc) (fun b o hc e n => u.free b o e n hc) (fun b o hc e => u.there b o e hc) u.tups u.frzs u.tbls (fun m' hm => by
  obtain ⟨o', es', ep', ho', r'⟩ := hm
  rw [ho] at ho'; cases ho'
  exact ⟨_, es', ep', hL, r'⟩) hok hg
theorem Inv.turned {t' : Nat} {it : Addr} (I : Inv X pins σ H s) (k : ∀ b o, b ≠ it → s.heap.get? b = some o → h'.get? b = some o) (hn : H it = none) (hL : it ≠ X.env.locals)
  (h1 : it ∈ X.ex ∨ X.s₀.heap.objs.size ≤ it) (h2 : ∀ x c, X.env.cells.lookup x = some c → c ≠ it) (h3 : ∀ p ∈ X.pn ++ pins, p.1 ≠ it) : Inv X pins σ H { s with heap := h', toks := t' } := by
 have nit : ∀ b u, H b = some u → b ≠ it := fun b u e z => by rw [z, hn] at e; cases e
 refine I.step (g' := s.gens) (d' := s.drawn) (ch := [it]) (fun b hb => ?_) (fun b o _ _ hc e _ => k b o (fun z => hc (by simp [z])) e) (fun b o _ _ hc e _ => ⟨o.slots, k b o (fun z => hc (by simp [z])) e⟩) (fun _ _ _ _ n => n)
  (fun b o hc e => ⟨o, k b o (fun z => hc (by simp [z])) e⟩) (fun _ _ e => e) (fun _ _ _ e => e) (fun b ps e => ⟨#[], by rw [e]; simp⟩) (fun m hm => ?_) (fun b u e => ?_) I.bare
 ·have e : b = it := by simpa using hb
  subst e
  exact ⟨h1, hL, h2, h3⟩
 ·obtain ⟨o, es, ep, ho, r⟩ := hm
  exact ⟨o, es, ep, k _ o (Ne.symm hL) ho, r⟩
 ·refine (I.hok b u e).stay (fun c v hc q => k c v ?_ q) (fun _ q => q) fun _ _ q => q
  rcases hc with z | z
  ·rw [z]; exact nit b u e
  ·exact nit c _ z
theorem Inv.tok (I : Inv X pins σ H s) (t : Nat) : Inv X pins σ H { s with toks := t } := I.un (h' := s.heap) (t' := t) Un.refl I.hok
theorem Inv.kept {t' : Nat} (I : Inv X pins σ H s) (k : ∀ b u, s.heap.get? b = some u → h'.get? b = some u) : Inv X pins σ H { s with heap := h', toks := t' } := I.un (Un.kept k) (I.hok.kept k)
theorem Inv.laid {a : Addr} {o : HO} {t' : Nat} (I : Inv X pins σ H s) (k : ∀ b u, s.heap.get? b = some u → h'.get? b = some u) (hp : s.heap.objs.size ≤ a) (new : ObjOk X.prog X.w (upd H a o) h' a o) :
  Inv X pins σ (upd H a o) { s with heap := h', toks := t' } := I.un (Un.laid k hp (I.hok.fresh hp)) (I.hok.laid k hp new)
theorem Inv.write {x e : Addr} {o : HO} {t' : Nat} (I : Inv X pins σ H s) (mu : Mut (H x)) (he : e = x ∨ H e = some (.own x)) (k : ∀ b u, b ≠ e → s.heap.get? b = some u → h'.get? b = some u) (heo : ∃ u, h'.get? e = some u)
  (new : ObjOk X.prog X.w (upd H x o) h' x o) : Inv X pins σ (upd H x o) { s with heap := h', toks := t' } := I.un (Un.write mu he k heo) (I.hok.write mu he k heo new)
theorem Inv.weak {σ' : List (Option V)} (I : Inv X pins σ H s) (hl : σ'.length = σ.length) (w : ∀ (i : Nat) v, σ'[i]? = some (some v) → σ[i]? = some (some v)) : Inv X pins σ' H s :=
 ⟨I.ok, I.os, I.bare, I.base, let ⟨m, hn, hl'⟩ := I.loc; ⟨m, hn, fun i x v e1 e2 e3 => hl' i x v e1 (w i v e2) e3⟩, I.cell, I.free, I.freeC, I.pin, I.hok, hl.trans I.len⟩
theorem Inv.pins_of {pins' : List (Addr × Obj)} (I : Inv X pins σ H s) (h : ∀ p ∈ pins', s.heap.get? p.1 = some p.2 ∧ H p.1 = none ∧ p.1 ≠ X.env.locals ∧ p.1 ∉ X.fs ∧ ∀ v, p.2.data ≠ .cell v) : Inv X pins' σ H s :=
 ⟨I.ok, I.os, I.bare, I.base, I.loc, I.cell, I.free, I.freeC, fun p hp => (List.mem_append.mp hp).elim (fun z => I.pin p (List.mem_append_left _ z)) (h p), I.hok, I.len⟩
theorem nodup_ix {N : List Str} (hN : N.Nodup) {i j : Nat} {x : Str} (a : N[i]? = some x) (b : N[j]? = some x) : i = j := by
 obtain ⟨h1, e1⟩ := List.getElem?_eq_some_iff.mp a
 obtain ⟨h2, e2⟩ := List.getElem?_eq_some_iff.mp b
 exact (List.getElem_inj hN).mp (e1.trans e2.symm)
theorem store_ok2 {M : Model} {A : Around} {E : Value → Shared → Prop} {i : Nat} {x : Str} {v : V} {u : Value} {Q : Unit → Shared → Prop} (I : Inv X pins σ H s) (hN : X.N.Nodup) (hi : X.N[i]? = some x) (hx : Loc X.env.scope x) (r : RelV v u)
  (h : ∀ s', Inv X pins (σ.set i (some v)) H s' → (∃ a, Heap.SameBut a s.heap s'.heap ∧ (a = X.env.locals ∨ X.env.cells.lookup x = some a)) → Q () s') (hf : X.fn x = true ∨ X.env.scope.names.lookup x = some .local := by first | exact .inl rfl | exact .inr rfl | assumption) : wpAny M A (storeName X.env x u) Q E s := by
 obtain ⟨m, hn, hl⟩ := id I.loc
 have hcls : (X.env.scope.kind == .class || (X.env.scope.kind == .module && X.env.locals != X.env.globals)) = false := by rw [I.ok.kind]; rfl
 have hiσ : i < σ.length := by rw [I.len]; exact (List.getElem?_eq_some_iff.mp hi).1
 have cne := I.cne
 have tracked : ∀ {a : Addr} {h' : Heap}, (∃ o, s.heap.get? a = some o ∧ H a = none) → Heap.SameBut a s.heap h' → HOk X.prog X.w H h' := fun {a h'} ha hs b ob e => by
  obtain ⟨_, _, hfree⟩ := ha
  refine (I.hok b ob e).stay (fun c w' hc q => (hs.2 c ?_).trans q) (fun _ q => q) fun _ _ q => q
  rintro rfl
  rcases hc with rfl | hc
  ·rw [hfree] at e; cases e
  ·rw [hfree] at hc; cases hc
 rcases hx with hk | hk
 ·refine wpAny_storeName_local hk hn (fun h' hn' hs => ?_) hcls
  obtain ⟨oL, _, _, hoL, _⟩ := id hn
  refine h _ ⟨I.ok, I.os, I.bare, ⟨fun b o e n hb hx => ?_, fun b o e n hb hx => ?_, I.base.free, fun b o e hx => ?_, I.base.tups, I.base.frzs, I.base.tbls⟩, ⟨_, hn', fun j y v' e1 e2 e3 => ?_⟩, fun y c e => ?_, I.free, I.freeC, fun p hp => ?_, tracked ⟨oL, hoL, I.free⟩ hs, by simpa using I.len⟩ ⟨_, hs, .inl rfl⟩
  ·exact (hs.2 b (Nat.ne_of_lt (Nat.lt_of_lt_of_le (Heap.lt_size e) I.ok.above))).trans (I.base.keep b o e n hb hx)
  ·obtain ⟨sl, e1⟩ := I.base.slot b o e n hb hx
   exact ⟨sl, (hs.2 b (Nat.ne_of_lt (Nat.lt_of_lt_of_le (Heap.lt_size e) I.ok.above))).trans e1⟩
  ·obtain ⟨o', e1⟩ := I.base.there b o e hx
   exact ⟨o', (hs.2 b (Nat.ne_of_lt (Nat.lt_of_lt_of_le (Heap.lt_size e) I.ok.above))).trans e1⟩
  ·by_cases hj : j = i
   ·subst hj
    rw [hi] at e1; cases e1
    rw [List.getElem?_set_self hiσ] at e2
    cases e2
    exact ⟨u, r, .inl ⟨hk, by simp⟩⟩
   ·rw [List.getElem?_set_ne (Ne.symm hj)] at e2
    obtain ⟨u', r', q⟩ := hl j y v' e1 e2 e3
    refine ⟨u', r', ?_⟩
    rcases q with ⟨k, e⟩ | ⟨k, c, e, z⟩
    ·refine .inl ⟨k, ?_⟩
     have : y ≠ x := fun e => hj (nodup_ix hN e1 (e ▸ hi))
     simp [this, e]
    ·exact .inr ⟨k, c, e, z.sameBut hs (cne y c e)⟩
  ·obtain ⟨w', z⟩ := I.cell y c e
   exact ⟨w', z.sameBut hs (cne y c e)⟩
  ·obtain ⟨e, n, ne, nf, d⟩ := I.pin p hp
   exact ⟨(hs.2 p.1 ne).trans e, n, ne, nf, d⟩
 ·have hfn : X.fn x = true := by
   rcases hf with z | z
   ·exact z
   ·rw [z] at hk; cases hk
  obtain ⟨c, hc⟩ := I.ok.has x (.inl hk)
  obtain ⟨w', z⟩ := I.cell x c hc
  refine wpAny_storeName_cell I.ok.kind hk hc z (fun h' hc' hs => ?_)
  obtain ⟨oc, hoc, hocd⟩ := id z
  refine h { s with heap := h' } ⟨I.ok, I.os, I.bare, ⟨fun b o e n hb hx => ?_, fun b o e n hb hx => ?_, I.base.free, fun b o e hx => ?_, I.base.tups, I.base.frzs, I.base.tbls⟩, ⟨m, hn.sameBut hs (Ne.symm (cne x c hc)), fun j y v' e1 e2 e3 => ?_⟩, fun y c' e => ?_, I.free, I.freeC, fun p hp => ?_, tracked ⟨oc, hoc, I.freeC x c hc⟩ hs, by simpa using I.len⟩ ⟨c, hs, .inr hc⟩
  ·exact (hs.2 b (Nat.ne_of_lt (Nat.lt_of_lt_of_le (Heap.lt_size e) (I.ok.cab x c hfn hc)))).trans (I.base.keep b o e n hb hx)
  ·obtain ⟨sl, e1⟩ := I.base.slot b o e n hb hx
   exact ⟨sl, (hs.2 b (Nat.ne_of_lt (Nat.lt_of_lt_of_le (Heap.lt_size e) (I.ok.cab x c hfn hc)))).trans e1⟩
  ·obtain ⟨o', e1⟩ := I.base.there b o e hx
   exact ⟨o', (hs.2 b (Nat.ne_of_lt (Nat.lt_of_lt_of_le (Heap.lt_size e) (I.ok.cab x c hfn hc)))).trans e1⟩
  ·by_cases hj : j = i
   ·subst hj
    rw [hi] at e1; cases e1
    rw [List.getElem?_set_self hiσ] at e2
    cases e2
    exact ⟨u, r, .inr ⟨.inl hk, c, hc, hc'⟩⟩
   ·rw [List.getElem?_set_ne (Ne.symm hj)] at e2
    obtain ⟨u', r', q⟩ := hl j y v' e1 e2 e3
    refine ⟨u', r', ?_⟩
    rcases q with q | ⟨k, c', e, z'⟩
    ·exact .inl q
    ·refine .inr ⟨k, c', e, z'.sameBut hs ?_⟩
     rintro rfl
     exact hj (nodup_ix hN e1 (I.ok.inj _ _ _ e hc ▸ hi))
  ·by_cases hcc : c' = c
   ·subst hcc; exact ⟨_, hc'⟩
   ·obtain ⟨w2, z2⟩ := I.cell y c' e
    exact ⟨w2, z2.sameBut hs hcc⟩
  ·obtain ⟨e, n, ne, nf, d⟩ := I.pin p hp
   refine ⟨(hs.2 p.1 ?_).trans e, n, ne, nf, d⟩
   intro q
   rw [q, hoc] at e
   have q' : oc = p.2 := Option.some.inj e
   exact d w' (by rw [← q']; exact hocd)
theorem store_ok {M : Model} {A : Around} {E : Value → Shared → Prop} {i : Nat} {x : Str} {v : V} {u : Value} {Q : Unit → Shared → Prop} (I : Inv X pins σ H s) (hN : X.N.Nodup) (hi : X.N[i]? = some x) (hx : Loc X.env.scope x) (r : RelV v u)
  (h : ∀ s', Inv X pins (σ.set i (some v)) H s' → Q () s') (hf : X.fn x = true ∨ X.env.scope.names.lookup x = some .local := by first | exact .inl rfl | exact .inr rfl | assumption) : wpAny M A (storeName X.env x u) Q E s :=
 store_ok2 I hN hi hx r (fun s' I' _ => h s' I') hf
theorem Inv.call' {s' : Shared} {ch : List Addr} (I : Inv X pins σ H s) (ho : s'.os = s.os) (u : Un (frs X.stack) ch H H' s.heap s'.heap) (hok : HOk X.prog X.w H' s'.heap) (hg : AllBare s'.gens)
  (hch : ∀ b ∈ ch, (b ∈ X.ex ∨ X.s₀.heap.objs.size ≤ b) ∧ b ≠ X.env.locals ∧ (∀ x c, X.env.cells.lookup x = some c → c ≠ b) ∧ ∀ p ∈ X.pn ++ pins, p.1 ≠ b) : Inv X pins σ H' s' := by
 obtain ⟨h', g', d', t', o'⟩ := s'
 have e : o' = s.os := ho
 subst e
 exact I.call (g' := g') (t' := t') (d' := d') u hok hg hch
end
abbrev XK := Value → Option Addr → Hp → Prop
abbrev St := List (Option V)
abbrev VK := V → Hp → Prop
abbrev TE := St → Hp → VK → Prop
abbrev TT := St → Hp → (Bool → Hp → Prop) → Prop
abbrev TA := St → Hp → (List V → Hp → Prop) → Prop
structure Ends where
 nx : St → Hp → Prop
 rt : VK
 bk : St → Hp → Prop := fun _ _ => False
 ct : St → Hp → Prop := fun _ _ => False
abbrev TS := Ends → St → Hp → Prop
def EP (X : Cx) (pins : List (Addr × Obj)) (σ : St) (Q : VK) (u : Value) (s' : Shared) : Prop := ∃ v H', Inv X pins σ H' s' ∧ RelV v u ∧ Q v H'
def TP (X : Cx) (pins : List (Addr × Obj)) (σ : St) (Q : Bool → Hp → Prop) (b : Bool) (s' : Shared) : Prop := ∃ H', Inv X pins σ H' s' ∧ Q b H'
def AP (X : Cx) (pins : List (Addr × Obj)) (σ : St) (Q : List V → Hp → Prop) (us : List Value) (s' : Shared) : Prop := ∃ vs H', Inv X pins σ H' s' ∧ Vals vs us ∧ Q vs H'
def SP (X : Cx) (pins : List (Addr × Obj)) (D : Ends) (f : Flow) (s' : Shared) : Prop :=
 match f with
 | .next => ∃ σ' H', Inv X pins σ' H' s' ∧ D.nx σ' H'
 | .brk => ∃ σ' H', Inv X pins σ' H' s' ∧ D.bk σ' H'
 | .cont => ∃ σ' H', Inv X pins σ' H' s' ∧ D.ct σ' H'
 | .ret u => ∃ v σ' H', Inv X pins σ' H' s' ∧ RelV v u ∧ D.rt v H'
def PE (X : Cx) (e : Expr) (t : TE) : Prop :=
 ∀ (pins : List (Addr × Obj)) (s : Shared) (σ : St) (H : Hp) (Q : VK), Inv X pins σ H s → t σ H Q → wpAny (model X.prog X.w) X.A (eval e X.env) (EP X pins σ Q) X.xe s
def PT (X : Cx) (e : Expr) (t : TT) : Prop :=
 ∀ (pins : List (Addr × Obj)) (s : Shared) (σ : St) (H : Hp) (Q : Bool → Hp → Prop), Inv X pins σ H s → t σ H Q → wpAny (model X.prog X.w) X.A (isTrue e X.env (eval e X.env)) (TP X pins σ Q) X.xe s
def PW (X : Cx) (e : Expr) (t : TT) : Prop :=
 ∀ (whole : Sem Value) (pins : List (Addr × Obj)) (s : Shared) (σ : St) (H : Hp) (Q : Bool → Hp → Prop), Inv X pins σ H s → t σ H Q → wpAny (model X.prog X.w) X.A (isTrue e X.env whole) (TP X pins σ Q) X.xe s
theorem PW.pt {X : Cx} {e : Expr} {t : TT} (h : PW X e t) : PT X e t := h _
def PA (X : Cx) (es : List Expr) (t : TA) : Prop :=
 ∀ (pos : Pos) (pins : List (Addr × Obj)) (s : Shared) (σ : St) (H : Hp) (Q : List V → Hp → Prop), Inv X pins σ H s → t σ H Q → wpAny (model X.prog X.w) X.A (spliced (backTo pos (starEach es X.env))) (AP X pins σ Q) X.xe s
def PS (X : Cx) (st : Stmt) (t : TS) : Prop :=
 ∀ (pins : List (Addr × Obj)) (s : Shared) (σ : St) (H : Hp) (D : Ends), Inv X pins σ H s → t D σ H → wpAny (model X.prog X.w) X.A (exec st X.env) (SP X pins D) X.xe s
def PSs (X : Cx) (st : List Stmt) (t : TS) : Prop :=
 ∀ (pins : List (Addr × Obj)) (s : Shared) (σ : St) (H : Hp) (D : Ends), Inv X pins σ H s → t D σ H → wpAny (model X.prog X.w) X.A (execs st X.env) (SP X pins D) X.xe s
theorem thn {α : Type} {t : Sem α} {Q Q' : α → Shared → Prop} {M : Model} {A : Around} {E : Value → Shared → Prop} {s : Shared} (h : wpAny M A t Q E s) (hQ : ∀ a s, Q a s → Q' a s) : wpAny M A t Q' E s := wpAny_mono h hQ fun _ _ x => x
end L2
namespace L2
open PySem PySem.Spec PyProof.Rows
section
variable {X : Cx}
theorem bin {a b : Expr} {ta tb : TE} (ha : PE X a ta) (hb : PE X b tb) {pins : List (Addr × Obj)} {s : Shared} {σ : St} {H : Hp} {R : V → V → Hp → Prop} (I : Inv X pins σ H s) (h : ta σ H fun x H1 => tb σ H1 fun y H2 => R x y H2)
  {α : Type} {Q : α → Shared → Prop} {f : Value → Value → Sem α}
  (hf : ∀ v u s2 x y H2, Inv X pins σ H2 s2 → RelV x v → RelV y u → R x y H2 → wpAny (model X.prog X.w) X.A (f v u) Q X.xe s2) :
  wpAny (model X.prog X.w) X.A (eval a X.env) (fun v s₁ => wpAny (model X.prog X.w) X.A (eval b X.env) (fun u s₂ => wpAny (model X.prog X.w) X.A (f v u) Q X.xe s₂) X.xe s₁) X.xe s := by
 refine thn (ha pins s σ H _ I h) fun v s1 ⟨x, H1, I1, r1, q1⟩ => ?_
 refine thn (hb pins s1 σ H1 _ I1 q1) fun u s2 ⟨y, H2, I2, r2, q2⟩ => ?_
 exact hf v u s2 x y H2 I2 r1 r2 q2
def tVar (i : Nat) : TE := fun σ H Q => ∃ v, σ[i]? = some (some v) ∧ Q v H
def tC (v : V) : TE := fun _ H Q => Q v H
theorem pe_var {i : Nat} {x : Str} {pos : Pos} (hN : X.N[i]? = some x) (hv : Vis X.env.scope x) (hd : (x == ("__debug__" : Str)) = false := by decide) (hcd : (x == ("__classdict__" : Str)) = false := by decide) : PE X (.Name x pos) (tVar i) := by
 intro pins s σ H Q I h
 obtain ⟨v, e, h⟩ := h
 obtain ⟨m, hn, hl⟩ := I.loc
 obtain ⟨u, r, l⟩ := hl i x v hN e hv
 have fin : EP X pins σ Q u s := ⟨v, H, I, r, h⟩
 rcases l with ⟨hk, hm⟩ | ⟨hk, c, hc, hcell⟩
 ·exact wpAny_Name (wpAny_loadName_local I.ok.kind hk hn hm fin) hd
 ·rcases hk with hk | hk
  ·exact wpAny_Name (wpAny_loadName_cell I.ok.kind hk hc hcell fin) hd
  ·exact wpAny_Name (wpAny_loadName_free I.ok.kind hk hc hcell fin hcd) hd
theorem pe_int {i j pos} : PE X (.Constant (.int i) j pos) (tC (.int i)) := fun _ _ _ H _ I h => wpAny_Constant_int ⟨.int i, H, I.tok _, ⟨_, rfl⟩, h⟩
theorem pe_bl {b j pos} : PE X (.Constant (.bool b) j pos) (tC (.bl b)) := fun _ _ _ H _ I h => Constant_bool ⟨.bl b, H, I, rfl, h⟩
theorem pe_non {j pos} : PE X (.Constant .none j pos) (tC .non) := fun _ _ _ H _ I h => Constant_none ⟨.non, H, I, rfl, h⟩
theorem pe_str {x j pos} : PE X (.Constant (.str x) j pos) (tC (.str x)) := fun _ _ _ H _ I h => Calls.Constant_str ⟨.str x, H, I.tok _, ⟨_, rfl⟩, h⟩
def Gl (X : Cx) (x : Str) : Prop := X.env.kindOf x = some .globalImplicit
theorem ld_glob {E : Value → Shared → Prop} {pins : List (Addr × Obj)} {s : Shared} {σ : St} {H : Hp} {x : Str} {u : Value} {pos : Pos} {Q : Value → Shared → Prop} (I : Inv X pins σ H s) (hg : Gl X x) (hm : X.mg x = some u) (h : Q u s)
  (hd : (x == ("__debug__" : Str)) = false := by decide) : wpAny (model X.prog X.w) X.A (eval (.Name x pos) X.env) Q E s :=
 Calls.Name_function_global I.ok.kind hg (Calls.loadGlobal_global (by rw [I.ok.glob]; exact I.mod.glob.keeps I.bk) hm h) hd
theorem ld_blt {E : Value → Shared → Prop} {pins : List (Addr × Obj)} {s : Shared} {σ : St} {H : Hp} {x : Str} {u : Value} {pos : Pos} {Q : Value → Shared → Prop} (I : Inv X pins σ H s) (hg : Gl X x) (hm : X.mg x = none) (hv : bootBuiltins x = some u) (h : Q u s)
  (hn : x ≠ "__name__" := by decide) (hd : (x == ("__debug__" : Str)) = false := by decide) : wpAny (model X.prog X.w) X.A (eval (.Name x pos) X.env) Q E s := by
 obtain ⟨mb, h1, h2⟩ := I.mod.blt
 exact Calls.Name_function_global I.ok.kind hg (Calls.loadGlobal_builtin (by rw [I.ok.glob]; exact I.mod.glob.keeps I.bk) hm (by rw [I.ok.blt]; exact h1.keeps I.bk) ((h2 x hn).trans hv) h) hd
theorem pe_glob {x : Str} {v : V} {u : Value} {pos : Pos} (hg : Gl X x) (hm : X.mg x = some u) (r : RelV v u) (hd : (x == ("__debug__" : Str)) = false := by decide) : PE X (.Name x pos) (tC v) :=
 fun _ _ _ H _ I h => ld_glob I hg hm ⟨v, H, I, r, h⟩ hd
def t2I (ta tb : TE) (k : Int → Int → Hp → Prop) : St → Hp → Prop := fun σ H => ta σ H fun x H1 => tb σ H1 fun y H2 => ∃ i j, x = .int i ∧ y = .int j ∧ k i j H2
variable {a b : Expr} {ta tb : TE} {pos : Pos}
def PC (X : Cx) (op : CmpOp) (a b : Expr) (t : TE) : Prop :=
 ∀ (pins : List (Addr × Obj)) (s : Shared) (σ : St) (H : Hp) (Q : VK), Inv X pins σ H s → t σ H Q →
  wpAny (model X.prog X.w) X.A (eval a X.env) (fun v s₁ => wpAny (model X.prog X.w) X.A (eval b X.env) (fun u s₂ => wpAny (model X.prog X.w) X.A (compareOp op v u) (EP X pins σ Q) X.xe s₂) X.xe s₁) X.xe s
theorem nobehind (b : Expr) {op : CmpOp} (h : op ≠ .In) (h2 : op ≠ .NotIn) : behindInMarks op b = false := by
 have e1 : (op == CmpOp.In) = false := by cases op <;> first | rfl | exact absurd rfl h
 have e2 : (op == CmpOp.NotIn) = false := by cases op <;> first | rfl | exact absurd rfl h2
 cases b <;> simp [behindInMarks, e1, e2]
def tCmp (p : Int → Int → Bool) (ta tb : TE) : TE := fun σ H Q => t2I ta tb (fun i j H2 => Q (.bl (p i j)) H2) σ H
abbrev tLt : TE → TE → TE := tCmp fun i j => decide (i < j)
abbrev tLe : TE → TE → TE := tCmp fun i j => decide (i ≤ j)
abbrev tGt : TE → TE → TE := tCmp fun i j => decide (j < i)
abbrev tGe : TE → TE → TE := tCmp fun i j => decide (j ≤ i)
abbrev tEqI : TE → TE → TE := tCmp fun i j => decide (i = j)
abbrev tNeI : TE → TE → TE := tCmp fun i j => !decide (i = j)
theorem pc_int {op : CmpOp} {p : Int → Int → Bool} (ha : PE X a ta) (hb : PE X b tb)
  (rule : ∀ (i j : Int) (t u : Tok) (Q : Value → Shared → Prop) (s : Shared), Q (.bool (p i j)) s → wpAny (model X.prog X.w) X.A (compareOp op (.int i t) (.int j u)) Q X.xe s) : PC X op a b (tCmp p ta tb) := by
 intro pins s σ H Q I h
 refine bin ha hb I h fun v u s2 x y H2 I2 rx ry q => ?_
 obtain ⟨i, j, rfl, rfl, q⟩ := q
 obtain ⟨t, rfl⟩ := rx
 obtain ⟨t', rfl⟩ := ry
 exact rule i j t t' _ s2 ⟨.bl _, H2, I2, rfl, q⟩
theorem pc_lt (ha : PE X a ta) (hb : PE X b tb) : PC X .Lt a b (tLt ta tb) := pc_int ha hb fun _ _ _ _ _ _ h => lt_int h
theorem pc_le (ha : PE X a ta) (hb : PE X b tb) : PC X .LtE a b (tLe ta tb) := pc_int ha hb fun _ _ _ _ _ _ h => le_int h
theorem pc_gt (ha : PE X a ta) (hb : PE X b tb) : PC X .Gt a b (tGt ta tb) := pc_int ha hb fun _ _ _ _ _ _ h => gt_int h
theorem pc_ge (ha : PE X a ta) (hb : PE X b tb) : PC X .GtE a b (tGe ta tb) := pc_int ha hb fun _ _ _ _ _ _ h => ge_int h
theorem pc_eqI (ha : PE X a ta) (hb : PE X b tb) : PC X .Eq a b (tEqI ta tb) := pc_int ha hb fun _ _ _ _ _ _ h => eq_int (by rw [Bool.beq_eq_decide_eq]; exact h)
theorem pc_neI (ha : PE X a ta) (hb : PE X b tb) : PC X .NotEq a b (tNeI ta tb) := pc_int ha hb fun _ _ _ _ _ _ h => ne_int (by rw [bne, Bool.beq_eq_decide_eq]; exact h)
def tIsN (ta : TE) : TE := fun σ H Q => ta σ H fun x H1 => Q (.bl (decide (x = .non))) H1
def tNotN (ta : TE) : TE := fun σ H Q => ta σ H fun x H1 => Q (.bl (!decide (x = .non))) H1
theorem RelV.none_iff {x : V} {v : Value} (r : RelV x v) : (v == Value.none) = decide (x = .non) := by
 cases x with
 | non => cases r; rfl
 | bl _ => cases r; rfl
 | int _ => obtain ⟨t, rfl⟩ := r; rfl
 | str _ => obtain ⟨t, rfl⟩ := r; rfl
 | byt _ => obtain ⟨t, rfl⟩ := r; rfl
 | flt _ => obtain ⟨t, rfl⟩ := r; rfl
 | ref _ => cases r; rfl
 | ty _ => cases r; rfl
theorem pc_isN {j pos'} (ha : PE X a ta) : PC X .Is a (.Constant .none j pos') (tIsN ta) := by
 intro pins s σ H Q I h
 refine thn (ha pins s σ H _ I h) fun v s1 ⟨x, H1, I1, r1, q1⟩ => ?_
 exact Constant_none (is_none_gen ⟨.bl _, H1, I1, by rw [r1.none_iff]; rfl, q1⟩)
theorem pc_notN {j pos'} (ha : PE X a ta) : PC X .IsNot a (.Constant .none j pos') (tNotN ta) := by
 intro pins s σ H Q I h
 refine thn (ha pins s σ H _ I h) fun v s1 ⟨x, H1, I1, r1, q1⟩ => ?_
 exact Constant_none (isnot_none_gen ⟨.bl _, H1, I1, by rw [r1.none_iff]; rfl, q1⟩)
def tB (t : TE) : TT := fun σ H Q => t σ H fun x H1 => ∃ c, x = .bl c ∧ Q c H1
theorem pt_cmp {op : CmpOp} {t : TE} (h : PC X op a b t) (h1 : behindInMarks op b = false := by first | exact nobehind _ (by decide) (by decide) | rfl) : PT X (.Compare a [op] [b] pos) (tB t) := by
 intro pins s σ H Q I hw
 refine wpAny_isTrue_Compare1 (thn (h pins s σ H _ I hw) fun v s1 h1 => thn h1 fun u s2 h2 => thn h2 fun c s3 ⟨x, H1, I1, r1, q1⟩ => ?_) h1
 obtain ⟨d, rfl, q⟩ := q1
 cases r1
 exact wpAny_truthy_bool ⟨H1, I1, q⟩
theorem pt_val {e : Expr} {t : TE} (h : PE X e t) (he : ∀ whole, isTrue e X.env whole = (do let v ← whole; standAt e.pos; holding [v] (truthy v)) := by intro _; rfl) : PT X e (tB t) := by
 intro pins s σ H Q I hw
 refine isTrue_plain (thn (h pins s σ H _ I hw) fun v s1 ⟨x, H1, I1, r1, q1⟩ => ?_) (he _)
 obtain ⟨d, rfl, q⟩ := q1
 cases r1
 exact wpAny_truthy_bool ⟨H1, I1, q⟩
variable {tA tB' : TT} {rest : List Expr}
def tAnd (t u : TT) : TT := fun σ H Q => t σ H fun c H1 => if c = true then u σ H1 Q else Q false H1
def tOr (t u : TT) : TT := fun σ H Q => t σ H fun c H1 => if c = true then Q true H1 else u σ H1 Q
def tNot (t : TT) : TT := fun σ H Q => t σ H fun c H1 => Q (!c) H1
theorem pw_and1 (ha : PT X a tA) : PW X (.BoolOp .And [a] pos) tA := by
 intro wh pins s σ H Q I h
 refine isTrue_and (thn (ha pins s σ H Q I h) fun c s1 e => ?_)
 cases c with
 | true => exact isTrue_and_nil e
 | false => exact e
theorem pw_or1 (ha : PT X a tA) : PW X (.BoolOp .Or [a] pos) tA := by
 intro wh pins s σ H Q I h
 refine isTrue_or (thn (ha pins s σ H Q I h) fun c s1 e => ?_)
 cases c with
 | false => exact isTrue_or_nil e
 | true => exact e
theorem pw_and (ha : PT X a tA) (hb : PW X (.BoolOp .And (b :: rest) pos) tB') : PW X (.BoolOp .And (a :: b :: rest) pos) (tAnd tA tB') := by
 intro wh pins s σ H Q I h
 refine isTrue_and (thn (ha pins s σ H _ I h) fun c s1 ⟨H1, I1, q1⟩ => ?_)
 cases c with
 | true => exact hb wh pins s1 σ H1 Q I1 q1
 | false => exact ⟨H1, I1, q1⟩
theorem pw_or (ha : PT X a tA) (hb : PW X (.BoolOp .Or (b :: rest) pos) tB') : PW X (.BoolOp .Or (a :: b :: rest) pos) (tOr tA tB') := by
 intro wh pins s σ H Q I h
 refine isTrue_or (thn (ha pins s σ H _ I h) fun c s1 ⟨H1, I1, q1⟩ => ?_)
 cases c with
 | true => exact ⟨H1, I1, q1⟩
 | false => exact hb wh pins s1 σ H1 Q I1 q1
theorem pt_not (ha : PT X a tA) : PT X (.UnaryOp .Not a pos) (tNot tA) := by
 intro pins s σ H Q I h
 exact isTrue_not (ha pins s σ H (fun c H1 => Q (!c) H1) I h)
def tIf (t : TT) (ta tb : TE) : TE := fun σ H Q => t σ H fun c H1 => if c = true then ta σ H1 Q else tb σ H1 Q
theorem pe_ifExp {c : Expr} (hc : PT X c tA) (ha : PE X a ta) (hb : PE X b tb) : PE X (.IfExp c a b pos) (tIf tA ta tb) := by
 intro pins s σ H Q I h
 refine wpAny_IfExp (thn (hc pins s σ H _ I h) fun d s1 ⟨H1, I1, q1⟩ => ?_)
 cases d with
 | true => exact ha pins s1 σ H1 Q I1 q1
 | false => exact hb pins s1 σ H1 Q I1 q1
end
end L2
namespace L2
open PySem PySem.Spec PyProof.Rows
def SqL (K : PySem.W.Frag) (H : Hp) (a : Addr) (xs : List V) : Prop :=
 Rd H a (.lst xs) ∨
  ∃ (o : Obj) (its : Array Value) (n : Nat), K.lookup a = some o ∧ o.cls = .type "list" ∧ o.dict = none ∧ o.data = .seq its n ∧ its.size ≤ sizeLine ∧ Vals xs its.toList
def SqT (K : PySem.W.Frag) (H : Hp) (a : Addr) (xs : List V) : Prop :=
 Rd H a (.tup xs) ∨
  ∃ (o : Obj) (its : Array Value) (n : Nat), K.lookup a = some o ∧ o.cls = .type "tuple" ∧ o.data = .seq its n ∧ its.size ≤ sizeLine ∧ Vals xs its.toList
def absV : Value → Option V
 | .none => some .non
 | .bool b => some (.bl b)
 | .int i _ => some (.int i)
 | .str x _ => some (.str x)
 | .bytes b _ => some (.byt b)
 | .float b _ => some (.flt b)
 | .ref a => some (.ref a)
 | .type n => some (.ty n)
 | _ => none
theorem RelV.abs {x : V} {u : Value} (r : RelV x u) : absV u = some x := by
 cases x with
 | non => cases r; rfl
 | bl _ => cases r; rfl
 | int _ => obtain ⟨t, rfl⟩ := r; rfl
 | str _ => obtain ⟨t, rfl⟩ := r; rfl
 | byt _ => obtain ⟨t, rfl⟩ := r; rfl
 | flt _ => obtain ⟨t, rfl⟩ := r; rfl
 | ref _ => cases r; rfl
 | ty _ => cases r; rfl
theorem RelV.inj {x y : V} {u : Value} (r : RelV x u) (q : RelV y u) : x = y := Option.some.inj (r.abs.symm.trans q.abs)
theorem Vals.inj : ∀ {xs ys : List V} {us : List Value}, Vals xs us → Vals ys us → xs = ys
 | _, _, _, .nil, .nil => rfl
 | _, _, _, .cons r t, .cons r' t' => by rw [r.inj r', Vals.inj t t']
section
variable {X : Cx} {pins : List (Addr × Obj)} {σ : St} {H : Hp} {s : Shared} {a : Addr} {xs ys : List V}
theorem SqL.of {K : PySem.W.Frag} (h : H a = some (.lst xs)) : SqL K H a xs := .inl (.inl h)
theorem SqT.of {K : PySem.W.Frag} (h : H a = some (.tup xs)) : SqT K H a xs := .inl (.inl h)
theorem Inv.list (I : Inv X pins σ H s) (h : SqL X.K H a xs) : ∃ its : List Value, Vals xs its ∧ PlainL s.heap a its.toArray ∧ xs.length ≤ sizeLine := by
 rcases h with h | ⟨o, its, n, hk, hc, hd, hs, hz, r⟩
 ·obtain ⟨z, its, n, r, e⟩ := h.ok I.hok
  exact ⟨its, r, ⟨_, n, e, rfl, rfl, rfl⟩, z⟩
 ·refine ⟨its.toList, r, ⟨o, n, I.kIn a o hk, hc, hd, by simpa using hs⟩, ?_⟩
  have e := r.length
  simp only [Array.length_toList] at e
  omega
theorem Inv.tuple (I : Inv X pins σ H s) (h : SqT X.K H a xs) : ∃ its : List Value, Vals xs its ∧ IsTup s.heap a its.toArray ∧ xs.length ≤ sizeLine := by
 rcases h with h | ⟨o, its, n, hk, hc, hs, hz, r⟩
 ·obtain ⟨z, its, r, p⟩ := h.ok I.hok
  exact ⟨its, r, p, z⟩
 ·refine ⟨its.toList, r, ⟨o, I.kIn a o hk, hc, n, by simpa using hs⟩, ?_⟩
  have e := r.length
  simp only [Array.length_toList] at e
  omega
theorem Inv.list_inj (I : Inv X pins σ H s) (h : SqL X.K H a xs) (h' : SqL X.K H a ys) : xs = ys := by
 obtain ⟨its, r, ⟨o, n, e, _, _, d⟩, _⟩ := I.list h
 obtain ⟨its', r', ⟨o', n', e', _, _, d'⟩, _⟩ := I.list h'
 rw [e] at e'; cases e'
 rw [d] at d'
 injection d' with d1 _
 have : its = its' := by simpa using congrArg Array.toList d1
 subst this
 exact r.inj r'
theorem Inv.tuple_inj (I : Inv X pins σ H s) (h : SqT X.K H a xs) (h' : SqT X.K H a ys) : xs = ys := by
 obtain ⟨its, r, ⟨o, e, _, n, d⟩, _⟩ := I.tuple h
 obtain ⟨its', r', ⟨o', e', _, n', d'⟩, _⟩ := I.tuple h'
 rw [e] at e'; cases e'
 rw [d] at d'
 injection d' with d1 _
 have : its = its' := by simpa using congrArg Array.toList d1
 subst this
 exact r.inj r'
end
abbrev Cx.wish (X : Cx) (E : Value → Shared → Prop) : Cx := { X with xe := E }
abbrev Cx.nox (X : Cx) : Cx := X.wish fun _ _ => False
theorem Cx.Ok.wish {X : Cx} (ok : X.Ok) (E : Value → Shared → Prop) : (X.wish E).Ok :=
 ⟨ok.mod, ok.kind, ok.glob, ok.blt, ok.above, ok.inj, ok.has, ok.cab, ok.hd, ok.frames, ok.stk, ok.exf, ok.bs, ok.bsz, ok.noex, ok.exfs, ok.funs, ok.frf⟩
theorem Cx.Ok.unwish {X : Cx} {E : Value → Shared → Prop} (ok : (X.wish E).Ok) : X.Ok :=
 ⟨ok.mod, ok.kind, ok.glob, ok.blt, ok.above, ok.inj, ok.has, ok.cab, ok.hd, ok.frames, ok.stk, ok.exf, ok.bs, ok.bsz, ok.noex, ok.exfs, ok.funs, ok.frf⟩
section
variable {X : Cx} {pins : List (Addr × Obj)} {σ : St} {H : Hp} {s : Shared} {E : Value → Shared → Prop}
theorem Inv.wish (I : Inv X pins σ H s) (E : Value → Shared → Prop) : Inv (X.wish E) pins σ H s := ⟨I.ok.wish E, I.os, I.bare, I.base, I.loc, I.cell, I.free, I.freeC, I.pin, I.hok, I.len⟩
theorem Inv.unwish (I : Inv (X.wish E) pins σ H s) : Inv X pins σ H s := ⟨I.ok.unwish, I.os, I.bare, I.base, I.loc, I.cell, I.free, I.freeC, I.pin, I.hok, I.len⟩
theorem SP.unwish {D : Ends} {f : Flow} {s' : Shared} (h : SP (X.wish E) pins D f s') : SP X pins D f s' := by
 cases f with
 | next => obtain ⟨σ', H', I, q⟩ := h; exact ⟨σ', H', I.unwish, q⟩
 | brk => obtain ⟨σ', H', I, q⟩ := h; exact ⟨σ', H', I.unwish, q⟩
 | cont => obtain ⟨σ', H', I, q⟩ := h; exact ⟨σ', H', I.unwish, q⟩
 | ret u => obtain ⟨v, σ', H', I, r, q⟩ := h; exact ⟨v, σ', H', I.unwish, r, q⟩
theorem PSs.nox {st : List Stmt} {t : TS} (h : PSs X.nox st t) : PSs X st t := fun pins s σ H D I hw =>
 wpAny_mono (h pins s σ H D (I.wish _) hw) (fun _ _ q => q.unwish) fun _ _ z => False.elim z
end
section
variable {X : Cx} {st : Stmt} {rest : List Stmt} {t u : TS} {e : Expr} {te : TE} {pos : Pos}
def tNext : TS := fun D σ H => D.nx σ H
def tSeq (t u : TS) : TS := fun D σ H => t { D with nx := u D } σ H
theorem pss_nil : PSs X [] tNext := fun _ _ σ H _ I h => wpAny_execs_nil ⟨σ, H, I, h⟩
theorem pss_cons (h1 : PS X st t) (h2 : PSs X rest u) : PSs X (st :: rest) (tSeq t u) := by
 intro pins s σ H D I h
 refine wpAny_execs_cons (thn (h1 pins s σ H { D with nx := u D } I h) fun f s1 q => ?_)
 cases f with
 | next =>
  obtain ⟨σ', H', I', q⟩ := q
  exact h2 pins s1 σ' H' D I' q
 | ret v => exact q
 | brk => exact q
 | cont => exact q
theorem pss_one (h1 : PS X st t) : PSs X [st] t := by
 intro pins s σ H D I h
 refine wpAny_execs_cons (thn (h1 pins s σ H D I h) fun f s1 q => ?_)
 cases f with
 | next => exact wpAny_execs_nil q
 | ret v => exact q
 | brk => exact q
 | cont => exact q
theorem Inv.quiet {pins : List (Addr × Obj)} {σ : St} {H : Hp} {s : Shared} (I : Inv X pins σ H s) : interactive X.env = false := by simp [interactive, I.ok.kind]
def tDrop (te : TE) : TS := fun D σ H => te σ H fun _ H1 => D.nx σ H1
theorem ps_expr (he : PE X e te) (hs : swapsWith e none pos.line X.env = pure false := by rfl) : PS X (.Expr e pos) (tDrop te) := by
 intro pins s σ H D I h
 exact wpAny_Expr_any (thn (he pins s σ H _ I h) fun v s1 ⟨x, H1, I1, r1, q1⟩ => ⟨σ, H1, I1, q1⟩) I.quiet hs
def tRet (te : TE) : TS := fun D σ H => te σ H D.rt
theorem ps_ret (he : PE X e te) : PS X (.Return (some e) pos) (tRet te) := by
 intro pins s σ H D I h
 exact wpAny_Return_some (thn (he pins s σ H _ I h) fun v s1 ⟨x, H1, I1, r1, q1⟩ => ⟨x, σ, H1, I1, r1, q1⟩)
def tIfS (c : TT) (t u : TS) : TS := fun D σ H => c σ H fun b H1 => if b = true then t D σ H1 else u D σ H1
theorem ps_if {c : Expr} {a b : List Stmt} {tc : TT} (hc : PT X c tc) (ha : PSs X a t) (hb : PSs X b u) : PS X (.If c a b pos) (tIfS tc t u) := by
 intro pins s σ H D I h
 refine wpAny_If (thn (hc pins s σ H _ I h) fun d s1 ⟨H1, I1, q1⟩ => ?_)
 cases d with
 | true => exact ha pins s1 σ H1 D I1 q1
 | false => exact hb pins s1 σ H1 D I1 q1
end
abbrev TG := V → St → Hp → (St → Hp → Prop) → Prop
abbrev TGs := List V → St → Hp → (St → Hp → Prop) → Prop
def PG (X : Cx) (target : Expr) (t : TG) : Prop :=
 ∀ (pins : List (Addr × Obj)) (s : Shared) (σ : St) (H : Hp) (v : V) (u : Value) (Q : St → Hp → Prop), Inv X pins σ H s → RelV v u → t v σ H Q →
  wpAny (model X.prog X.w) X.A (assign target X.env u) (fun _ s' => ∃ σ' H', Inv X pins σ' H' s' ∧ Q σ' H') X.xe s
def PGs (X : Cx) (ts : List Expr) (t : TGs) : Prop :=
 ∀ (pins : List (Addr × Obj)) (s : Shared) (σ : St) (H : Hp) (vs : List V) (us : List Value) (Q : St → Hp → Prop), Inv X pins σ H s → Vals vs us → t vs σ H Q →
  wpAny (model X.prog X.w) X.A (assignInOrder ((assignEach ts X.env).map (·.2)) us) (fun _ s' => ∃ σ' H', Inv X pins σ' H' s' ∧ Q σ' H') X.xe s
abbrev TSet := V → V → V → Hp → (Hp → Prop) → Prop
def PSet (X : Cx) (t : TSet) : Prop :=
 ∀ (pins : List (Addr × Obj)) (s : Shared) (σ : St) (H : Hp) (o i v : V) (ov iv u : Value) (Q : Hp → Prop), Inv X pins σ H s → RelV o ov → RelV i iv → RelV v u → t o i v H Q →
  wpAny (model X.prog X.w) X.A (setItem ov iv u) (fun _ s' => ∃ H', Inv X pins σ H' s' ∧ Q H') X.xe s
abbrev TIp := V → V → Hp → VK → Prop
def PIp (X : Cx) (op : Operator) (t : TIp) : Prop :=
 ∀ (pins : List (Addr × Obj)) (s : Shared) (σ : St) (H : Hp) (x y : V) (v u : Value) (Q : VK), Inv X pins σ H s → RelV x v → RelV y u → t x y H Q →
  wpAny (model X.prog X.w) X.A (inplaceOp op v u) (EP X pins σ Q) X.xe s
section
variable {X : Cx} {pos : Pos}
def gName (i : Nat) : TG := fun v σ H Q => Q (σ.set i (some v)) H
theorem pg_name {i : Nat} {x : Str} (hN : X.N.Nodup) (hi : X.N[i]? = some x) (hx : Loc X.env.scope x) (hf : X.fn x = true ∨ X.env.scope.names.lookup x = some .local := by first | exact .inl rfl | exact .inr rfl | assumption) : PG X (.Name x pos) (gName i) := by
 intro pins s σ H v u Q I r h
 exact wpAny_assign_Name (store_ok I hN hi hx r (fun s' I' => ⟨_, H, I', h⟩) hf)
def gNil : TGs := fun vs σ H Q => vs = [] ∧ Q σ H
def gCons (t : TG) (u : TGs) : TGs := fun vs σ H Q => ∃ v r, vs = v :: r ∧ t v σ H fun σ' H' => u r σ' H' Q
theorem pgs_nil : PGs X [] gNil := by
 intro pins s σ H vs us Q I r h
 obtain ⟨e, h⟩ := h
 subst e
 cases r
 exact assignInOrder_nil ⟨σ, H, I, h⟩
theorem pgs_cons {e : Expr} {es : List Expr} {t : TG} {u : TGs} (h1 : PG X e t) (h2 : PGs X es u)
  (hs : (assignEach (e :: es) X.env).map (·.2) = assign e X.env :: (assignEach es X.env).map (·.2) := by rfl) : PGs X (e :: es) (gCons t u) := by
 intro pins s σ H vs us Q I r h
 obtain ⟨v, vr, e1, h⟩ := h
 subst e1
 cases r with
 | cons r rr =>
  rw [hs]
  refine assignInOrder_cons (thn (h1 pins s σ H _ _ _ I r h) fun _ s1 ⟨σ1, H1, I1, q1⟩ => ?_)
  exact h2 pins s1 σ1 H1 _ _ Q I1 rr q1
def gTup (K : PySem.W.Frag) (n : Nat) (t : TGs) : TG := fun v σ H Q => ∃ a xs, v = .ref a ∧ SqT K H a xs ∧ xs.length = n ∧ t xs σ H Q
theorem pg_tup {es : List Expr} {k : Nat} {t : TGs} {n : Nat} (hc : X.calm = true) (h : PGs X es t)
  (hn : (assignEach es X.env).length = n := by rfl) (hst : (assignEach es X.env).findIdx? (·.1) = none := by rfl) : PG X (.Tuple es k pos) (gTup X.K n t) := by
 intro pins s σ H v u Q I r hw
 obtain ⟨a, xs, e1, hq, hl, hw⟩ := hw
 subst e1
 cases r
 obtain ⟨its, rv, ht, hz⟩ := I.tuple hq
 refine assign_Tuple_tuple (I.ok.hd hc) ht (by simp [hn, ← hl, rv.length]) hst fun h' hx => ?_
 have I1 : Inv X pins σ H { s with heap := h' } := I.kept (t' := s.toks) fun b o e => hx b o (Nat.ne_of_lt (Heap.lt_size e)) e
 exact h pins _ σ H xs _ Q I1 (by simpa using rv) hw
def gSub (to ti : TE) (t : TSet) : TG := fun v σ H Q => to σ H fun o H1 => ti σ H1 fun i H2 => t o i v H2 fun H3 => Q σ H3
theorem pg_sub {o i : Expr} {to ti : TE} {t : TSet} (ho : PE X o to) (hi : PE X i ti) (hs : PSet X t)
  (ha : ∀ v, assign (.Subscript o i pos) X.env v = (do
   let ov ← holding [v] (eval o X.env)
   let iv ← holding [v, ov] (eval i X.env)
   standAt pos
   holding [v, ov, iv] (setItem ov iv v)
   release [v, ov, iv] []) := by intro _; rfl) : PG X (.Subscript o i pos) (gSub to ti t) := by
 intro pins s σ H v u Q I r h
 rw [ha]
 refine wpAny_bind (wpAny_holding (thn (ho pins s σ H _ I h) fun ov s1 ⟨x, H1, I1, r1, q1⟩ => ?_))
 refine wpAny_bind (wpAny_holding (thn (hi pins s1 σ H1 _ I1 q1) fun iv s2 ⟨y, H2, I2, r2, q2⟩ => ?_))
 refine wpAny_bind (wpAny_standAt (wpAny_bind (wpAny_holding (thn (hs pins s2 σ H2 x y v ov iv u _ I2 r1 r2 r q2) fun _ s3 ⟨H3, I3, q3⟩ => ?_))))
 exact wpAny_release ⟨σ, H3, I3, q3⟩
def tAsg (te : TE) (g : TG) : TS := fun D σ H => te σ H fun x H1 => g x σ H1 D.nx
theorem ps_asg {tg e : Expr} {te : TE} {g : TG} (he : PE X e te) (hg : PG X tg g) (hs : swapsWithSole [tg] e pos.line X.env = pure false := by rfl) (hw : swappedStores [tg] e X.env = pure none := by rfl)
  (h1 : (assignEach [tg] X.env).map (·.2) = [assign tg X.env] := by rfl) : PS X (.Assign [tg] e pos) (tAsg te g) := by
 intro pins s σ H D I h
 refine wpAny_Assign_stores (thn (he pins s σ H _ I h) fun v s1 ⟨x, H1, I1, r1, q1⟩ => ?_) hs hw
 rw [h1]
 exact thn (hg pins s1 σ H1 x v _ I1 r1 q1) fun _ s2 q => q
theorem ps_set {i : Nat} {x : Str} {e : Expr} {te : TE} {pos' : Pos} (hN : X.N.Nodup) (hi : X.N[i]? = some x) (hx : Loc X.env.scope x) (he : PE X e te) (hs : swapsWith e (some (.Name x pos')) pos.line X.env = pure false := by rfl) (hf : X.fn x = true ∨ X.env.scope.names.lookup x = some .local := by first | exact .inl rfl | exact .inr rfl | assumption) :
  PS X (.Assign [.Name x pos'] e pos) (tAsg te (gName i)) := by
 intro pins s σ H D I h
 refine wpAny_Assign_Name (thn (he pins s σ H _ I h) fun v s1 ⟨y, H1, I1, r1, q1⟩ => ?_) hs
 exact store_ok I1 hN hi hx r1 (fun s2 I2 => ⟨_, H1, I2, q1⟩) hf
def tAug (i : Nat) (te : TE) (ti : TIp) : TS := fun D σ H => ∃ x, σ[i]? = some (some x) ∧ te σ H fun y H1 => ti x y H1 fun z H2 => D.nx (σ.set i (some z)) H2
theorem ps_aug {i : Nat} {x : Str} {e : Expr} {te : TE} {op : Operator} {ti : TIp} {pos' : Pos} (hN : X.N.Nodup) (hi : X.N[i]? = some x) (hx : Loc X.env.scope x) (he : PE X e te) (ho : PIp X op ti) (hf : X.fn x = true ∨ X.env.scope.names.lookup x = some .local := by first | exact .inl rfl | exact .inr rfl | assumption) :
  PS X (.AugAssign (.Name x pos') op e pos) (tAug i te ti) := by
 intro pins s σ H D I h
 obtain ⟨v, e1, h⟩ := h
 obtain ⟨m, hn, hl⟩ := I.loc
 have vis : Vis X.env.scope x := by rcases hx with k | k; exact .inl k; exact .inr (.inl k)
 obtain ⟨u, r, l⟩ := hl i x v hi e1 vis
 refine wpAny_AugAssign_Name ?_
 have go : wpAny (model X.prog X.w) X.A (eval e X.env) (fun w s₂ => wpAny (model X.prog X.w) X.A (inplaceOp op u w) (fun r s₃ => wpAny (model X.prog X.w) X.A (storeName X.env x r) (fun _ => SP X pins D .next) X.xe s₃) X.xe s₂) X.xe s := by
  refine thn (he pins s σ H _ I h) fun w s1 ⟨y, H1, I1, r1, q1⟩ => ?_
  refine thn (ho pins s1 σ H1 v y u w _ I1 r r1 q1) fun z s2 ⟨zv, H2, I2, r2, q2⟩ => ?_
  exact store_ok I2 hN hi hx r2 (fun s3 I3 => ⟨_, H2, I3, q2⟩) hf
 rcases l with ⟨hk, hm⟩ | ⟨hk, c, hc, hcell⟩
 ·exact wpAny_loadName_local I.ok.kind hk hn hm go
 ·rcases hk with hk | hk
  ·exact wpAny_loadName_cell I.ok.kind hk hc hcell go
  ·rcases hx with k | k
   ·have : X.env.scope.names.lookup x = some .free := hk
    rw [k] at this; cases this
   ·have : X.env.scope.names.lookup x = some .free := hk
    rw [k] at this; cases this
def ipI (f : Int → Int → Int) : TIp := fun x y H Q => ∃ i j, x = .int i ∧ y = .int j ∧ Q (.int (f i j)) H
theorem ip_add : PIp X .Add (ipI fun i j => i + j) := by
 intro pins s σ H x y v u Q I r1 r2 h
 obtain ⟨i, j, e1, e2, q⟩ := h
 subst e1; subst e2
 obtain ⟨t, rfl⟩ := r1
 obtain ⟨t', rfl⟩ := r2
 exact iadd_int ⟨.int _, H, I.tok _, ⟨_, rfl⟩, q⟩
end
section
variable {X : Cx} {pos : Pos}
def tWhile (c : TT) (tb : TS) : TS := fun D σ H => ∃ W : Nat → St → Hp → Prop, (∃ m, W m σ H) ∧ ∀ m σ H, W m σ H →
 c σ H fun b H1 => if b = true then ∃ N : St → Hp → Prop, (∀ σ' H', N σ' H' → ∃ m', m' < m ∧ W m' σ' H') ∧ tb { D with nx := N, ct := N, bk := D.nx } σ H1 else D.nx σ H1
theorem ps_while {c : Expr} {body : List Stmt} {tc : TT} {tb : TS} (hp : PassesOwn (model X.prog X.w) X.A X.env X.xe) (hc : PT X c tc) (hb : PSs X body tb) : PS X (.While c body [] pos) (tWhile tc tb) := by
 intro pins s σ H D I h
 obtain ⟨W, ⟨m0, w0⟩, turn⟩ := h
 refine wpAny_While (codeAny_whileLoop (fun n s' => ∃ σ' H', Inv X pins σ' H' s' ∧ W n σ' H') ?_ m0 ⟨σ, H, I, w0⟩)
 rintro n s1 ⟨σ1, H1, I1, w1⟩
 refine wpAny_passesOwn hp (thn (hc pins s1 σ1 H1 _ I1 (turn n σ1 H1 w1)) fun b s2 ⟨H2, I2, q2⟩ => ?_)
 cases b with
 | true =>
  obtain ⟨N, hN, q2⟩ := q2
  rw [if_pos rfl]
  refine wpAny_passesOwn hp (thn (hb pins s2 σ1 H2 _ I2 q2) fun f s3 q3 => ?_)
  cases f with
  | next =>
   obtain ⟨σ3, H3, I3, n3⟩ := q3
   obtain ⟨m', hm, w3⟩ := hN σ3 H3 n3
   exact ⟨m', hm, σ3, H3, I3, w3⟩
  | cont =>
   obtain ⟨σ3, H3, I3, n3⟩ := q3
   obtain ⟨m', hm, w3⟩ := hN σ3 H3 n3
   exact ⟨m', hm, σ3, H3, I3, w3⟩
  | brk => exact q3
  | ret v => exact q3
 | false =>
  rw [if_neg Bool.false_ne_true]
  exact wpAny_execs_nil ⟨σ1, H2, I2, q2⟩
end
structure It where
 go : Nat → Hp → Prop
 yld : Nat → Hp → V → Hp → Prop
 stop : Nat → Hp → Prop
def FpOk (X : Cx) (pins : List (Addr × Obj)) (H : Hp) (b : Addr) : Prop :=
 H b = none ∧ b ≠ X.env.locals ∧ b ∉ X.fs ∧ (b ∈ X.ex ∨ X.s₀.heap.objs.size ≤ b) ∧ (∀ x c, X.env.cells.lookup x = some c → c ≠ b) ∧ ∀ p ∈ X.pn ++ pins, p.1 ≠ b
theorem Inv.fpOk {X : Cx} {pins : List (Addr × Obj)} {σ : St} {H H' : Hp} {s : Shared} {b : Addr} (I : Inv X pins σ H s) (hb : s.heap.objs.size ≤ b) (hn : H' b = none) : FpOk X pins H' b := by
 refine ⟨hn, Nat.ne_of_gt (Nat.lt_of_lt_of_le I.lt hb), I.nofs hb, .inr (Nat.le_trans I.sz hb), fun x c e z => ?_, fun p hp z => ?_⟩
 ·obtain ⟨v, q⟩ := I.cell x c e
  exact absurd (Nat.lt_of_lt_of_le q.lt (by rw [z]; exact hb)) (Nat.lt_irrefl _)
 ·exact absurd (Nat.lt_of_lt_of_le (Heap.lt_size (I.pin p hp).1) (by rw [z]; exact hb)) (Nat.lt_irrefl _)
structure Turn (P : Program) (w : World) (K : PySem.W.Frag) (tg : Expr) (J : It) (fp : List Addr) (it : Addr) (tn : Nat → Heap → Prop) : Prop where
 mem : it ∈ fp
 obj : ∀ i h, tn i h → ∀ b ∈ fp, ∃ o, h.get? b = some o ∧ ∀ v, o.data ≠ .cell v
 keep : ∀ i h h', tn i h → (∀ b ∈ fp, ∀ o, h.get? b = some o → h'.get? b = some o) → tn i h'
 item : ∀ (X : Cx), X.prog = P → X.w = w → X.K = K → X.calm = true → ∀ (i : Nat) (pins : List (Addr × Obj)) (s : Shared) (σ : St) (H : Hp) (E : Value → Shared → Prop), Inv X pins σ H s → (∀ b ∈ fp, FpOk X pins H b) → tn i s.heap → J.go i H →
  wpAny (model P w) X.A (pyNext (.ref it)) (fun r s1 => ∃ u, r = some u ∧
   wpAny (model P w) X.A (letOwnedTupleGo tg (.ref it) u) (fun _ s2 => ∃ x H', Inv X pins σ H' s2 ∧ RelV x u ∧ J.yld i H x H' ∧ tn (i + 1) s2.heap ∧ ∀ b ∈ fp, H' b = none) E s1) E s
 done : ∀ (X : Cx), X.prog = P → X.w = w → X.K = K → X.calm = true → ∀ (i : Nat) (pins : List (Addr × Obj)) (s : Shared) (σ : St) (H : Hp) (E : Value → Shared → Prop), Inv X pins σ H s → (∀ b ∈ fp, FpOk X pins H b) → tn i s.heap → J.stop i H →
  wpAny (model P w) X.A (pyNext (.ref it)) (fun r s1 => r = none ∧ Inv X pins σ H s1) E s
 self : ∀ (A : Around) (i : Nat) (s : Shared) (Q : Value → Shared → Prop) (E : Value → Shared → Prop), tn i s.heap → Q (.ref it) s → wpAny (model P w) A (pyIter (.ref it)) Q E s
abbrev TI := St → Hp → (It → Hp → Prop) → Prop
def PIE (X : Cx) (pins : List (Addr × Obj)) (σ : St) (tg : Expr) (R : It → Hp → Prop) (itv : Value) (s2 : Shared) : Prop :=
 ∃ (it : Addr) (fp : List Addr) (tn : Nat → Heap → Prop) (J : It) (H' : Hp), itv = .ref it ∧ Inv X pins σ H' s2 ∧ Turn X.prog X.w X.K tg J fp it tn ∧ tn 0 s2.heap ∧ (∀ b ∈ fp, FpOk X pins H' b) ∧ R J H'
def PI (X : Cx) (tg iter : Expr) (wi : TI) : Prop :=
 ∀ (pins : List (Addr × Obj)) (s : Shared) (σ : St) (H : Hp) (R : It → Hp → Prop), Inv X pins σ H s → wi σ H R →
  wpAny (model X.prog X.w) X.A (eval iter X.env) (fun v s1 => wpAny (model X.prog X.w) X.A (pyIter v) (PIE X pins σ tg R) X.xe s1) X.xe s
theorem go_of {M : Model} {A : Around} {E : Value → Shared → Prop} {s : Shared} {tg : Expr} {it : Addr} {u : Value} {o : Obj} {n : String} {vs : Array Value} {Q : Unit → Shared → Prop} (ho : s.heap.get? it = some o) (hc : o.cls = .type n) (hd : o.data = .fields vs)
    (hn : ["enumerate", "zip", "dict_itemiterator", "dict_reverseitemiterator", "odict_iterator", "itertools.zip_longest", "itertools.pairwise"].contains n = false) (hQ : Q () s) : wpAny M A (letOwnedTupleGo tg (.ref it) u) Q E s := by
  unfold letOwnedTupleGo
  cases tg <;> first
    | exact wpAny_pure hQ
    | (cases u <;> first
        | exact wpAny_pure hQ
        | (refine wpAny_bind (wpAny_load ho ?_)
           rw [hc, hd]
           show wpAny M A (if (["enumerate", "zip", "dict_itemiterator", "dict_reverseitemiterator", "odict_iterator", "itertools.zip_longest", "itertools.pairwise"].contains n && vs[0]? == some (rawInt _)) = true then _ else _) Q E s
           rw [if_neg (by intro h; rw [hn, Bool.false_and] at h; cases h)]
           exact wpAny_pure hQ))
def Itl (K : PySem.W.Frag) (a : Addr) : It :=
 ⟨fun i H => ∃ xs x, SqL K H a xs ∧ xs[i]? = some x, fun i H x H' => H' = H ∧ ∀ xs, SqL K H a xs → xs[i]? = some x, fun i H => ∃ xs, SqL K H a xs ∧ xs.length ≤ i⟩
def Itt (K : PySem.W.Frag) (a : Addr) : It :=
 ⟨fun i H => ∃ xs x, SqT K H a xs ∧ xs[i]? = some x, fun i H x H' => H' = H ∧ ∀ xs, SqT K H a xs → xs[i]? = some x, fun i H => ∃ xs, SqT K H a xs ∧ xs.length ≤ i⟩
def Itr (lo : Int) (n : Nat) : It := ⟨fun i _ => i < n, fun i H x H' => H' = H ∧ x = .int (lo + i), fun i _ => n ≤ i⟩
theorem turn_list {P : Program} {w : World} {K : PySem.W.Frag} {tg : Expr} (a it : Addr) : Turn P w K tg (Itl K a) [it] it (fun i h => h.IsListIter it a i) where
 mem := by simp
 obj := fun i h st b hb => by
  have e : b = it := by simpa using hb
  subst e
  obtain ⟨o, e, c, d⟩ := st
  exact ⟨o, e, fun v z => by rw [d] at z; cases z⟩
 keep := fun i h h' st k => st.at fun o e => k it (by simp) o e
 item := by
  intro X hP hw hK hc i pins s σ H E I hf st hg
  subst hP hw hK
  obtain ⟨xs, x, hq, hx⟩ := hg
  obtain ⟨its, rv, p, hz⟩ := I.list hq
  obtain ⟨u, hu, ru⟩ := rv.get hx
  obtain ⟨f0, f1, f2, f3, f4, f5⟩ := hf it (by simp)
  refine wpAny_pyNext_list_item st p.isList (x := u) (by simpa using hu) fun h' st' sb => ?_
  have I1 : Inv X pins σ H { s with heap := h' } := I.turned (t' := s.toks) (fun b o hb e => (sb.2 b hb).trans e) f0 f1 f3 f4 f5
  obtain ⟨o, e, c, d⟩ := id st'
  exact ⟨u, rfl, go_of (s := { s with heap := h' }) e c d (by decide) ⟨x, H, I1, ru, ⟨rfl, fun ys hy => by rw [I.list_inj hy hq]; exact hx⟩, st', fun b hb => (hf b hb).1⟩⟩
 done := by
  intro X hP hw hK hc i pins s σ H E I hf st hg
  subst hP hw hK
  obtain ⟨xs, hq, hx⟩ := hg
  obtain ⟨its, rv, p, hz⟩ := I.list hq
  obtain ⟨f0, f1, f2, f3, f4, f5⟩ := hf it (by simp)
  have hl := rv.length
  exact wpAny_pyNext_list_end (I.ok.hd hc) st p.isList (by simp; omega) fun h' eb => ⟨rfl, I.turned (t' := s.toks) (fun b o hb e => eb b o hb e) f0 f1 f3 f4 f5⟩
 self := fun _ _ _ _ _ st h => wpAny_pyIter_listiter st h
theorem turn_tuple {P : Program} {w : World} {K : PySem.W.Frag} {tg : Expr} (a it : Addr) : Turn P w K tg (Itt K a) [it] it (fun i h => h.IsTupleIter it a i) where
 mem := by simp
 obj := fun i h st b hb => by
  have e : b = it := by simpa using hb
  subst e
  obtain ⟨o, e, c, d⟩ := st
  exact ⟨o, e, fun v z => by rw [d] at z; cases z⟩
 keep := fun i h h' st k => st.at fun o e => k it (by simp) o e
 item := by
  intro X hP hw hK hc i pins s σ H E I hf st hg
  subst hP hw hK
  obtain ⟨xs, x, hq, hx⟩ := hg
  obtain ⟨its, rv, p, hz⟩ := I.tuple hq
  obtain ⟨u, hu, ru⟩ := rv.get hx
  obtain ⟨f0, f1, f2, f3, f4, f5⟩ := hf it (by simp)
  refine wpAny_pyNext_tuple_item st (show s.heap.IsTuple a its.toArray from p) (x := u) (by simpa using hu) fun h' st' sb => ?_
  have I1 : Inv X pins σ H { s with heap := h' } := I.turned (t' := s.toks) (fun b o hb e => (sb.2 b hb).trans e) f0 f1 f3 f4 f5
  obtain ⟨o, e, c, d⟩ := id st'
  exact ⟨u, rfl, go_of (s := { s with heap := h' }) e c d (by decide) ⟨x, H, I1, ru, ⟨rfl, fun ys hy => by rw [I.tuple_inj hy hq]; exact hx⟩, st', fun b hb => (hf b hb).1⟩⟩
 done := by
  intro X hP hw hK hc i pins s σ H E I hf st hg
  subst hP hw hK
  obtain ⟨xs, hq, hx⟩ := hg
  obtain ⟨its, rv, p, hz⟩ := I.tuple hq
  obtain ⟨f0, f1, f2, f3, f4, f5⟩ := hf it (by simp)
  have hl := rv.length
  exact wpAny_pyNext_tuple_end (I.ok.hd hc) st (show s.heap.IsTuple a its.toArray from p) (by simp; omega) fun h' eb => ⟨rfl, I.turned (t' := s.toks) (fun b o hb e => eb b o hb e) f0 f1 f3 f4 f5⟩
 self := fun _ _ _ _ _ st h => wpAny_pyIter_tupleiter st h
theorem turn_range {P : Program} {w : World} {K : PySem.W.Frag} {tg : Expr} (it : Addr) (lo : Int) (n : Nat) : Turn P w K tg (Itr lo n) [it] it (fun i h => IsRangeIter h it (lo + (i : Nat) * 1) ((n : Int) - (i : Nat)) 1) where
 mem := by simp
 obj := fun i h st b hb => by
  have e : b = it := by simpa using hb
  subst e
  exact ⟨_, st, fun v z => by
   have z' : Data.fields _ = Data.cell v := z
   cases z'⟩
 keep := fun i h h' st k => k it (by simp) _ st
 item := by
  intro X hP hw hK hc i pins s σ H E I hf st hg
  subst hP hw hK
  obtain ⟨f0, f1, f2, f3, f4, f5⟩ := hf it (by simp)
  have W := Walks.range (prog := X.prog) (w := X.w) (I.ok.hd hc) it lo 1 n
  refine W.item i s _ _ hg st fun v h' tk hv st' kk => ?_
  obtain ⟨t, rfl⟩ := hv
  have I1 : Inv X pins σ H { s with heap := h', toks := tk } := I.turned (fun b o hb e => kk b o (by simpa using hb) e) f0 f1 f3 f4 f5
  refine ⟨_, rfl, go_of (s := { s with heap := h', toks := tk }) (n := "range_iterator") st' rfl rfl (by decide) ⟨.int (lo + i), H, I1, ⟨t, ?_⟩, ⟨rfl, rfl⟩, st', fun b hb => (hf b hb).1⟩⟩
  rw [Int.mul_one]
 done := by
  intro X hP hw hK hc i pins s σ H E I hf st hg
  subst hP hw hK
  obtain ⟨f0, f1, f2, f3, f4, f5⟩ := hf it (by simp)
  exact wpAny_pyNext_range_end (I.ok.hd hc) st (by have : n ≤ i := hg; omega) fun h' eb => ⟨rfl, I.turned (t' := s.toks) (fun b o hb e => eb b o hb e) f0 f1 f3 f4 f5⟩
 self := fun _ _ _ _ _ st h => wpAny_pyIter_rangeiter st h
end L2
namespace L2
open PySem PySem.Spec PyProof.Rows
section
variable {X : Cx} {tg : Expr}
def iList (K : PySem.W.Frag) (tl : TE) : TI := fun σ H R => tl σ H fun x H1 => ∃ a, x = .ref a ∧ (∃ xs, SqL K H1 a xs) ∧ R (Itl K a) H1
def iTup (K : PySem.W.Frag) (tl : TE) : TI := fun σ H R => tl σ H fun x H1 => ∃ a, x = .ref a ∧ (∃ xs, SqT K H1 a xs) ∧ R (Itt K a) H1
theorem pi_list {l : Expr} {tl : TE} (hl : PE X l tl) : PI X tg l (iList X.K tl) := by
 intro pins s σ H R I h
 refine thn (hl pins s σ H _ I h) fun v s1 ⟨x, H1, I1, r1, q1⟩ => ?_
 obtain ⟨a, e, ⟨xs, hq⟩, q⟩ := q1
 subst e
 cases r1
 obtain ⟨its, rv, p, hz⟩ := I1.list hq
 refine wpAny_pyIter_list p.isList ?_
 refine ⟨s1.heap.objs.size, [s1.heap.objs.size], _, _, H1, rfl, I1.kept (t' := s1.toks) fun b o e => Heap.get?_push_of_some _ e, turn_list a _, ⟨_, Heap.get?_push_size _ rfl, rfl, rfl⟩, fun b hb => ?_, q⟩
 have e : b = s1.heap.objs.size := by simpa using hb
 subst e
 exact I1.fpOk (Nat.le_refl _) (I1.hok.fresh (Nat.le_refl _))
theorem pi_tup {l : Expr} {tl : TE} (hl : PE X l tl) : PI X tg l (iTup X.K tl) := by
 intro pins s σ H R I h
 refine thn (hl pins s σ H _ I h) fun v s1 ⟨x, H1, I1, r1, q1⟩ => ?_
 obtain ⟨a, e, ⟨xs, hq⟩, q⟩ := q1
 subst e
 cases r1
 obtain ⟨its, rv, p, hz⟩ := I1.tuple hq
 refine wpAny_pyIter_tuple (show s1.heap.IsTuple a its.toArray from p) ?_
 refine ⟨s1.heap.objs.size, [s1.heap.objs.size], _, _, H1, rfl, I1.kept (t' := s1.toks) fun b o e => Heap.get?_push_of_some _ e, turn_tuple a _, ⟨_, Heap.get?_push_size _ rfl, rfl, rfl⟩, fun b hb => ?_, q⟩
 have e : b = s1.heap.objs.size := by simpa using hb
 subst e
 exact I1.fpOk (Nat.le_refl _) (I1.hok.fresh (Nat.le_refl _))
theorem range_it {pins : List (Addr × Obj)} {σ : St} {H : Hp} {s : Shared} {R : It → Hp → Prop} {E : Value → Shared → Prop} {lo hi : Int} {t u v : Tok} {tk : Nat} (I : Inv X pins σ H s) (h1 : -(2 ^ 62) ≤ lo) (h2 : lo < 2 ^ 62) (h3 : -(2 ^ 62) ≤ hi) (h4 : hi < 2 ^ 62)
  (q : R (Itr lo (hi - lo).toNat) H) : wpAny (model X.prog X.w) X.A (pyIter (.ref s.heap.objs.size)) (PIE X pins σ tg R) E { s with heap := s.heap.push { cls := .type "range", data := .fields #[.int lo t, .int hi u, .int 1 v] }, toks := tk } := by
 refine wpAny_pyIter_range (IsRange.new ..) (small_one h1 h2 h3 h4) ?_
 have I1 : Inv X pins σ H { s with heap := s.heap.push { cls := .type "range", data := .fields #[.int lo t, .int hi u, .int 1 v] }, toks := tk } := I.kept fun b o e => Heap.get?_push_of_some _ e
 refine ⟨(s.heap.push { cls := .type "range", data := .fields #[.int lo t, .int hi u, .int 1 v] }).objs.size, [(s.heap.push { cls := .type "range", data := .fields #[.int lo t, .int hi u, .int 1 v] }).objs.size], _, _, H, rfl,
  I1.kept (t' := tk) fun b o e => Heap.get?_push_of_some _ e, turn_range _ lo (hi - lo).toNat, ?_, fun b hb => ?_, q⟩
 ·have e1 : lo + ((0 : Nat) : Int) * 1 = lo := by simp
  have e2 : (((hi - lo).toNat : Nat) : Int) - ((0 : Nat) : Int) = Builtin.Range.rangeSize lo hi 1 := by rw [rangeSize_one]; split <;> omega
  show IsRangeIter _ _ (lo + ((0 : Nat) : Int) * 1) ((((hi - lo).toNat : Nat) : Int) - ((0 : Nat) : Int)) 1
  rw [e1, e2]
  exact Heap.get?_push_size _ rfl
 ·have e : b = (s.heap.push { cls := .type "range", data := .fields #[.int lo t, .int hi u, .int 1 v] }).objs.size := by simpa using hb
  subst e
  exact I1.fpOk (Nat.le_refl _) (I1.hok.fresh (Nat.le_refl _))
def iRng1 (ta : TA) : TI := fun σ H R => ta σ H fun vs H1 => ∃ j : Int, vs = [.int j] ∧ -(2 ^ 62) ≤ j ∧ j < 2 ^ 62 ∧ R (Itr 0 j.toNat) H1
def iRng2 (ta : TA) : TI := fun σ H R => ta σ H fun vs H1 => ∃ i j : Int, vs = [.int i, .int j] ∧ (-(2 ^ 62) ≤ i ∧ i < 2 ^ 62 ∧ -(2 ^ 62) ≤ j ∧ j < 2 ^ 62) ∧ R (Itr i (j - i).toNat) H1
theorem pi_range1 {a : Expr} {ta : TA} {p pos : Pos} (hg : Gl X "range") (hm : X.mg "range" = none) (ha : PA X [a] ta) (hs : starEach [a] X.env = [(false, eval a X.env)] := by rfl) : PI X tg (.Call (.Name "range" p) [a] [] pos) (iRng1 ta) := by
 intro pins s σ H R I h
 refine Call_ (ld_blt I hg hm boot_range (PyProof.Rows.callWith_type1 (thn (ha pos pins s σ H _ I h) fun us s1 ⟨vs, H1, I1, r1, q1⟩ => ?_) hs rfl))
 obtain ⟨j, e, q1, q2, q⟩ := q1
 subst e
 cases r1 with
 | cons r rr =>
  cases rr
  obtain ⟨t, rfl⟩ := r
  exact call_range_1 (range_it I1 (by omega) (by omega) q1 q2 (by simpa using q))
theorem pi_range2 {a b : Expr} {ta : TA} {p pos : Pos} (hg : Gl X "range") (hm : X.mg "range" = none) (ha : PA X [a, b] ta) (hs : starEach [a, b] X.env = [(false, eval a X.env), (false, eval b X.env)] := by rfl) (hs2 : starEach [b] X.env = [(false, eval b X.env)] := by rfl) :
  PI X tg (.Call (.Name "range" p) [a, b] [] pos) (iRng2 ta) := by
 intro pins s σ H R I h
 refine Call_ (ld_blt I hg hm boot_range (PyProof.Rows.callWith_type1 (thn (ha pos pins s σ H _ I h) fun us s1 ⟨vs, H1, I1, r1, q1⟩ => ?_) (by rw [hs, hs2]) (by rw [hs2]; rfl)))
 obtain ⟨i, j, e, ⟨q1, q2, q3, q4⟩, q⟩ := q1
 subst e
 cases r1 with
 | cons r rr =>
  cases rr with
  | cons r' rr =>
   cases rr
   obtain ⟨t, rfl⟩ := r
   obtain ⟨t', rfl⟩ := r'
   exact call_range_2 (range_it I1 q1 q2 q3 q4 q)
def tFor (wi : TI) (g : TG) (tb : TS) : TS := fun D σ H => wi σ H fun J H1 => ∃ W : Nat → Nat → St → Hp → Prop, (∃ m, W 0 m σ H1) ∧ ∀ i m σ H, W i m σ H →
 (J.stop i H ∧ D.nx σ H) ∨ (J.go i H ∧ ∃ N : St → Hp → Prop, (∀ σ' H', N σ' H' → ∃ m', m' < m ∧ W (i + 1) m' σ' H') ∧ ∀ x H', J.yld i H x H' → g x σ H' fun σ2 H2 => tb { D with nx := N, ct := N, bk := D.nx } σ2 H2)
def pinsAt (fp : List Addr) (h : Heap) : List (Addr × Obj) := fp.filterMap fun b => (h.get? b).map fun o => (b, o)
theorem mem_pinsAt {fp : List Addr} {h : Heap} {b : Addr} {o : Obj} (hb : b ∈ fp) (e : h.get? b = some o) : (b, o) ∈ pinsAt fp h := List.mem_filterMap.mpr ⟨b, hb, by rw [e]; rfl⟩
theorem of_pinsAt {fp : List Addr} {h : Heap} {p : Addr × Obj} (hp : p ∈ pinsAt fp h) : p.1 ∈ fp ∧ h.get? p.1 = some p.2 := by
 obtain ⟨b, hb, e⟩ := List.mem_filterMap.mp hp
 cases q : h.get? b with
 | none => rw [q] at e; cases e
 | some o =>
  rw [q] at e
  have e' : (b, o) = p := Option.some.inj e
  subst e'
  exact ⟨hb, q⟩
theorem Inv.pinned {pins : List (Addr × Obj)} {σ : St} {H : Hp} {s : Shared} {fp : List Addr} (I : Inv X pins σ H s) (hf : ∀ b ∈ fp, FpOk X pins H b) (ho : ∀ b ∈ fp, ∃ o, s.heap.get? b = some o ∧ ∀ v, o.data ≠ .cell v) : Inv X (pins ++ pinsAt fp s.heap) σ H s :=
 I.pins_of fun p hp => (List.mem_append.mp hp).elim (fun z => I.pin p (List.mem_append_right _ z)) fun z => by
  obtain ⟨hb, e⟩ := of_pinsAt z
  obtain ⟨f0, f1, f2, _⟩ := hf p.1 hb
  obtain ⟨o, e', d⟩ := ho p.1 hb
  rw [e] at e'; cases e'
  exact ⟨e, f0, f1, f2, d⟩
theorem Inv.unpinned {pins pl : List (Addr × Obj)} {σ : St} {H : Hp} {s : Shared} (I : Inv X (pins ++ pl) σ H s) : Inv X pins σ H s := I.pins_of fun p hp => I.pin p (List.mem_append_right _ (List.mem_append_left _ hp))
theorem ps_for {iter : Expr} {body : List Stmt} {wi : TI} {g : TG} {tb : TS} {pos : Pos} (hp : PassesOwn (model X.prog X.w) X.A X.env X.xe) (hc : X.calm = true) (hi : PI X tg iter wi) (hg : PG X tg g) (hb : PSs X body tb)
  (hs : ∀ x, foldedSetIterable iter X.env x = pure x := by intro _; rfl) : PS X (.For tg iter body [] pos) (tFor wi g tb) := by
 intro pins s σ H D I h
 refine wpAny_For (thn (hi pins s σ H _ I h) fun v s1 h1 => thn h1 fun itv s2 h2 => ?_) hs
 obtain ⟨it, fp, tn, J, H2, e, I2, T, st2, f2, W, ⟨m0, w0⟩, turn⟩ := h2
 subst e
 have stat : ∀ {H' : Hp}, (∀ b ∈ fp, H' b = none) → ∀ b ∈ fp, FpOk X pins H' b := fun hn b hb => ⟨hn b hb, (f2 b hb).2⟩
 refine codeAny_forLoop_any (fun n s' => ∃ i σ' H', Inv X pins σ' H' s' ∧ tn i s'.heap ∧ (∀ b ∈ fp, H' b = none) ∧ W i n σ' H') ?_ m0 ⟨0, σ, H2, I2, st2, fun b hb => (f2 b hb).1, w0⟩
 rintro n s3 ⟨i, σ3, H3, I3, st3, fr3, w3⟩
 rcases turn i n σ3 H3 w3 with ⟨stop, qn⟩ | ⟨go, N, hN, step⟩
 ·refine wpAny_passesOwn hp (thn (T.done X rfl rfl rfl hc i pins s3 σ3 H3 X.xe I3 (stat fr3) st3 stop) fun r s4 ⟨hr, I4⟩ => ?_)
  subst hr
  exact wpAny_execs_nil ⟨σ3, H3, I4, qn⟩
 ·refine wpAny_passesOwn hp (thn (T.item X rfl rfl rfl hc i pins s3 σ3 H3 X.xe I3 (stat fr3) st3 go) fun r s4 ⟨u, hr, h4⟩ => ?_)
  subst hr
  refine wpAny_passesOwn hp (thn h4 fun _ s5 ⟨x, H5, I5, r5, y5, st5, fr5⟩ => ?_)
  have I5' := I5.pinned (stat fr5) (T.obj _ _ st5)
  refine wpAny_passesOwn hp (thn (hg _ s5 σ3 H5 x u _ I5' r5 (step x H5 y5)) fun _ s6 ⟨σ6, H6, I6, q6⟩ => ?_)
  refine wpAny_passesOwn hp (thn (hb _ s6 σ6 H6 _ I6 q6) fun f s7 q7 => ?_)
  have again : ∀ {σ7 : St} {H7 : Hp}, Inv X (pins ++ pinsAt fp s5.heap) σ7 H7 s7 → N σ7 H7 → ∃ m, m < n ∧ ∃ i σ' H', Inv X pins σ' H' s7 ∧ tn i s7.heap ∧ (∀ b ∈ fp, H' b = none) ∧ W i m σ' H' := fun {σ7 H7} I7 n7 => by
   obtain ⟨m', hm, w7⟩ := hN σ7 H7 n7
   refine ⟨m', hm, i + 1, σ7, H7, I7.unpinned, T.keep _ _ _ st5 fun b hb o e => (I7.pin (b, o) (List.mem_append_right _ (List.mem_append_right _ (mem_pinsAt hb e)))).1, fun b hb => ?_, w7⟩
   obtain ⟨o, e, d⟩ := T.obj _ _ st5 b hb
   exact (I7.pin (b, o) (List.mem_append_right _ (List.mem_append_right _ (mem_pinsAt hb e)))).2.1
  cases f with
  | next => obtain ⟨σ7, H7, I7, n7⟩ := q7; exact again I7 n7
  | cont => obtain ⟨σ7, H7, I7, n7⟩ := q7; exact again I7 n7
  | brk => obtain ⟨σ7, H7, I7, q7⟩ := q7; exact ⟨σ7, H7, I7.unpinned, q7⟩
  | ret v => obtain ⟨x7, σ7, H7, I7, r7, q7⟩ := q7; exact ⟨x7, σ7, H7, I7.unpinned, r7, q7⟩
end
theorem for_list {K : PySem.W.Frag} {a : Addr} {xs : List V} {g : TG} {tb : TS} {D : Ends} {σ : St} {H : Hp} (Pv : Nat → St → Hp → Prop) (h0 : Pv 0 σ H) (hl : ∀ i σ H, i ≤ xs.length → Pv i σ H → SqL K H a xs)
  (hs : ∀ i x σ H, xs[i]? = some x → Pv i σ H → g x σ H fun σ2 H2 => tb { D with nx := Pv (i + 1), ct := Pv (i + 1), bk := D.nx } σ2 H2) (hd : ∀ σ H, Pv xs.length σ H → D.nx σ H) :
  ∃ W : Nat → Nat → St → Hp → Prop, (∃ m, W 0 m σ H) ∧ ∀ i m σ H, W i m σ H →
   ((Itl K a).stop i H ∧ D.nx σ H) ∨ ((Itl K a).go i H ∧ ∃ N : St → Hp → Prop, (∀ σ' H', N σ' H' → ∃ m', m' < m ∧ W (i + 1) m' σ' H') ∧ ∀ x H', (Itl K a).yld i H x H' → g x σ H' fun σ2 H2 => tb { D with nx := N, ct := N, bk := D.nx } σ2 H2) := by
 refine ⟨fun i m σ H => m = xs.length - i ∧ i ≤ xs.length ∧ Pv i σ H, ⟨xs.length, by simp, Nat.zero_le _, h0⟩, ?_⟩
 rintro i m σ H ⟨rfl, hi, p⟩
 have q := hl i σ H hi p
 by_cases hlt : i < xs.length
 ·refine .inr ⟨⟨xs, xs[i], q, by simp [hlt]⟩, Pv (i + 1), fun σ' H' p' => ⟨xs.length - (i + 1), by omega, rfl, hlt, p'⟩, fun x H' y => ?_⟩
  obtain ⟨e, y⟩ := y
  subst e
  exact hs i x σ _ (y xs q) p
 ·have e : i = xs.length := by omega
  subst e
  exact .inl ⟨⟨xs, q, Nat.le_refl _⟩, hd σ H p⟩
theorem for_tup {K : PySem.W.Frag} {a : Addr} {xs : List V} {g : TG} {tb : TS} {D : Ends} {σ : St} {H : Hp} (Pv : Nat → St → Hp → Prop) (h0 : Pv 0 σ H) (hl : ∀ i σ H, i ≤ xs.length → Pv i σ H → SqT K H a xs)
  (hs : ∀ i x σ H, xs[i]? = some x → Pv i σ H → g x σ H fun σ2 H2 => tb { D with nx := Pv (i + 1), ct := Pv (i + 1), bk := D.nx } σ2 H2) (hd : ∀ σ H, Pv xs.length σ H → D.nx σ H) :
  ∃ W : Nat → Nat → St → Hp → Prop, (∃ m, W 0 m σ H) ∧ ∀ i m σ H, W i m σ H →
   ((Itt K a).stop i H ∧ D.nx σ H) ∨ ((Itt K a).go i H ∧ ∃ N : St → Hp → Prop, (∀ σ' H', N σ' H' → ∃ m', m' < m ∧ W (i + 1) m' σ' H') ∧ ∀ x H', (Itt K a).yld i H x H' → g x σ H' fun σ2 H2 => tb { D with nx := N, ct := N, bk := D.nx } σ2 H2) := by
 refine ⟨fun i m σ H => m = xs.length - i ∧ i ≤ xs.length ∧ Pv i σ H, ⟨xs.length, by simp, Nat.zero_le _, h0⟩, ?_⟩
 rintro i m σ H ⟨rfl, hi, p⟩
 have q := hl i σ H hi p
 by_cases hlt : i < xs.length
 ·refine .inr ⟨⟨xs, xs[i], q, by simp [hlt]⟩, Pv (i + 1), fun σ' H' p' => ⟨xs.length - (i + 1), by omega, rfl, hlt, p'⟩, fun x H' y => ?_⟩
  obtain ⟨e, y⟩ := y
  subst e
  exact hs i x σ _ (y xs q) p
 ·have e : i = xs.length := by omega
  subst e
  exact .inl ⟨⟨xs, q, Nat.le_refl _⟩, hd σ H p⟩
theorem for_range {lo : Int} {n : Nat} {g : TG} {tb : TS} {D : Ends} {σ : St} {H : Hp} (Pv : Nat → St → Hp → Prop) (h0 : Pv 0 σ H)
  (hs : ∀ i σ H, i < n → Pv i σ H → g (.int (lo + i)) σ H fun σ2 H2 => tb { D with nx := Pv (i + 1), ct := Pv (i + 1), bk := D.nx } σ2 H2) (hd : ∀ σ H, Pv n σ H → D.nx σ H) :
  ∃ W : Nat → Nat → St → Hp → Prop, (∃ m, W 0 m σ H) ∧ ∀ i m σ H, W i m σ H →
   ((Itr lo n).stop i H ∧ D.nx σ H) ∨ ((Itr lo n).go i H ∧ ∃ N : St → Hp → Prop, (∀ σ' H', N σ' H' → ∃ m', m' < m ∧ W (i + 1) m' σ' H') ∧ ∀ x H', (Itr lo n).yld i H x H' → g x σ H' fun σ2 H2 => tb { D with nx := N, ct := N, bk := D.nx } σ2 H2) := by
 refine ⟨fun i m σ H => m = n - i ∧ i ≤ n ∧ Pv i σ H, ⟨n, by simp, Nat.zero_le _, h0⟩, ?_⟩
 rintro i m σ H ⟨rfl, hi, p⟩
 by_cases hlt : i < n
 ·refine .inr ⟨hlt, Pv (i + 1), fun σ' H' p' => ⟨n - (i + 1), by omega, rfl, hlt, p'⟩, fun x H' y => ?_⟩
  obtain ⟨e, y⟩ := y
  subst e y
  exact hs i σ _ hlt p
 ·have e : i = n := by omega
  subst e
  exact .inl ⟨Nat.le_refl _, hd σ H p⟩
theorem while_by {c : TT} {tb : TS} {D : Ends} {σ : St} {H : Hp} (Pv : St → Hp → Prop) (μ : St → Hp → Nat) (h0 : Pv σ H)
  (hs : ∀ σ H, Pv σ H → c σ H fun b H1 => if b = true then tb { D with nx := fun σ' H' => Pv σ' H' ∧ μ σ' H' < μ σ H, ct := fun σ' H' => Pv σ' H' ∧ μ σ' H' < μ σ H, bk := D.nx } σ H1 else D.nx σ H1)
  (mono : ∀ σ H Q Q', (∀ b H1, Q b H1 → Q' b H1) → c σ H Q → c σ H Q') : tWhile c tb D σ H := by
 refine ⟨fun m σ H => m = μ σ H ∧ Pv σ H, ⟨_, rfl, h0⟩, ?_⟩
 rintro m σ H ⟨rfl, p⟩
 refine mono σ H _ _ (fun b H1 q => ?_) (hs σ H p)
 cases b with
 | true => exact ⟨_, fun σ' H' ⟨p', l⟩ => ⟨_, l, rfl, p'⟩, q⟩
 | false => exact q
end L2
namespace L2
open PySem PySem.Spec PyProof.Rows
abbrev R2 := V → V → Hp → VK → Prop
def OpR (X : Cx) (f : Value → Value → Sem Value) (r : R2) : Prop :=
 ∀ (pins : List (Addr × Obj)) (s : Shared) (σ : St) (H : Hp) (x y : V) (v u : Value) (Q : VK), Inv X pins σ H s → RelV x v → RelV y u → r x y H Q →
  wpAny (model X.prog X.w) X.A (f v u) (EP X pins σ Q) X.xe s
def UnR (X : Cx) (f : Value → Sem Value) (r : V → Hp → VK → Prop) : Prop :=
 ∀ (pins : List (Addr × Obj)) (s : Shared) (σ : St) (H : Hp) (x : V) (v : Value) (Q : VK), Inv X pins σ H s → RelV x v → r x H Q →
  wpAny (model X.prog X.w) X.A (f v) (EP X pins σ Q) X.xe s
def CallR (X : Cx) (f : Value) (r : List V → Hp → VK → Prop) : Prop :=
 ∀ (pins : List (Addr × Obj)) (s : Shared) (σ : St) (H : Hp) (xs : List V) (us : List Value) (Q : VK), Inv X pins σ H s → Vals xs us → r xs H Q →
  wpAny (model X.prog X.w) X.A (call f us) (EP X pins σ Q) X.xe s
def TruR (X : Cx) (r : V → Hp → (Bool → Hp → Prop) → Prop) : Prop :=
 ∀ (pins : List (Addr × Obj)) (s : Shared) (σ : St) (H : Hp) (x : V) (v : Value) (Q : Bool → Hp → Prop), Inv X pins σ H s → RelV x v → r x H Q →
  wpAny (model X.prog X.w) X.A (truthy v) (TP X pins σ Q) X.xe s
def tOp (r : R2) (ta tb : TE) : TE := fun σ H Q => ta σ H fun x H1 => tb σ H1 fun y H2 => r x y H2 Q
def tUn (r : V → Hp → VK → Prop) (ta : TE) : TE := fun σ H Q => ta σ H fun x H1 => r x H1 Q
def rI (C : Int → Int → Prop) (g : Int → Int → V) : R2 := fun x y H Q => ∃ i j, x = .int i ∧ y = .int j ∧ C i j ∧ Q (g i j) H
def rI0 (g : Int → Int → V) : R2 := fun x y H Q => ∃ i j, x = .int i ∧ y = .int j ∧ Q (g i j) H
def rU (g : Int → V) : V → Hp → VK → Prop := fun x H Q => ∃ i, x = .int i ∧ Q (g i) H
section
variable {X : Cx} {a b c : Expr} {ta tb tc : TE} {pos : Pos}
theorem binT (ha : PE X a ta) (hb : PE X b tb) {pins : List (Addr × Obj)} {s : Shared} {σ : St} {H : Hp} {R : V → V → Hp → Prop} (I : Inv X pins σ H s)
  (h : ta σ H fun x H1 => tb σ H1 fun y H2 => R x y H2) {Q : Value → Shared → Prop} {f : Value → Value → Sem Value}
  (hf : ∀ v u s2 x y H2, Inv X pins σ H2 s2 → RelV x v → RelV y u → R x y H2 → wpAny (model X.prog X.w) X.A (f v u) Q X.xe s2) :
  wpAny (model X.prog X.w) X.A (eval a X.env) (fun v s₁ => wpAny (model X.prog X.w) X.A (eval b X.env) (fun u s₂ => wpAny (model X.prog X.w) X.A (f v u) Q X.xe s₂) X.xe s₁) X.xe s := by
 refine thn (ha pins s σ H _ I h) fun v s1 ⟨x, H1, I1, r1, q1⟩ => ?_
 refine thn (hb pins s1 σ H1 _ I1 q1) fun u s2 ⟨y, H2, I2, r2, q2⟩ => ?_
 exact hf v u s2 x y H2 I2 r1 r2 q2
theorem pe_op {op : Operator} {r : R2} (ho : OpR X (binaryOp op) r) (ha : PE X a ta) (hb : PE X b tb) : PE X (.BinOp a op b pos) (tOp r ta tb) := by
 intro pins s σ H Q I h
 exact wpAny_BinOp (binT ha hb I h fun v u s2 x y H2 I2 rx ry q => ho pins s2 σ H2 x y v u Q I2 rx ry q)
theorem pe_un {op : UnaryOp} {r : V → Hp → VK → Prop} (ho : UnR X (unaryOp op) r) (ha : PE X a ta) : PE X (.UnaryOp op a pos) (tUn r ta) := by
 intro pins s σ H Q I h
 exact UnaryOp_ (thn (ha pins s σ H _ I h) fun v s1 ⟨x, H1, I1, r1, q1⟩ => ho pins s1 σ H1 x v Q I1 r1 q1)
theorem opI {f : Value → Value → Sem Value} {C : Int → Int → Prop} {g : Int → Int → Int}
  (rule : ∀ (i j : Int) (t u : Tok) (s : Shared) (Q : Value → Shared → Prop) (E : Value → Shared → Prop), C i j → Q (.int (g i j) s.toks) { s with toks := s.toks + 1 } → wpAny (model X.prog X.w) X.A (f (.int i t) (.int j u)) Q E s) :
  OpR X f (rI C fun i j => .int (g i j)) := by
 intro pins s σ H x y v u Q I rx ry h
 obtain ⟨i, j, rfl, rfl, hc, q⟩ := h
 obtain ⟨t, rfl⟩ := rx
 obtain ⟨t', rfl⟩ := ry
 exact rule i j t t' s _ _ hc ⟨.int (g i j), H, I.tok _, ⟨_, rfl⟩, q⟩
theorem opI0 {f : Value → Value → Sem Value} {g : Int → Int → Int}
  (rule : ∀ (i j : Int) (t u : Tok) (s : Shared) (Q : Value → Shared → Prop) (E : Value → Shared → Prop), Q (.int (g i j) s.toks) { s with toks := s.toks + 1 } → wpAny (model X.prog X.w) X.A (f (.int i t) (.int j u)) Q E s) :
  OpR X f (rI0 fun i j => .int (g i j)) := by
 intro pins s σ H x y v u Q I rx ry h
 obtain ⟨i, j, rfl, rfl, q⟩ := h
 obtain ⟨t, rfl⟩ := rx
 obtain ⟨t', rfl⟩ := ry
 exact rule i j t t' s _ _ ⟨.int (g i j), H, I.tok _, ⟨_, rfl⟩, q⟩
theorem opB0 {f : Value → Value → Sem Value} {g : Int → Int → Bool}
  (rule : ∀ (i j : Int) (t u : Tok) (s : Shared) (Q : Value → Shared → Prop) (E : Value → Shared → Prop), Q (.bool (g i j)) s → wpAny (model X.prog X.w) X.A (f (.int i t) (.int j u)) Q E s) :
  OpR X f (rI0 fun i j => .bl (g i j)) := by
 intro pins s σ H x y v u Q I rx ry h
 obtain ⟨i, j, rfl, rfl, q⟩ := h
 obtain ⟨t, rfl⟩ := rx
 obtain ⟨t', rfl⟩ := ry
 exact rule i j t t' s _ _ ⟨.bl (g i j), H, I, rfl, q⟩
def CDiv (i j : Int) : Prop := 0 < j ∧ j < 1073741824
def CPow (i j : Int) : Prop := 0 ≤ j ∧ j ≤ 1000000 ∧ i.natAbs < 2 ^ 64
def CMul (i j : Int) : Prop := (-(2 ^ 64) < i ∧ i < 2 ^ 64) ∨ (-(2 ^ 64) < j ∧ j < 2 ^ 64)
theorem CMul.ok {i j : Int} (h : CMul i j) : IntMulOk i j := by
 rcases h with ⟨h1, h2⟩ | ⟨h1, h2⟩
 ·exact .of_left (intBits_le_64 h1 h2)
 ·exact .of_right (intBits_le_64 h1 h2)
theorem op_add : OpR X (binaryOp .Add) (rI0 fun i j => .int (i + j)) := opI0 fun _ _ _ _ _ _ _ q => add_int q
theorem op_sub : OpR X (binaryOp .Sub) (rI0 fun i j => .int (i - j)) := opI0 fun _ _ _ _ _ _ _ q => sub_int q
theorem op_mul : OpR X (binaryOp .Mult) (rI CMul fun i j => .int (i * j)) := opI fun _ _ _ _ _ _ _ hc q => mul_int q hc.ok
theorem op_fdiv : OpR X (binaryOp .FloorDiv) (rI CDiv fun i j => .int (i / j)) := opI fun i j _ _ _ _ _ hc q => by
 have h1 : (0 : Int) < j := hc.1
 have h2 : j < 1073741824 := hc.2
 exact floordiv_int (by omega) (by rw [Int.fdiv_eq_ediv_of_nonneg i (by omega)]; exact q) (.inl (PyProof.noPylong_small (by omega)))
theorem op_mod : OpR X (binaryOp .Mod) (rI (fun _ j => 0 < j) fun i j => .int (i % j)) := opI fun i j _ _ _ _ _ hc q => by
 have h1 : (0 : Int) < j := hc
 exact mod_int' (by omega) (by rw [Int.fmod_eq_emod_of_nonneg i (by omega)]; exact q)
theorem op_pow : OpR X (binaryOp .Pow) (rI CPow fun i j => .int (i ^ j.toNat)) := opI fun _ _ _ _ _ _ _ hc q => pow_int_small hc.1 hc.2.1 hc.2.2 q
theorem op_xor : OpR X (binaryOp .BitXor) (rI0 fun i j => .int (Builtin.bitXor i j)) := opI0 fun _ _ _ _ _ _ _ q => xor_int q
theorem unI {f : Value → Sem Value} {g : Int → Int}
  (rule : ∀ (i : Int) (t : Tok) (s : Shared) (Q : Value → Shared → Prop) (E : Value → Shared → Prop), Q (.int (g i) s.toks) { s with toks := s.toks + 1 } → wpAny (model X.prog X.w) X.A (f (.int i t)) Q E s) :
  UnR X f (rU fun i => .int (g i)) := by
 intro pins s σ H x v Q I rx h
 obtain ⟨i, rfl, q⟩ := h
 obtain ⟨t, rfl⟩ := rx
 exact rule i t s _ _ ⟨.int (g i), H, I.tok _, ⟨_, rfl⟩, q⟩
theorem un_neg : UnR X (unaryOp .USub) (rU fun i => .int (-i)) := unI fun _ _ _ _ _ q => neg_int q
end
def scal : V → V → Bool
 | .non, .non => true | .non, .int _ => true | .int _, .non => true | .non, .bl _ => true | .bl _, .non => true | .non, .str _ => true | .str _, .non => true
 | .int _, .int _ => true | .bl _, .bl _ => true | .str _, .str _ => true | .byt _, .byt _ => true
 | .int _, .str _ => true | .str _, .int _ => true | .bl _, .str _ => true | .str _, .bl _ => true
 | _, _ => false
def rEq : R2 := fun x y H Q => scal x y = true ∧ Q (.bl (decide (x = y))) H
def rNe : R2 := fun x y H Q => scal x y = true ∧ Q (.bl (!decide (x = y))) H
theorem dec_int {i j : Int} : decide (V.int i = V.int j) = (i == j) := by
 rw [Bool.eq_iff_iff]
 simp
theorem dec_bl {i j : Bool} : decide (V.bl i = V.bl j) = (i == j) := by
 rw [Bool.eq_iff_iff]
 simp
theorem dec_str {i j : Str} : decide (V.str i = V.str j) = (i == j) := by
 rw [Bool.eq_iff_iff]
 simp
theorem dec_byt {i j : Array UInt8} : decide (V.byt i = V.byt j) = (i.toList == j.toList) := by
 rw [Bool.eq_iff_iff]
 cases i
 cases j
 simp
section
variable {X : Cx} {a b c : Expr} {ta tb tc : TE} {pos : Pos}
theorem fin_bl {pins : List (Addr × Obj)} {σ : St} {H : Hp} {s : Shared} {Q : VK} {k k' : Bool} (I : Inv X pins σ H s) (q : Q (.bl k) H) (e : k = k') : EP X pins σ Q (.bool k') s := by
 subst e
 exact ⟨.bl k, H, I, rfl, q⟩
theorem op_eq : OpR X (compareOp .Eq) rEq := by
 intro pins s σ H x y v u Q I rx ry h
 obtain ⟨hs, q⟩ := h
 cases x with
 | non =>
  cases rx
  cases y with
  | non => cases ry; exact PySem.EqNone.eq_none_none (fin_bl I q (by simp))
  | bl j => cases ry; exact PySem.EqNone.eq_none_bool (fin_bl I q (by simp))
  | int j => obtain ⟨t', rfl⟩ := ry; exact PySem.EqNone.eq_none_int (fin_bl I q (by simp))
  | str j => obtain ⟨t', rfl⟩ := ry; exact PySem.EqNone.eq_none_str (fin_bl I q (by simp))
  | _ => exact absurd (show false = true from hs) Bool.false_ne_true
 | bl i =>
  cases rx
  cases y with
  | non => cases ry; exact PySem.EqNone.eq_bool_none (fin_bl I q (by simp))
  | bl j => cases ry; exact eq_bool (fin_bl I q dec_bl)
  | str j => obtain ⟨t', rfl⟩ := ry; exact PySem.EqMixed.eq_bool_str (fin_bl I q (by simp))
  | _ => exact absurd (show false = true from hs) Bool.false_ne_true
 | int i =>
  obtain ⟨t, rfl⟩ := rx
  cases y with
  | non => cases ry; exact PySem.EqNone.eq_int_none (fin_bl I q (by simp))
  | int j => obtain ⟨t', rfl⟩ := ry; exact eq_int (fin_bl I q dec_int)
  | str j => obtain ⟨t', rfl⟩ := ry; exact PySem.EqMixed.eq_int_str (fin_bl I q (by simp))
  | _ => exact absurd (show false = true from hs) Bool.false_ne_true
 | str i =>
  obtain ⟨t, rfl⟩ := rx
  cases y with
  | non => cases ry; exact PySem.EqNone.eq_str_none (fin_bl I q (by simp))
  | bl j => cases ry; exact PySem.EqMixed.eq_str_bool (fin_bl I q (by simp))
  | int j => obtain ⟨t', rfl⟩ := ry; exact PySem.EqMixed.eq_str_int (fin_bl I q (by simp))
  | str j => obtain ⟨t', rfl⟩ := ry; exact eq_str (fin_bl I q dec_str)
  | _ => exact absurd (show false = true from hs) Bool.false_ne_true
 | byt i =>
  obtain ⟨t, rfl⟩ := rx
  cases y with
  | byt j => obtain ⟨t', rfl⟩ := ry; exact PySem.W.eq_bytes (fin_bl I q dec_byt)
  | _ => exact absurd (show false = true from hs) Bool.false_ne_true
 | _ => cases y <;> exact absurd (show false = true from hs) Bool.false_ne_true
theorem op_ne : OpR X (compareOp .NotEq) rNe := by
 intro pins s σ H x y v u Q I rx ry h
 obtain ⟨hs, q⟩ := h
 cases x with
 | non =>
  cases rx
  cases y with
  | non => cases ry; exact PySem.EqNone.ne_none_none (fin_bl I q (by simp))
  | bl j => cases ry; exact PySem.EqNone.ne_none_bool (fin_bl I q (by simp))
  | int j => obtain ⟨t', rfl⟩ := ry; exact PySem.EqNone.ne_none_int (fin_bl I q (by simp))
  | str j => obtain ⟨t', rfl⟩ := ry; exact PySem.EqNone.ne_none_str (fin_bl I q (by simp))
  | _ => exact absurd (show false = true from hs) Bool.false_ne_true
 | bl i =>
  cases rx
  cases y with
  | non => cases ry; exact PySem.EqNone.ne_bool_none (fin_bl I q (by simp))
  | bl j => cases ry; exact ne_bool (fin_bl I q (congrArg not dec_bl))
  | str j => obtain ⟨t', rfl⟩ := ry; exact PySem.EqMixed.ne_bool_str (fin_bl I q (by simp))
  | _ => exact absurd (show false = true from hs) Bool.false_ne_true
 | int i =>
  obtain ⟨t, rfl⟩ := rx
  cases y with
  | non => cases ry; exact PySem.EqNone.ne_int_none (fin_bl I q (by simp))
  | int j => obtain ⟨t', rfl⟩ := ry; exact ne_int (fin_bl I q (congrArg not dec_int))
  | str j => obtain ⟨t', rfl⟩ := ry; exact PySem.EqMixed.ne_int_str (fin_bl I q (by simp))
  | _ => exact absurd (show false = true from hs) Bool.false_ne_true
 | str i =>
  obtain ⟨t, rfl⟩ := rx
  cases y with
  | non => cases ry; exact PySem.EqNone.ne_str_none (fin_bl I q (by simp))
  | bl j => cases ry; exact PySem.EqMixed.ne_str_bool (fin_bl I q (by simp))
  | int j => obtain ⟨t', rfl⟩ := ry; exact PySem.EqMixed.ne_str_int (fin_bl I q (by simp))
  | str j => obtain ⟨t', rfl⟩ := ry; exact ne_str (fin_bl I q (congrArg not dec_str))
  | _ => exact absurd (show false = true from hs) Bool.false_ne_true
 | byt i =>
  obtain ⟨t, rfl⟩ := rx
  cases y with
  | byt j => obtain ⟨t', rfl⟩ := ry; exact PySem.W.ne_bytes (fin_bl I q (congrArg not dec_byt))
  | _ => exact absurd (show false = true from hs) Bool.false_ne_true
 | _ => cases y <;> exact absurd (show false = true from hs) Bool.false_ne_true
theorem op_lt : OpR X (compareOp .Lt) (rI0 fun i j => .bl (decide (i < j))) := opB0 fun _ _ _ _ _ _ _ q => lt_int q
theorem op_le : OpR X (compareOp .LtE) (rI0 fun i j => .bl (decide (i ≤ j))) := opB0 fun _ _ _ _ _ _ _ q => le_int q
theorem nomark (b : Expr) {op : CmpOp} (h : op ≠ .In := by decide) (h2 : op ≠ .NotIn := by decide) : behindInMarks op b = false := by
 have e1 : (op == CmpOp.In) = false := by cases op <;> first | rfl | exact absurd rfl h
 have e2 : (op == CmpOp.NotIn) = false := by cases op <;> first | rfl | exact absurd rfl h2
 cases b <;> simp [behindInMarks, e1, e2]
theorem pe_cmpR {op : CmpOp} {r : R2} (ho : OpR X (compareOp op) r) (ha : PE X a ta) (hb : PE X b tb) (hm : behindInMarks op b = false) : PE X (.Compare a [op] [b] pos) (tOp r ta tb) := by
 intro pins s σ H Q I h
 exact wpAny_Compare1 (binT ha hb I h fun v u s2 x y H2 I2 rx ry q => ho pins s2 σ H2 x y v u Q I2 rx ry q) hm
def tTest (t : TE) : TT := fun σ H Q => t σ H fun x H' => ∃ k, x = .bl k ∧ Q k H'
theorem pt_cmpR {op : CmpOp} {r : R2} (ho : OpR X (compareOp op) r) (ha : PE X a ta) (hb : PE X b tb) (hm : behindInMarks op b = false) : PT X (.Compare a [op] [b] pos) (tTest (tOp r ta tb)) := by
 intro pins s σ H Q I h
 refine wpAny_isTrue_Compare1 (thn (ha pins s σ H _ I h) fun v s1 ⟨x, H1, I1, r1, q1⟩ => thn (hb pins s1 σ H1 _ I1 q1) fun u s2 ⟨y, H2, I2, r2, q2⟩ =>
  thn (ho pins s2 σ H2 x y v u _ I2 r1 r2 q2) fun c s3 ⟨z, H3, I3, r3, k, e, q3⟩ => ?_) hm
 subst e
 cases r3
 exact wpAny_truthy_bool ⟨H3, I3, q3⟩
def tChain (r r' : R2) (ta tb tc : TE) : TE := fun σ H Q => ta σ H fun x H1 => tb σ H1 fun y H2 => r x y H2 fun z H3 => ∃ k, z = .bl k ∧
 (if k = true then tc σ H3 fun w' H4 => r' y w' H4 Q else Q (.bl false) H3)
theorem pe_chain {op op' : CmpOp} {r r' : R2} (ho : OpR X (compareOp op) r) (ho' : OpR X (compareOp op') r') (ha : PE X a ta) (hb : PE X b tb) (hc : PE X c tc)
  (hm : lastMarks [op, op'] [b, c] = false := by with_unfolding_all rfl) : PE X (.Compare a [op, op'] [b, c] pos) (tChain r r' ta tb tc) := by
 intro pins s σ H Q I h
 refine Compare_chain (thn (ha pins s σ H _ I h) fun v s1 ⟨x, H1, I1, r1, q1⟩ => chain_link (thn (hb pins s1 σ H1 _ I1 q1) fun u s2 ⟨y, H2, I2, r2, q2⟩ =>
  thn (ho pins s2 σ H2 x y v u _ I2 r1 r2 q2) fun d s3 ⟨z, H3, I3, r3, k, e, q3⟩ => ?_)) hm
 subst e
 cases r3
 refine wpAny_truthy_bool ?_
 cases k with
 | false => exact ite_ff ⟨.bl false, H3, I3, rfl, q3⟩
 | true => exact ite_tt (chain_last (thn (hc pins s3 σ H3 _ I3 q3) fun w' s4 ⟨z', H4, I4, r4, q4⟩ => ho' pins s4 σ H4 y z' u w' Q I4 r2 r4 q4))
def TruV (K : PySem.W.Frag) (x : V) (H : Hp) (k : Bool) : Prop :=
 match x with
 | .non => k = false
 | .bl b => k = b
 | .int i => k = (i != 0)
 | .str y => y.length ≤ sizeLine ∧ k = ((y.length : Int) != 0)
 | .byt y => y.size ≤ sizeLine ∧ k = ((y.size : Int) != 0)
 | .ref p => (∃ xs, SqL K H p xs ∧ k = !xs.isEmpty) ∨ (∃ xs, SqT K H p xs ∧ k = !xs.isEmpty) ∨ ∃ kvs, H p = some (.dK kvs) ∧ k = !kvs.isEmpty
 | _ => False
theorem isEmpty_kv {κ : Type} {kvs : List (κ × V)} {vs : List (κ × Value)} (r : KV kvs vs) : (!vs.isEmpty) = !kvs.isEmpty := by
 cases r <;> rfl
theorem isEmpty_of {xs : List V} {its : List Value} (r : Vals xs its) : (!its.toArray.isEmpty) = !xs.isEmpty := by
 cases r <;> simp
theorem line63 : (sizeLine : Nat) < 2 ^ 63 := by rw [sizeLine_eq]; decide
theorem tru_ok : TruR X (fun x H Q => ∃ k, TruV X.K x H k ∧ Q k H) := by
 intro pins s σ H x v Q I rx h
 obtain ⟨k, e, q⟩ := h
 have hl := line63
 have hs : sizeLine = 16777216 := sizeLine_eq
 cases x with
 | non =>
  cases rx
  have e' : k = false := e
  subst e'
  exact truthy_none ⟨H, I, q⟩
 | bl b =>
  cases rx
  have e' : k = b := e
  subst e'
  exact wpAny_truthy_bool ⟨H, I, q⟩
 | int i =>
  obtain ⟨t, rfl⟩ := rx
  have e' : k = (i != 0) := e
  subst e'
  exact PySem.P.truthy_int ⟨H, I, q⟩
 | str y =>
  obtain ⟨t, rfl⟩ := rx
  obtain ⟨hy, e'⟩ : y.length ≤ sizeLine ∧ k = ((y.length : Int) != 0) := e
  subst e'
  exact PySem.P.truthy_str (by omega) ⟨H, I.tok _, q⟩
 | byt y =>
  obtain ⟨t, rfl⟩ := rx
  obtain ⟨hy, e'⟩ : y.size ≤ sizeLine ∧ k = ((y.size : Int) != 0) := e
  subst e'
  exact PySem.W.truthy_bytes (by omega) ⟨H, I.tok _, q⟩
 | ref p =>
  cases rx
  have e' : (∃ xs, SqL X.K H p xs ∧ k = !xs.isEmpty) ∨ (∃ xs, SqT X.K H p xs ∧ k = !xs.isEmpty) ∨ ∃ kvs, H p = some (.dK kvs) ∧ k = !kvs.isEmpty := e
  rcases e' with ⟨xs, hx, e'⟩ | ⟨xs, hx, e'⟩ | ⟨kvs, hx, e'⟩
  ·subst e'
   obtain ⟨its, r, pl, hz⟩ := I.list hx
   have hlen := r.length
   exact wpAny_truthy_list pl.isList (by simp only [List.size_toArray]; omega) ⟨H, I.tok _, by rw [isEmpty_of r]; exact q⟩
  ·subst e'
   obtain ⟨its, r, pl, hz⟩ := I.tuple hx
   have hlen := r.length
   exact truthy_tuple pl (by simp only [List.size_toArray]; omega) ⟨H, I.tok _, by rw [isEmpty_of r]; exact q⟩
  ·subst e'
   obtain ⟨hz, hS, vs, r, m⟩ : kvs.length ≤ sizeLine ∧ (p == sysModules) = false ∧ ∃ vs, KV kvs vs ∧ s.heap.DictOf (mixKind X.prog X.w) p vs := I.hok p _ hx
   have hlen : kvs.length = vs.length := Paired.length r
   exact wpAny_truthy_dict hS m (by omega) ⟨H, I.tok _, by rw [isEmpty_kv r]; exact q⟩
 | _ => exact (show False from e).elim
theorem pt_truth (ha : PE X a ta) (he : ∀ whole, isTrue a X.env whole = (do let v ← whole; standAt a.pos; holding [v] (truthy v))) :
  PT X a (fun σ H Q => ta σ H fun x H' => ∃ k, TruV X.K x H' k ∧ Q k H') := by
 intro pins s σ H Q I h
 exact isTrue_plain (thn (ha pins s σ H _ I h) fun v s1 ⟨x, H1, I1, r1, q1⟩ => tru_ok pins s1 σ H1 x v Q I1 r1 q1) (he _)
theorem vals1 {x : V} {us : List Value} (r : Vals [x] us) : ∃ u, us = [u] ∧ RelV x u := by
 cases r with
 | cons r1 r2 => cases r2; exact ⟨_, rfl, r1⟩
theorem vals2 {x y : V} {us : List Value} (r : Vals [x, y] us) : ∃ u w', us = [u, w'] ∧ RelV x u ∧ RelV y w' := by
 cases r with
 | cons r1 r2 =>
  cases r2 with
  | cons r3 r4 => cases r4; exact ⟨_, _, rfl, r1, r3⟩
theorem call_max2 (hc : X.calm = true) : CallR X (.builtin "max") (fun xs H Q => ∃ i j, xs = [.int i, .int j] ∧ Q (.int (if j > i then j else i)) H) := by
 intro pins s σ H xs us Q I r h
 obtain ⟨i, j, rfl, q⟩ := h
 obtain ⟨u, w', rfl, ⟨t, rfl⟩, ⟨t', rfl⟩⟩ := vals2 r
 refine max_two_ints (I.ok.hd hc) fun h' tk k => ⟨_, H, I.kept k, ?_, q⟩
 by_cases hj : j > i
 ·rw [if_pos hj, if_pos hj]; exact ⟨_, rfl⟩
 ·rw [if_neg hj, if_neg hj]; exact ⟨_, rfl⟩
theorem call_min2 (hc : X.calm = true) : CallR X (.builtin "min") (fun xs H Q => ∃ i j, xs = [.int i, .int j] ∧ Q (.int (if j < i then j else i)) H) := by
 intro pins s σ H xs us Q I r h
 obtain ⟨i, j, rfl, q⟩ := h
 obtain ⟨u, w', rfl, ⟨t, rfl⟩, ⟨t', rfl⟩⟩ := vals2 r
 refine min_two_ints (I.ok.hd hc) fun h' tk k => ⟨_, H, I.kept k, ?_, q⟩
 by_cases hj : j < i
 ·rw [if_pos hj, if_pos hj]; exact ⟨_, rfl⟩
 ·rw [if_neg hj, if_neg hj]; exact ⟨_, rfl⟩
end
end L2
namespace L2
open PySem PySem.Spec PyProof.Rows
section
variable {prog : Program} {w : World} {A : Around} {E : Value → Shared → Prop} {s : Shared} {K : PySem.W.Frag} {x dx C f : Addr} {mA : Str → Option Value} {name : Str} {v : Value}
end
theorem RelO.some_of {v : V} {o : Option Value} (r : RelO (some v) o) : ∃ u, o = some u ∧ RelV v u := by
 cases o with
 | none => exact (show False from r).elim
 | some u => exact ⟨u, rfl, r⟩
section
variable {P : Program} {w : World} {H H' : Hp} {h h' : Heap} {a C dx : Addr} {fs fs' : List (Str × V)}
end
section
variable {X : Cx} {pins : List (Addr × Obj)} {σ : St} {H : Hp} {s : Shared} {a C dx : Addr} {fs : List (Str × V)} {f : Str} {v : V} {A : Around} {E : Value → Shared → Prop}
end
section
variable {X : Cx} {o e value : Expr} {f : Str} {pos pos' tpos : Pos} {ta tv : TE}
end
section
variable {X : Cx} {pins : List (Addr × Obj)} {σ : St} {H : Hp} {s : Shared} {A : Around} {E : Value → Shared → Prop} {Q : Value → Shared → Prop} {c : Value} {b : Bool}
end
end L2
namespace L2
open PySem PySem.Spec PyProof.Rows
structure Room (k : Nat) (A : Around) : Prop where
 hd : A.handled = none
 dp : A.depth + 3 * k + 5 < recursionLimit
 un : A.units + 16 * k + 200 < cLine
theorem Room.mono {j k : Nat} {A : Around} (r : Room k A) (h : j ≤ k) : Room j A := ⟨r.hd, by have := r.dp; omega, by have := r.un; omega⟩
theorem Room.deeper {k : Nat} {A : Around} (r : Room (k + 1) A) (env : Env) : Room k (A.deeper env) :=
 ⟨r.hd, by have := r.dp; show A.depth + 1 + 3 * k + 5 < _; omega, by have := r.un; show A.units + 3 + 16 * k + 200 < _; omega⟩
theorem Room.depth {k : Nat} {A : Around} (r : Room k A) : A.depth < recursionLimit := by have := r.dp; omega
theorem Room.units {k : Nat} {A : Around} (r : Room k A) : A.units + 64 < cLine := by have := r.un; omega
def tNil : TA := fun _ H Q => Q [] H
def tCons (ta : TE) (tr : TA) : TA := fun σ H Q => ta σ H fun x H1 => tr σ H1 fun xs H2 => Q (x :: xs) H2
section
variable {X : Cx} {e : Expr} {es : List Expr} {te : TE} {t : TA} {pos : Pos}
theorem pa_nil : PA X [] tNil := fun _ _ _ _ H Q I h => Calls.spliced_nil ⟨[], H, I, .nil, h⟩
theorem pa_cons (ha : PE X e te) (hr : PA X es t) (hs : starEach (e :: es) X.env = (false, eval e X.env) :: starEach es X.env := by rfl) : PA X (e :: es) (tCons te t) := by
 intro pos pins s σ H Q I h
 rw [hs]
 show wpAny _ _ (spliced ((false, eval e X.env) :: backTo pos (starEach es X.env))) _ _ s
 refine Calls.spliced_cons (thn (ha pins s σ H _ I h) fun u s1 ⟨x, H1, I1, r1, q1⟩ => ?_)
 exact thn (hr pos pins s1 σ H1 _ I1 q1) fun us s2 ⟨xs, H2, I2, r2, q2⟩ => ⟨x :: xs, H2, I2, .cons r1 r2, q2⟩
def tTup (t : TA) : TE := fun σ H Q => t σ H fun xs H1 => xs.length ≤ sizeLine ∧ ∀ p, H1 p = none → Q (.ref p) (upd H1 p (.tup xs))
def tLst (t : TA) : TE := fun σ H Q => t σ H fun xs H1 => xs.length ≤ sizeLine ∧ ∀ p, H1 p = none → Q (.ref p) (upd H1 p (.lst xs))
theorem pe_tup {x1} (h : PA X es t) : PE X (.Tuple es x1 pos) (tTup t) := by
 intro pins s σ H Q I hq
 refine wpAny_Tuple_spliced (thn (h pos pins s σ H _ I hq) fun us s1 ⟨xs, H1, I1, r, z, q⟩ => ⟨by rw [← r.length]; exact z, ?_⟩)
 have hf : H1 s1.heap.objs.size = none := I1.hok.fresh (Nat.le_refl _)
 refine ⟨.ref s1.heap.objs.size, upd H1 s1.heap.objs.size (.tup xs), I1.laid (t' := s1.toks) (fun b u e => Heap.get?_push_of_some _ e) (Nat.le_refl _) ?_, rfl, q _ hf⟩
 exact ⟨z, us, r, ⟨_, Heap.get?_push_size _ rfl, rfl, _, rfl⟩⟩
theorem pe_lst (h : PA X es t) : PE X (.List es pos) (tLst t) := by
 intro pins s σ H Q I hq
 refine wpAny_List_spliced (thn (h pos pins s σ H _ I hq) fun us s1 ⟨xs, H1, I1, r, z, q⟩ => ⟨by rw [← r.length]; exact z, ?_⟩)
 have hf : H1 s1.heap.objs.size = none := I1.hok.fresh (Nat.le_refl _)
 refine ⟨.ref s1.heap.objs.size, upd H1 s1.heap.objs.size (.lst xs), I1.laid (t' := s1.toks) (fun b u e => Heap.get?_push_of_some _ e) (Nat.le_refl _) ?_, rfl, q _ hf⟩
 exact ⟨z, us, 0, r, Heap.get?_push_size _ rfl⟩
end
abbrev Sp := List V → Hp → VK → XK → Prop
abbrev CXT := List Env → Hp → Shared → XK → Value → Shared → Prop
structure Env0 (P : Program) (w : World) (K : PySem.W.Frag) (mg : Str → Option Value) (base : Heap) (A : Around) (outer : List Env) (s : Shared) (H : Hp) : Prop where
 frames : A.frames = some outer
 mod : Mod K mg base
 bs : ∀ b o, base.get? b = some o → s.heap.get? b = some o ∧ H b = none
 bsz : base.objs.size ≤ s.heap.objs.size
 funs : s.heap.FunFrames base outer
 frf : ∀ b ∈ frs outer, H b = none
 hok : HOk P w H s.heap
 bare : AllBare s.gens
def CE (outer : List Env) (P : Program) (w : World) (H : Hp) (s : Shared) (Q : VK) (u : Value) (s' : Shared) : Prop :=
 ∃ v H', s'.os = s.os ∧ AllBare s'.gens ∧ Un (frs outer) [] H H' s.heap s'.heap ∧ HOk P w H' s'.heap ∧ RelV v u ∧ Q v H'
def CR (CX : CXT) (outer : List Env) (P : Program) (w : World) (H : Hp) (s : Shared) (Q : VK) (E : XK) (r : Result) (s' : Shared) : Prop :=
 match r with
 | .ok (.ret u) => CE outer P w H s Q u s'
 | .ok _ => False
 | .error e => CX outer H s E e s'
structure FnOk (P : Program) (w : World) (K : PySem.W.Frag) (mg : Str → Option Value) (base : Heap) (CX : CXT) (k : Nat) (f : Addr) (fd : FuncData) (ps : List Str) (sp : Sp) : Prop where
 len : ∀ vs H Q E, sp vs H Q E → vs.length = ps.length
 run : ∀ (A : Around) (outer : List Env) (s : Shared) (H : Hp) (args : Args) (us : List Value) (vs : List V) (Q : VK) (E : XK), Room k A → Env0 P w K mg base A outer s H → BindsTo s fd args (ps.zip us) → Vals vs us → sp vs H Q E →
  codeAny (model P w) A (.call (.ref f) args) (CR CX outer P w H s Q E) s
theorem FnOk.imp {P : Program} {w : World} {K : PySem.W.Frag} {mg : Str → Option Value} {base : Heap} {CX : CXT} {k : Nat} {f : Addr} {fd : FuncData} {ps : List Str} {sp sp' : Sp} (F : FnOk P w K mg base CX k f fd ps sp)
  (h : ∀ vs H Q E, sp' vs H Q E → sp vs H Q E) : FnOk P w K mg base CX k f fd ps sp' :=
 ⟨fun vs H Q E q => F.len vs H Q E (h _ _ _ _ q), fun A outer s H args us vs Q E hr he hb hv hs => F.run A outer s H args us vs Q E hr he hb hv (h _ _ _ _ hs)⟩
section
variable {X : Cx} {pins : List (Addr × Obj)} {σ : St} {H : Hp} {s s' : Shared}
theorem Inv.env0 (I : Inv X pins σ H s) : Env0 X.prog X.w X.K X.mg X.base X.A X.stack s H :=
 ⟨I.ok.frames, I.ok.mod, I.bs, Nat.le_trans I.ok.bsz I.sz, I.stack, I.stkFree, I.hok, I.bare⟩
theorem Inv.after {Q : VK} {u : Value} (I : Inv X pins σ H s) (h : CE X.stack X.prog X.w H s Q u s') : EP X pins σ Q u s' := by
 obtain ⟨v, H', os, bare, un, hok, r, q⟩ := h
 obtain ⟨hh, g, d, t, os'⟩ := s'
 obtain rfl : os' = s.os := os
 exact ⟨v, H', I.call (h' := hh) (g' := g) (d' := d) (t' := t) (ch := []) un hok bare (fun b z => absurd z (by simp)), r, q⟩
end
def tCall (sp : Sp) (dvs : List V) (E : XK) (t : TA) : TE := fun σ H Q => t σ H fun vs H1 => sp (vs ++ dvs) H1 Q E
def Binds (K : PySem.W.Frag) (fd : FuncData) (ps : List Str) (ds : List Value) : Prop :=
 ∀ (s : Shared) (us : List Value), K.In s.heap → (us ++ ds).length = ps.length → BindsTo s fd ⟨us, []⟩ (ps.zip (us ++ ds))
theorem Binds.all {K : PySem.W.Frag} {fd : FuncData} {ps : List Str} (h : ∀ us : List Value, us.length = ps.length → bindArgs fd ⟨us, []⟩ = pure (ps.zip us)) : Binds K fd ps [] := fun s us _ hl => by
 rw [List.append_nil] at hl ⊢
 exact .of_eq (h us hl)
def Passes (CX : CXT) (X : Cx) (E : XK) : Prop := ∀ (pins : List (Addr × Obj)) (σ : St) (H : Hp) (s : Shared) (e : Value) (s' : Shared), Inv X pins σ H s → CX X.stack H s E e s' → X.xe e s'
section
variable {X : Cx} {CX : CXT} {k : Nat} {f C : Addr} {fd : FuncData} {ps : List Str} {sp : Sp} {dvs : List V} {ds : List Value} {E : XK} {x m : Str} {p pos apos : Pos} {e o : Expr} {es : List Expr} {ta : TE} {t : TA}
theorem run_fn {pins : List (Addr × Obj)} {σ : St} {H : Hp} {s : Shared} {Q : VK} {us : List Value} {vs : List V} (F : FnOk X.prog X.w X.K X.mg X.base CX k f fd ps sp) (hr : Room k X.A) (hb : Binds X.K fd ps ds) (hd : Vals dvs ds) (hx : Passes CX X E)
  (I : Inv X pins σ H s) (r : Vals vs us) (h : sp (vs ++ dvs) H Q E) : wpAny (model X.prog X.w) X.A (call (.ref f) us) (EP X pins σ Q) X.xe s := by
 have r2 : Vals (vs ++ dvs) (us ++ ds) := r.append hd
 have hl : (us ++ ds).length = ps.length := by rw [← r2.length]; exact F.len _ _ _ _ h
 refine wpAny_call (codeAny_mono (F.run X.A X.stack s H ⟨us, []⟩ (us ++ ds) (vs ++ dvs) Q E hr I.env0 (hb s us I.kIn hl) r2 h) fun r s' hq => ?_)
 cases r with
 | error e => exact hx pins σ H s e s' I hq
 | ok fl =>
  cases fl with
  | ret u => exact I.after hq
  | next => exact False.elim hq
  | brk => exact False.elim hq
  | cont => exact False.elim hq
theorem pe_call (F : FnOk X.prog X.w X.K X.mg X.base CX k f fd ps sp) (hr : Room k X.A) (hg : Gl X x) (hm : X.mg x = some (.ref f)) (hk : PySem.W.keepIn X.K (.ref f) = true) (hb : Binds X.K fd ps ds) (hd : Vals dvs ds) (hx : Passes CX X E)
  (ha : PA X (e :: es) t) (hdb : (x == ("__debug__" : Str)) = false := by decide) (he : starEach (e :: es) X.env = (false, eval e X.env) :: starEach es X.env := by rfl) (hpl : (backTo pos (starEach es X.env)).any (·.1) = false := by rfl) :
  PE X (.Call (.Name x p) (e :: es) [] pos) (tCall sp dvs E t) := by
 intro pins s σ H Q I h
 refine wpAny_Call_Name_kw (ld_glob I hg hm ?_ hdb)
 refine PySem.W.callWith_K (h₀ := X.base) I.ok.mod.kin hk (thn (ha pos pins s σ H _ I h) fun us s1 ⟨vs, H1, I1, r, q⟩ => ⟨I1.kIn, ?_⟩) he hpl
 exact run_fn F hr hb hd hx I1 r q
end
section
variable {X : Cx} {CX : CXT} {k : Nat} {f C : Addr} {fd : FuncData} {ps ks : List Str} {sp : Sp} {E : XK} {x m : Str} {p pos apos kpos : Pos} {e o : Expr} {es : List Expr} {kws : List Keyword} {te ta : TE} {t tk : TA} {nm : Option Str}
variable {g : List Value → List Value → List Value} {gV : List V → List V → List V}
end
structure FnScope (N P : List Str) (sc : Scope) : Prop where
 kind : sc.kind = .function
 co : sc.isCoroutine = false
 gen : sc.isGenerator = false
 nd : N.Nodup
 pre : N.take P.length = P
 par : ∀ x ∈ P, sc.names.lookup x = some .local ∨ sc.names.lookup x = some .cell
 nofree : ∀ y ∈ sc.names, y.2 ≠ .free
theorem bindL_out {kindOf : Str → Option NameKind} {x : Str} : ∀ {binds : List (Str × Value)} {m : Str → Option Value}, (∀ v, (x, v) ∉ binds) → bindL kindOf binds m x = m x
 | [], _, _ => rfl
 | (n, v) :: r, m, h => by
  unfold bindL
  rw [bindL_out fun w hw => h w (List.mem_cons_of_mem _ hw)]
  split
  ·have : x ≠ n := by rintro rfl; exact h v List.mem_cons_self
   simp [this]
  ·rfl
theorem bindC_out {kindOf : Str → Option NameKind} {x : Str} : ∀ {binds : List (Str × Value)} {m : Str → Option Value}, (∀ v, (x, v) ∉ binds) → bindC kindOf binds m x = m x
 | [], _, _ => rfl
 | (n, v) :: r, m, h => by
  unfold bindC
  rw [bindC_out fun w hw => h w (List.mem_cons_of_mem _ hw)]
  split
  ·rfl
  ·have : x ≠ n := by rintro rfl; exact h v List.mem_cons_self
   simp [this]
theorem bindL_get {kindOf : Str → Option NameKind} {x : Str} {v : Value} : ∀ {P : List Str} {vs : List Value} {i : Nat} {m : Str → Option Value}, P.Nodup → P[i]? = some x → vs[i]? = some v → kindOf x = some .local →
  bindL kindOf (P.zip vs) m x = some v
 | [], _, _, _, _, h, _, _ => by simp at h
 | _ :: _, [], _, _, _, _, h, _ => by simp at h
 | p :: P, w :: vs, 0, m, nd, h1, h2, hk => by
  simp at h1 h2; subst h1; subst h2
  show bindL kindOf ((p, w) :: P.zip vs) m p = _
  unfold bindL
  rw [bindL_out fun v hv => (List.nodup_cons.mp nd).1 (List.of_mem_zip hv).1, if_pos hk]
  simp
 | p :: P, w :: vs, i + 1, m, nd, h1, h2, hk => by
  show bindL kindOf ((p, w) :: P.zip vs) m x = _
  unfold bindL
  exact bindL_get (i := i) (List.nodup_cons.mp nd).2 (by simpa using h1) (by simpa using h2) hk
theorem bindC_get {kindOf : Str → Option NameKind} {x : Str} {v : Value} : ∀ {P : List Str} {vs : List Value} {i : Nat} {m : Str → Option Value}, P.Nodup → P[i]? = some x → vs[i]? = some v → kindOf x ≠ some .local →
  bindC kindOf (P.zip vs) m x = some v
 | [], _, _, _, _, h, _, _ => by simp at h
 | _ :: _, [], _, _, _, _, h, _ => by simp at h
 | p :: P, w :: vs, 0, m, nd, h1, h2, hk => by
  simp at h1 h2; subst h1; subst h2
  show bindC kindOf ((p, w) :: P.zip vs) m p = _
  unfold bindC
  rw [bindC_out fun v hv => (List.nodup_cons.mp nd).1 (List.of_mem_zip hv).1, if_neg hk]
  simp
 | p :: P, w :: vs, i + 1, m, nd, h1, h2, hk => by
  show bindC kindOf ((p, w) :: P.zip vs) m x = _
  unfold bindC
  exact bindC_get (i := i) (List.nodup_cons.mp nd).2 (by simpa using h1) (by simpa using h2) hk
def start (N : List Str) (vs : List V) : St := vs.map some ++ List.replicate (N.length - vs.length) none
def cxOf (CX : CXT) (P : Program) (w : World) (K : PySem.W.Frag) (mg : Str → Option Value) (base : Heap) (N : List Str) (qual : Str) (scope : Scope) (f : Addr) (cd : Value) (A : Around) (outer : List Env) (s : Shared) (H : Hp) (E : XK) : Cx where
 prog := P
 w := w
 K := K
 mg := mg
 base := base
 A := A.deeper (envOfC qual scope s.heap.objs.size f cd)
 N := N
 s₀ := s
 H₀ := H
 env := envOfC qual scope s.heap.objs.size f cd
 outer := outer
 stack := envOfC qual scope s.heap.objs.size f cd :: outer
 ex := []
 calm := true
 fn := fun _ => true
 pn := []
 xe := fun e s' => wpAny (model P w) (A.deeper (envOfC qual scope s.heap.objs.size f cd)) (leaving (envOfC qual scope s.heap.objs.size f cd) e) (fun _ s'' => CX outer H s E e s'') (fun e' s'' => CX outer H s E e' s'') s'
theorem cell_has {sc : Scope} {n : Nat} {x : Str} (h : sc.names.lookup x = some .cell) : ∃ c, (cellsFrom n sc.names []).lookup x = some c := by
 have q := PySem.W.cellsFrom_some sc.names n [] (.inl h)
 exact Option.isSome_iff_exists.mp q
theorem inv_start {CX : CXT} {P : Program} {w : World} {K : PySem.W.Frag} {mg : Str → Option Value} {base : Heap} {N ps : List Str} {qual : Str} {scope : Scope} {f : Addr} {cd : Value} {A : Around} {outer : List Env} {s s1 : Shared} {H : Hp} {E : XK} {us : List Value} {vs : List V}
  (S : FnScope N ps scope) (hd : A.handled = none) (e0 : Env0 P w K mg base A outer s H) (hl : vs.length = ps.length) (r : Vals vs us)
  (x : InCallC s s.heap.objs.size (bindL (envOfC qual scope s.heap.objs.size f cd).kindOf (ps.zip us) fun _ => none) (cellsFrom (s.heap.objs.size + 1) scope.names []) (bindC (envOfC qual scope s.heap.objs.size f cd).kindOf (ps.zip us) fun _ => none) s1) :
  Inv (cxOf CX P w K mg base N qual scope f cd A outer s H E) [] (start N vs) H s1 := by
 have hpl : ps.length ≤ N.length := by have := congrArg List.length S.pre; rw [List.length_take] at this; omega
 obtain ⟨h1, tk, rfl, hk⟩ := x.done
 have noA : ∀ b : Addr, b ∉ (cxOf CX P w K mg base N qual scope f cd A outer s H E).ex := fun b z => absurd (show b ∈ ([] : List Addr) from z) (by simp)
 refine ⟨⟨e0.mod, S.kind, rfl, rfl, Nat.le_refl _, fun y z c h1 h2 => ?_, fun y hy => ?_, fun y c _ h => ?_, fun _ => hd, Around.frames_deeper e0.frames, .inr ⟨rfl, rfl⟩, fun b z => absurd z (noA b), e0.bs, e0.bsz, fun b _ _ => noA b, fun b z => absurd z (noA b), e0.funs, e0.frf⟩,
  rfl, e0.bare, Un.kept hk, ⟨_, x.toInCall.ns, fun i y v h1 h2 h3 => ?_⟩, fun y c h => ⟨_, x.cell y c h⟩, e0.hok.fresh (Nat.le_refl _), fun y c h => ?_, fun p hp => absurd (show p ∈ ([] : List (Addr × Obj)) from hp) (by simp), e0.hok.kept hk, ?_⟩
 ·exact name_of_addr x.apart (PySem.mem_of_lookup h1) (PySem.mem_of_lookup h2)
 ·have hy : scope.names.lookup y = some .cell ∨ scope.names.lookup y = some .free := hy
  rcases hy with hy | hy
  ·exact cell_has hy
  ·exact absurd rfl (S.nofree _ (PySem.mem_of_lookup hy))
 ·exact Nat.le_of_lt (x.above y c (PySem.mem_of_lookup h))
 ·have hi : i < vs.length := by
   unfold start at h2
   by_cases hi : i < vs.length
   ·exact hi
   ·rw [List.getElem?_append_right (by simpa using hi)] at h2
    rw [List.getElem?_replicate] at h2
    split at h2 <;> cases h2
  have ha : vs[i]? = some v := by
   unfold start at h2
   rw [List.getElem?_append_left (by simpa using hi), List.getElem?_map] at h2
   cases e : vs[i]? with
   | none => rw [e] at h2; cases h2
   | some a => rw [e] at h2; cases h2; rfl
  obtain ⟨u, hu, rv⟩ := r.get ha
  have hp : ps[i]? = some y := by
   rw [← S.pre, List.getElem?_take_of_lt (by omega)]; exact h1
  have ndP : ps.Nodup := by rw [← S.pre]; exact S.nd.sublist (List.take_sublist _ _)
  refine ⟨u, rv, ?_⟩
  rcases S.par y (List.mem_of_getElem? hp) with k | k
  ·exact .inl ⟨k, bindL_get ndP hp hu k⟩
  ·obtain ⟨c, e⟩ := cell_has (n := s.heap.objs.size + 1) k
   refine .inr ⟨.inl k, c, e, ?_⟩
   have q := x.cell y c e
   rw [bindC_get ndP hp hu (by show scope.names.lookup y ≠ _; rw [k]; decide)] at q
   exact q
 ·exact e0.hok.fresh (Nat.le_of_lt (x.above y c (PySem.mem_of_lookup h)))
 ·unfold start
  show _ = N.length
  rw [List.length_append, List.length_map, List.length_replicate]
  omega
theorem fn_of {CX : CXT} {P : Program} {w : World} {K : PySem.W.Frag} {mg : Str → Option Value} {base : Heap} {k : Nat} {f : Addr} {name qual : Str} {params : Arguments} {body : List Stmt} {scope : Scope} {dV kV doc pm cdv ct oc : Value} {an od : Option Addr}
  {osl : Array (Option Value)} {N ps : List Str} {sp : Sp} (lk : K.lookup f = some ⟨oc, od, .func (PySem.W.fnOf name qual params body scope dV kV doc pm an cdv ct), osl⟩) (hcd : PySem.W.codeIn K cdv qual = true) (S : FnScope N ps scope)
  (len : ∀ vs H Q E, sp vs H Q E → vs.length = ps.length)
  (hbody : ∀ (A : Around) (outer : List Env) (s : Shared) (H : Hp) (vs : List V) (Q : VK) (E : XK), Room k (A.deeper (envOfC qual scope s.heap.objs.size f cdv)) → sp vs H Q E →
   ∃ t, PSs (cxOf CX P w K mg base N qual scope f cdv A outer s H E) body t ∧ t { nx := fun _ H' => Q .non H', rt := Q } (start N vs) H) :
  FnOk P w K mg base CX (k + 1) f (PySem.W.fnOf name qual params body scope dV kV doc pm an cdv ct) ps sp := by
 refine ⟨len, fun A outer s H args us vs Q E hr e0 hb r hsp => ?_⟩
 have hl := len _ _ _ _ hsp
 have KX : K.In s.heap := e0.mod.kin.keeps fun b o e => (e0.bs b o e).1
 have lim : s.heap.NoLimit := e0.mod.nolimit.keeps fun b o e => (e0.bs b o e).1
 have hkind : ∀ y ∈ ps.zip us, scope.names.lookup y.1 = some .local ∨ (scope.names.lookup y.1 = some .cell ∧ ((cellsFrom (s.heap.objs.size + 1) scope.names []).lookup y.1).isSome = true) := fun ⟨n, v⟩ hy => by
  rcases S.par n (List.of_mem_zip hy).1 with q | q
  ·exact .inl q
  ·exact .inr ⟨q, PySem.W.cellsFrom_some _ _ _ (.inl q)⟩
 refine codeAny_call_function hr.depth (KX _ _ lk) rfl S.co S.gen rfl (PySem.W.codeRec_of KX hcd) (hb _ _ _ _ ?_)
 refine wpAny_newFunctionEnv_cells S.kind hkind fun env he s1 x => ?_
 subst he
 refine ⟨lim.keeps x.toInCall.keep, codeAny_func ?_⟩
 obtain ⟨t, ht, hq⟩ := hbody A outer s H vs Q E (hr.deeper _) hsp
 have I : Inv (cxOf CX P w K mg base N qual scope f cdv A outer s H E) [] (start N vs) H s1 := inv_start S hr.hd e0 hl r x
 refine wpAny_mono (ht [] s1 (start N vs) H _ I hq) (fun fl s' hs => ?_) fun e s' hs => hs
 have fin : ∀ {σ' : St} {H' : Hp} {v : V} {u : Value}, Inv (cxOf CX P w K mg base N qual scope f cdv A outer s H E) [] σ' H' s' → RelV v u → Q v H' → CE outer P w H s Q u s' :=
  fun {σ' H' v u} J rv q => ⟨v, H', J.os, J.bare, J.base, J.hok, rv, q⟩
 cases fl with
 | ret u =>
  obtain ⟨v, σ', H', J, rv, q⟩ := hs
  exact fin J rv q
 | next =>
  obtain ⟨σ', H', J, q⟩ := hs
  exact fin (v := V.non) (u := Value.none) J rfl q
 | brk =>
  obtain ⟨_, _, _, q⟩ := hs
  exact False.elim q
 | cont =>
  obtain ⟨_, _, _, q⟩ := hs
  exact False.elim q
end L2
namespace L2
open PySem PySem.Spec PyProof.Rows
section
variable {X : Cx} {x : Str} {p pos : Pos} {e : Expr} {es : List Expr} {t : TA} {id T : String} {r : List V → Hp → VK → Prop}
def tCB (r : List V → Hp → VK → Prop) (t : TA) : TE := fun σ H Q => t σ H fun vs H1 => r vs H1 Q
theorem pe_callB (hc : CallR X (.builtin id) r) (hg : Gl X x) (hm : X.mg x = none) (hv : bootBuiltins x = some (.builtin id)) (ha : PA X (e :: es) t) (hn : x ≠ "__name__" := by decide) (hdb : (x == ("__debug__" : Str)) = false := by decide)
  (he : starEach (e :: es) X.env = (false, eval e X.env) :: starEach es X.env := by rfl) (hpl : (backTo pos (starEach es X.env)).any (·.1) = false := by rfl) : PE X (.Call (.Name x p) (e :: es) [] pos) (tCB r t) := by
 intro pins s σ H Q I h
 refine wpAny_Call_Name_kw (ld_blt I hg hm hv ?_ hn hdb)
 exact PyProof.Rows.callWith_builtin1 (thn (ha pos pins s σ H _ I h) fun us s1 ⟨vs, H1, I1, r1, q1⟩ => hc pins s1 σ H1 vs us Q I1 r1 q1) he hpl
theorem pe_callTy (hc : CallR X (.type T) r) (hg : Gl X x) (hm : X.mg x = none) (hv : bootBuiltins x = some (.type T)) (ha : PA X (e :: es) t) (hn : x ≠ "__name__" := by decide) (hdb : (x == ("__debug__" : Str)) = false := by decide)
  (he : starEach (e :: es) X.env = (false, eval e X.env) :: starEach es X.env := by rfl) (hpl : (backTo pos (starEach es X.env)).any (·.1) = false := by rfl) : PE X (.Call (.Name x p) (e :: es) [] pos) (tCB r t) := by
 intro pins s σ H Q I h
 refine wpAny_Call_Name_kw (ld_blt I hg hm hv ?_ hn hdb)
 exact PyProof.Rows.callWith_type1 (thn (ha pos pins s σ H _ I h) fun us s1 ⟨vs, H1, I1, r1, q1⟩ => hc pins s1 σ H1 vs us Q I1 r1 q1) he hpl
end
end L2
namespace HT
open PySem PyProof.Rows
section
open PySem.SeqAt
open PySem.AutoSeq1 (wpAny_loadPart')
open PySem.MeetsSeq PySem.MeetsSeq2 PySem.MeetsSeq3
end
section
variable {prog : Program} {w : World} {A : Around} {E : Value → Shared → Prop} {s : Shared}
def sIx (n d : Nat) : Option Int → Nat
 | none => d
 | some v => if v < 0 then (v + (n : Int)).toNat else min v.toNat n
theorem sIx_none (n d : Nat) : sIx n d none = d := rfl
theorem sIx_nat (n d k : Nat) : sIx n d (some (k : Int)) = min k n := by
 show (if (k : Int) < 0 then ((k : Int) + (n : Int)).toNat else min (k : Int).toNat n) = min k n
 rw [if_neg (by omega), Int.toNat_natCast]
theorem sIx_le (n d : Nat) (hd : d ≤ n) (o : Option Int) : sIx n d o ≤ n := by
 cases o with
 | none => exact hd
 | some v =>
  show (if v < 0 then (v + (n : Int)).toNat else min v.toNat n) ≤ n
  by_cases hv : v < 0
  ·rw [if_pos hv]; omega
  ·rw [if_neg hv]; exact Nat.min_le_right _ _
theorem clip_eq (v : Int) (n d : Nat) : (if v < 0 then max (v + (n : Int)) 0 else min v (n : Int)) = ((sIx n d (some v) : Nat) : Int) := by
 show (if v < 0 then max (v + (n : Int)) 0 else min v (n : Int)) = (((if v < 0 then (v + (n : Int)).toNat else min v.toNat n) : Nat) : Int)
 by_cases hv : v < 0
 ·simp only [if_pos hv]; omega
 ·simp only [if_neg hv]; omega
theorem adjust_gen (lo hi : Option Int) (n : Nat) : Builtin.Slice.sliceAdjust lo hi 1 (n : Int) = (((sIx n 0 lo : Nat) : Int), ((sIx n n hi : Nat) : Int)) := by
 have h1 : ¬ ((1 : Int) < 0) := by omega
 unfold Builtin.Slice.sliceAdjust
 simp only [h1, if_false]
 refine Prod.ext ?_ ?_
 ·cases lo with
  | none => rfl
  | some v => exact clip_eq v n 0
 ·cases hi with
  | none => rfl
  | some v => exact clip_eq v n n
theorem places_gen (i j : Nat) : Builtin.Slice.slicePlaces (i : Int) (j : Int) 1 = j - i := by
 unfold Builtin.Slice.slicePlaces
 have h1 : (1 : Int) > 0 := by omega
 simp only [h1, if_true, Int.ediv_one]
 split <;> omega
theorem slicePart_ {v : Value} {o : Option Int} {Q : Option Int → Shared → Prop} (p : IsPart v o) (h : Q o s) : wpAny (model prog w) A (Builtin.Slice.slicePartIndex v) Q E s := by
 cases p with
 | none => exact slicePart_none h
 | int i t => exact slicePart_int h
theorem sliceApplied_gen {sl : Addr} {vl vu : Value} {lo hi : Option Int} {n : Nat} {Q : Int × Int × Nat → Shared → Prop} (hs : s.heap.IsSliceOf sl vl vu .none) (pl : IsPart vl lo) (pu : IsPart vu hi)
  (h : Q (((sIx n 0 lo : Nat) : Int), 1, sIx n n hi - sIx n 0 lo) s) : wpAny (model prog w) A (Builtin.Slice.sliceApplied (.ref sl) (pure (n : Int))) Q E s := by
 obtain ⟨os, hos, hcs, hds⟩ := id hs
 unfold Builtin.Slice.sliceApplied Builtin.Slice.sliceFields
 refine wpAny_bind (wpAny_bind (wpAny_field hos hds (x := vl) rfl (wpAny_bind (wpAny_field hos hds (x := vu) rfl (wpAny_bind (wpAny_field hos hds (x := .none) rfl (wpAny_pure ?_)))))))
 refine wpAny_bind (slicePart_none ?_)
 show wpAny _ _ (if ((1 : Int) == 0) = true then _ else _) _ _ s
 rw [if_neg (by decide)]
 refine wpAny_bind (slicePart_ pl (wpAny_bind (slicePart_ pu (wpAny_bind (wpAny_pure ?_)))))
 show wpAny _ _ (match Builtin.Slice.sliceAdjust lo hi 1 (n : Int) with | (lo, hi) => pure (lo, (1 : Int), Builtin.Slice.slicePlaces lo hi 1)) _ _ s
 rw [adjust_gen lo hi n]
 show wpAny _ _ (pure (((sIx n 0 lo : Nat) : Int), (1 : Int), Builtin.Slice.slicePlaces ((sIx n 0 lo : Nat) : Int) ((sIx n n hi : Nat) : Int) 1)) _ _ s
 rw [places_gen]
 exact wpAny_pure h
theorem pick_gen (xs : Array Value) (i k : Nat) : ((List.range k).filterMap fun (m : Nat) => xs[((i : Int) + (m : Int) * 1).toNat]?).toArray = ((xs.toList.drop i).take k).toArray := by
 have e : (fun (m : Nat) => xs[((i : Int) + (m : Int) * 1).toNat]?) = fun m => xs[i + m]? := by
  funext m
  have : ((i : Int) + (m : Int) * 1).toNat = i + m := by omega
  rw [this]
 rw [e]
 have := pick_run xs i k
 rw [List.filterMap_map] at this
 have e2 : ((fun x => xs[x]?) ∘ fun x => i + x) = fun m => xs[i + m]? := rfl
 rw [e2] at this
 rw [this]
theorem getItem_tuple_cut {t sl : Addr} {items : Array Value} {vl vu : Value} {lo hi : Option Int} {Q : Value → Shared → Prop} (ht : IsTup s.heap t items) (hs : s.heap.IsSliceOf sl vl vu .none) (pl : IsPart vl lo) (pu : IsPart vu hi)
  (hw : ¬ (sIx items.size 0 lo = 0 ∧ sIx items.size items.size hi = items.size))
  (h : Q (.ref s.heap.objs.size) { s with heap := s.heap.push { cls := .type "tuple", data := .seq ((items.toList.drop (sIx items.size 0 lo)).take (sIx items.size items.size hi - sIx items.size 0 lo)).toArray } })
  (hsz : items.size ≤ sizeLine) : wpAny (model prog w) A (getItem (.ref t) (.ref sl)) Q E s := by
 have htake : sizeOk (.seq ((items.toList.drop (sIx items.size 0 lo)).take (sIx items.size items.size hi - sIx items.size 0 lo)).toArray) := by
  show ((items.toList.drop (sIx items.size 0 lo)).take (sIx items.size items.size hi - sIx items.size 0 lo)).toArray.size ≤ sizeLine
  rw [List.size_toArray, List.length_take, List.length_drop, Array.length_toList]
  omega
 have hj : sIx items.size items.size hi ≤ items.size := sIx_le _ _ (Nat.le_refl _) hi
 obtain ⟨os, hos, hcs, hds⟩ := id hs
 have hTs : s.TypeIs (.ref sl) "slice" := ⟨os, hos, hcs⟩
 unfold getItem
 try with_reducible refine wpAny_holding ?_
 first | refine wpAny_bind (wpAny_pure ?_) | skip
 refine wpAny_bind (wpAny_sequenceKey ht.typeIs (by decide) ?_)
 refine wpAny_bind (wpAny_callSpecial?_slot (name := Str.ofString "__getitem__") ht.typeIs PyProof.Rows.slot_tuple_getitem
  (wpAny_call_entry PyProof.Rows.slot_tuple_getitem ht.typeIs entry_tuple_getitem ?_ (args_tuple_getitem _ _)))
 show wpAny _ _ (Builtin.Tuple.tupleItemsOf (.ref t) >>= _) _ _ s
 refine wpAny_bind (tupleItemsOf_ ht ?_)
 refine wpAny_bind (wpAny_typeOf hTs ?_)
 rw [if_pos (by decide)]
 refine wpAny_bind (sliceApplied_gen hs pl pu ?_)
 have hno : ¬ ((((sIx items.size 0 lo : Nat) : Int) == 0 && (1 : Int) == 1 && (sIx items.size items.size hi - sIx items.size 0 lo) == items.size) = true) := by
  intro q
  rw [Bool.and_eq_true, Bool.and_eq_true] at q
  have q1 : ((sIx items.size 0 lo : Nat) : Int) = 0 := eq_of_beq q.1.1
  have q2 : sIx items.size items.size hi - sIx items.size 0 lo = items.size := eq_of_beq q.2
  exact hw ⟨by omega, by omega⟩
 show wpAny _ _ (if (((sIx items.size 0 lo : Nat) : Int) == 0 && (1 : Int) == 1 && (sIx items.size items.size hi - sIx items.size 0 lo) == items.size) = true then _ else _) _ _ s
 rw [if_neg hno, pick_gen]
 first
  | exact wpAny_bind (m := Builtin.Tuple.tupleExact _) (wpAny_newObj_type (wpAny_pure ⟨_, rfl, wpAny_pure h⟩) htake)
  | exact wpAny_bind (m := Builtin.Tuple.tupleExact _) (wpAny_newObj_type (wpAny_bind (wpAny_pure (wpAny_pure ⟨_, rfl, wpAny_pure h⟩))) htake)
  | exact wpAny_bind (wpAny_bind (m := Builtin.Tuple.tupleExact _) (wpAny_newObj_type (wpAny_pure (wpAny_pure ⟨_, rfl, wpAny_pure h⟩)) htake))
  | exact wpAny_bind (wpAny_bind (m := Builtin.Tuple.tupleExact _) (wpAny_newObj_type (wpAny_pure ⟨_, rfl, wpAny_pure h⟩) htake))
end
end HT
namespace L2
open PySem PySem.Spec PyProof.Rows
abbrev TO := St → Hp → (Option Int → Hp → Prop) → Prop
def PO (X : Cx) (e : Option Expr) (t : TO) : Prop :=
 ∀ (pins : List (Addr × Obj)) (s : Shared) (σ : St) (H : Hp) (Q : Option Int → Hp → Prop), Inv X pins σ H s → t σ H Q →
  wpAny (model X.prog X.w) X.A (evalPart e X.env) (fun u s' => ∃ o H', Inv X pins σ H' s' ∧ IsPart u o ∧ Q o H') X.xe s
def tNoPart : TO := fun _ H Q => Q none H
def tPart (t : TE) : TO := fun σ H Q => t σ H fun x H1 => ∃ i, x = .int i ∧ Q (some i) H1
theorem intsAre_of {ns : List Int} : ∀ {us : List Value}, Vals (ns.map V.int) us → IntsAre us ns := by
 induction ns with
 | nil => intro us r; rw [List.map_nil] at r; cases r; exact .nil
 | cons n ns ih =>
  intro us r
  rw [List.map_cons] at r
  cases r with
  | cons r1 r2 =>
   obtain ⟨t, e⟩ := r1
   subst e
   exact .cons n t (ih r2)
section
variable {X : Cx} {e : Expr} {te : TE} {lo hi : Option Expr} {tl th : TO} {pos p2 : Pos}
theorem po_none : PO X none tNoPart := by
 intro pins s σ H Q I h
 rw [evalPart_none]
 exact wpAny_pure ⟨none, H, I, .none, h⟩
theorem po_some (h : PE X e te) : PO X (some e) (tPart te) := by
 intro pins s σ H Q I hw
 rw [evalPart_some]
 refine thn (h pins s σ H _ I hw) fun u s1 ⟨x, H1, I1, r1, q1⟩ => ?_
 obtain ⟨i, rfl, q⟩ := q1
 obtain ⟨t, rfl⟩ := r1
 exact ⟨some i, H1, I1, .int i t, q⟩
def SlR (X : Cx) (r : V → Option Int → Option Int → Hp → VK → Prop) : Prop :=
 ∀ (pins : List (Addr × Obj)) (s : Shared) (σ : St) (H : Hp) (x : V) (v vl vu : Value) (lo hi : Option Int) (sl : Addr) (Q : VK), Inv X pins σ H s → RelV x v → s.heap.IsSliceOf sl vl vu .none → IsPart vl lo → IsPart vu hi → r x lo hi H Q →
  ∃ T id, typeLookup (.type T) "__getitem__" = pure (some (.builtin id)) ∧ s.TypeIs v T ∧ wpAny (model X.prog X.w) X.A (getItem v (.ref sl)) (EP X pins σ Q) X.xe s
def tSl (r : V → Option Int → Option Int → Hp → VK → Prop) (te : TE) (tl th : TO) : TE := fun σ H Q => te σ H fun x H1 => tl σ H1 fun l H2 => th σ H2 fun u H3 => r x l u H3 Q
theorem pe_slice {r : V → Option Int → Option Int → Hp → VK → Prop} (hr : SlR X r) (he : PE X e te) (hl : PO X lo tl) (hu : PO X hi th) : PE X (.Subscript e (.Slice lo hi none p2) pos) (tSl r te tl th) := by
 intro pins s σ H Q I h
 refine Subscript_ (thn (he pins s σ H _ I h) fun v s1 ⟨x, H1, I1, r1, q1⟩ => ?_)
 refine wpAny_Slice (thn (hl pins s1 σ H1 _ I1 q1) fun vl s2 ⟨l, H2, I2, pl, q2⟩ => thn (hu pins s2 σ H2 _ I2 q2) fun vu s3 ⟨u, H3, I3, pu, q3⟩ => ?_)
 rw [evalPart_none]
 refine wpAny_pure ?_
 have I4 : Inv X pins σ H3 { s3 with heap := s3.heap.push { cls := .type "slice", data := .fields #[vl, vu, .none] } } := I3.kept (t' := s3.toks) fun b ob q => Heap.get?_push_of_some _ q
 obtain ⟨T, id, hT, ht, hg⟩ := hr pins { s3 with heap := s3.heap.push { cls := .type "slice", data := .fields #[vl, vu, .none] } } σ H3 x v vl vu l u s3.heap.objs.size Q I4 r1 (Heap.IsSliceOf.new ..) pl pu q3
 show wpAny (model X.prog X.w) X.A (subscriptTail e (.Slice lo hi none p2) v (.ref s3.heap.objs.size)) (EP X pins σ Q) X.xe { s3 with heap := s3.heap.push { cls := .type "slice", data := .fields #[vl, vu, .none] } }
 exact tail_any (ops := [.ref s3.heap.objs.size, v]) ht hT hg (by with_unfolding_all rfl)
def cutV (xs : List V) (lo hi : Option Int) : List V := (xs.drop (HT.sIx xs.length 0 lo)).take (HT.sIx xs.length xs.length hi - HT.sIx xs.length 0 lo)
theorem cutV_length (xs : List V) (lo hi : Option Int) : (cutV xs lo hi).length ≤ xs.length := by
 unfold cutV
 rw [List.length_take, List.length_drop]
 omega
def rSlT (K : PySem.W.Frag) : V → Option Int → Option Int → Hp → VK → Prop := fun x lo hi H Q => ∃ a xs, x = .ref a ∧ SqT K H a xs ∧
 ¬ (HT.sIx xs.length 0 lo = 0 ∧ HT.sIx xs.length xs.length hi = xs.length) ∧ ∀ p, H p = none → Q (.ref p) (upd H p (.tup (cutV xs lo hi)))
theorem sl_tup : SlR X (rSlT X.K) := by
 intro pins s σ H x v vl vu lo hi sl Q I rx hs pl pu h
 obtain ⟨a, xs, rfl, hx, hw, q⟩ := h
 cases rx
 obtain ⟨its, r, ht, hz⟩ := I.tuple hx
 have hlen : its.toArray.size = xs.length := by rw [List.size_toArray]; exact r.length.symm
 refine ⟨"tuple", _, PyProof.Rows.slot_tuple_getitem.lookup, ht.typeIs, ?_⟩
 refine HT.getItem_tuple_cut ht hs pl pu (by rw [hlen]; exact hw) ?_ (by rw [hlen]; exact hz)
 rw [hlen]
 refine ⟨.ref s.heap.objs.size, _, I.laid (t' := s.toks) (o := .tup (cutV xs lo hi)) (fun b ob q => Heap.get?_push_of_some _ q) (Nat.le_refl _) ?_, rfl, q _ (I.hok.fresh (Nat.le_refl _))⟩
 exact ⟨Nat.le_trans (cutV_length xs lo hi) hz, _, (r.drop (HT.sIx xs.length 0 lo)).take (HT.sIx xs.length xs.length hi - HT.sIx xs.length 0 lo), IsTup.new _ _⟩
end
end L2
namespace L2
open PySem PySem.Spec PyProof.Rows
def ixN (n : Nat) (i : Int) : Option Nat := if 0 ≤ i then (if i < n then some i.toNat else none) else if -(n : Int) ≤ i then some (i + n).toNat else none
def atI {α : Type} (xs : List α) (i : Int) : Option α := (ixN xs.length i).bind fun j => xs[j]?
theorem ixN_seq {n : Nat} {i : Int} {j : Nat} (h : ixN n i = some j) : seqIndex? i n = some j ∧ j < n ∧ -(n : Int) ≤ i ∧ i < n := by
 unfold ixN at h
 by_cases h0 : 0 ≤ i
 ·rw [if_pos h0] at h
  by_cases h1 : i < n
  ·rw [if_pos h1] at h
   have e : i.toNat = j := Option.some.inj h
   exact ⟨by rw [seqIndex_of h0 h1, e], by omega, by omega, h1⟩
  ·rw [if_neg h1] at h; cases h
 ·rw [if_neg h0] at h
  by_cases h1 : -(n : Int) ≤ i
  ·rw [if_pos h1] at h
   have e : (i + n).toNat = j := Option.some.inj h
   exact ⟨by rw [seqIndex_neg (by omega) h1, e], by omega, h1, by omega⟩
  ·rw [if_neg h1] at h; cases h
theorem atI_get {α : Type} {xs : List α} {i : Int} {v : α} (h : atI xs i = some v) : ∃ j, seqIndex? i xs.length = some j ∧ xs[j]? = some v ∧ j < xs.length ∧ -(xs.length : Int) ≤ i ∧ i < xs.length := by
 unfold atI at h
 cases e : ixN xs.length i with
 | none => rw [e] at h; cases h
 | some j =>
  rw [e] at h
  obtain ⟨h1, h2, h3, h4⟩ := ixN_seq e
  exact ⟨j, h1, h, h2, h3, h4⟩
theorem atI_nat {α : Type} {xs : List α} {j : Nat} {v : α} (h : xs[j]? = some v) : atI xs (j : Int) = some v := by
 have hj : j < xs.length := (List.getElem?_eq_some_iff.mp h).1
 have e : ixN xs.length (j : Int) = some j := by
  unfold ixN
  rw [if_pos (by omega), if_pos (by omega)]; simp
 unfold atI; rw [e]; exact h
theorem atI_last {α : Type} (xs : List α) (v : α) : atI (xs ++ [v]) (-1) = some v := by
 have hl : (xs ++ [v]).length = xs.length + 1 := by simp
 have e : ixN (xs ++ [v]).length (-1) = some xs.length := by
  unfold ixN
  rw [hl, if_neg (by decide), if_pos (by omega)]
  congr 1
  omega
 unfold atI
 rw [e]
 show (xs ++ [v])[xs.length]? = some v
 simp
def PlainIx (b : Expr) : Prop := ∀ o i, subscripted b false o i = operate [o, i] (getItem o i)
def IxR (X : Cx) (r : R2) : Prop :=
 ∀ (value slice : Expr) (pins : List (Addr × Obj)) (s : Shared) (σ : St) (H : Hp) (x y : V) (v u : Value) (Q : VK), Inv X pins σ H s → RelV x v → RelV y u → r x y H Q →
  subscripted slice false v u = operate [v, u] (getItem v u) → wpAny (model X.prog X.w) X.A (subscriptTail value slice v u) (EP X pins σ Q) X.xe s
def MtR (X : Cx) (id : String) (r : V → List V → Hp → VK → Prop) : Prop :=
 ∀ (pins : List (Addr × Obj)) (s : Shared) (σ : St) (H : Hp) (x : V) (xs : List V) (v : Value) (us : List Value) (Q : VK), Inv X pins σ H s → RelV x v → Vals xs us → r x xs H Q →
  wpAny (model X.prog X.w) X.A (call (.builtin id) (v :: us)) (EP X pins σ Q) X.xe s
section
variable {X : Cx} {a b : Expr} {ta tb : TE} {pos : Pos}
theorem pe_ix {r : R2} (hr : IxR X r) (ha : PE X a ta) (hb : PE X b tb) (hs : PlainIx b) : PE X (.Subscript a b pos) (tOp r ta tb) := by
 intro pins s σ H Q I h
 exact Subscript_ (binT ha hb I h fun v u s2 x y H2 I2 rx ry q => hr a b pins s2 σ H2 x y v u Q I2 rx ry q (hs _ _))
def rIxL (K : PySem.W.Frag) : R2 := fun x y H Q => ∃ p xs i v, x = .ref p ∧ y = .int i ∧ SqL K H p xs ∧ atI xs i = some v ∧ Q v H
def rIxT (K : PySem.W.Frag) : R2 := fun x y H Q => ∃ p xs i v, x = .ref p ∧ y = .int i ∧ SqT K H p xs ∧ atI xs i = some v ∧ Q v H
theorem ix_list : IxR X (rIxL X.K) := by
 intro value slice pins s σ H x y v u Q I rx ry h hs
 obtain ⟨p, xs, i, z, rfl, rfl, hq, he, q⟩ := h
 cases rx
 obtain ⟨t, rfl⟩ := ry
 obtain ⟨its, r, pl, hz⟩ := I.list hq
 obtain ⟨j, h1, h2, h3, h4, h5⟩ := atI_get he
 obtain ⟨w, ew, rw'⟩ := r.get h2
 have hl := r.length
 have hn := line63
 have fin : EP X pins σ Q w s := ⟨z, H, I, rw', q⟩
 by_cases h0 : 0 ≤ i
 ·have hj : i.toNat = j := by
   rw [seqIndex_of h0 h5] at h1
   exact Option.some.inj h1
  exact item_listR pl.isList h0 (by omega) (by rw [hj]; simpa using ew) fin hs
 ·have hj : (i + (its.toArray.size : Int)).toNat = j := by
   rw [seqIndex_neg (by omega) h4] at h1
   rw [List.size_toArray, ← hl]
   exact Option.some.inj h1
  exact subscriptTail_builtinR (x := w) pl.isList.typeIs slot_list_getitem.lookup
   (wpAny_getItem_list_neg (Q := fun r s' => r = w ∧ EP X pins σ Q r s') pl.isList (by omega) (by rw [List.size_toArray] <;> omega) (by omega) (by rw [hj]; simpa using ew) ⟨rfl, fin⟩) hs
theorem ix_tup : IxR X (rIxT X.K) := by
 intro value slice pins s σ H x y v u Q I rx ry h hs
 obtain ⟨p, xs, i, z, rfl, rfl, hq, he, q⟩ := h
 cases rx
 obtain ⟨t, rfl⟩ := ry
 obtain ⟨its, r, pl, hz⟩ := I.tuple hq
 obtain ⟨j, h1, h2, h3, h4, h5⟩ := atI_get he
 obtain ⟨w, ew, rw'⟩ := r.get h2
 have hl := r.length
 have hn := line63
 have fin : EP X pins σ Q w s := ⟨z, H, I, rw', q⟩
 exact subscriptTail_builtinR (x := w) pl.typeIs slot_tuple_getitem.lookup
  (getItem_tuple (j := j) (Q := fun r s' => r = w ∧ EP X pins σ Q r s') pl (by omega) (by omega) (by rw [List.size_toArray, ← hl]; exact h1) (by simpa using ew) ⟨rfl, fin⟩) hs
theorem mapSeq_set (its : List Value) (n j : Nat) (u : Value) : Obj.mapSeq (·.setIfInBounds j u) { cls := .type "list", data := .seq its.toArray n } = { cls := .type "list", data := .seq (its.set j u).toArray n } := by
 simp [Obj.mapSeq]
theorem Inv.lst {pins : List (Addr × Obj)} {σ : St} {H : Hp} {s : Shared} {p : Addr} {xs : List V} (I : Inv X pins σ H s) (h : H p = some (.lst xs)) :
  ∃ (its : List Value) (n : Nat), Vals xs its ∧ s.heap.get? p = some { cls := .type "list", data := .seq its.toArray n } ∧ xs.length ≤ sizeLine := by
 obtain ⟨z, its, n, r, e⟩ := I.hok p _ h
 exact ⟨its, n, r, e, z⟩
theorem Inv.lstUpd {pins : List (Addr × Obj)} {σ : St} {H : Hp} {s : Shared} {p : Addr} {xs ys : List V} {its its' : List Value} {n n' : Nat} {f : Obj → Obj} (I : Inv X pins σ H s) (h : H p = some (.lst xs))
  (ho : s.heap.get? p = some { cls := .type "list", data := .seq its.toArray n }) (hf : f { cls := .type "list", data := .seq its.toArray n } = { cls := .type "list", data := .seq its'.toArray n' }) (r : Vals ys its') (hz : ys.length ≤ sizeLine) (t : Nat) :
  Inv X pins σ (upd H p (.lst ys)) { s with heap := s.heap.update p f, toks := t } := by
 have e : (s.heap.update p f).get? p = some { cls := .type "list", data := .seq its'.toArray n' } := by
  rw [Heap.get?_update_self f ho (by rw [hf] <;> rfl), hf]
 refine I.write (x := p) (e := p) (by rw [h]; trivial) (.inl rfl) (fun b u hb q => (Heap.get?_update_other _ _ (Ne.symm hb)).trans q) ⟨_, e⟩ ?_
 exact ⟨hz, its', n', r, e⟩
def rSetL : V → V → V → Hp → (Hp → Prop) → Prop := fun o i v H Q => ∃ p xs k j, o = .ref p ∧ i = .int k ∧ H p = some (.lst xs) ∧ ixN xs.length k = some j ∧ Q (upd H p (.lst (xs.set j v)))
theorem set_list : PSet X rSetL := by
 intro pins s σ H o i v ov iv u Q I ro ri rv h
 obtain ⟨p, xs, k, j, rfl, rfl, hp, hj, q⟩ := h
 cases ro
 obtain ⟨t, rfl⟩ := ri
 obtain ⟨its, n, r, ho, hz⟩ := I.lst hp
 obtain ⟨h1, h2, h3, h4⟩ := ixN_seq hj
 have hl := r.length
 have hn := line63
 have I' : Inv X pins σ (upd H p (.lst (xs.set j v))) { s with heap := s.heap.update p (Obj.mapSeq (·.setIfInBounds j u)) } :=
  I.lstUpd hp ho (mapSeq_set its n j u) (r.set rv j) (by rw [List.length_set]; exact hz) s.toks
 by_cases h0 : 0 ≤ k
 ·have hk : k.toNat = j := by
   rw [seqIndex_of h0 h4] at h1
   exact Option.some.inj h1
  exact PySem.W.ki_setAt ho h0 (by omega) (by rw [List.size_toArray, ← hl]; exact h4) (by rw [hk]; exact ⟨_, I', q⟩)
 ·have hk : (k + (its.toArray.size : Int)).toNat = j := by
   rw [seqIndex_neg (by omega) h3] at h1
   rw [List.size_toArray, ← hl]
   exact Option.some.inj h1
  exact PySem.W.ki_setBack ho (by omega) (by rw [List.size_toArray, ← hl]; exact h3) (by omega) (by rw [hk]; exact ⟨_, I', q⟩)
theorem slice_bounds (lo hi : Option Int) (n : Nat) : (sliceBounds lo hi none n).1 = ((HT.sIx n 0 lo : Nat) : Int) ∧ (sliceBounds lo hi none n).2.1 = ((HT.sIx n n hi : Nat) : Int) ∧ (sliceBounds lo hi none n).2.2 = 1 := by
 refine ⟨?_, ?_, rfl⟩
 ·cases lo with
  | none => simp [sliceBounds, HT.sIx]
  | some i =>
   simp only [sliceBounds, HT.sIx, Option.getD_none, show (1 : Int) > 0 by decide, if_true]
   by_cases h : i < 0
   ·simp only [h, if_true] <;> omega
   ·simp only [h, if_false] <;> omega
 ·cases hi with
  | none => simp [sliceBounds, HT.sIx]
  | some i =>
   simp only [sliceBounds, HT.sIx, Option.getD_none, show (1 : Int) > 0 by decide, if_true]
   by_cases h : i < 0
   ·simp only [h, if_true] <;> omega
   ·simp only [h, if_false] <;> omega
theorem slicePick_cut (its : List Value) (lo hi : Option Int) : slicePick its.toArray lo hi none = ((its.drop (HT.sIx its.length 0 lo)).take (HT.sIx its.length its.length hi - HT.sIx its.length 0 lo)).toArray := by
 obtain ⟨h1, h2, h3⟩ := slice_bounds lo hi its.toArray.size
 unfold slicePick
 rw [h1, h2, h3]
 simp only [sliceRange_one, pick_run, List.size_toArray] <;> rfl
def rSlL (K : PySem.W.Frag) : V → Option Int → Option Int → Hp → VK → Prop := fun x lo hi H Q => ∃ a xs, x = .ref a ∧ SqL K H a xs ∧ ∀ p, H p = none → Q (.ref p) (upd H p (.lst (cutV xs lo hi)))
theorem sl_list : SlR X (rSlL X.K) := by
 intro pins s σ H x v vl vu lo hi sl Q I rx hs pl pu h
 obtain ⟨a, xs, rfl, hx, q⟩ := h
 cases rx
 obtain ⟨its, r, ht, hz⟩ := I.list hx
 have hlen := r.length
 refine ⟨"list", _, slot_list_getitem.lookup, ht.isList.typeIs, ?_⟩
 refine wpAny_getItem_list_slice ht.isList hs pl pu .none (by simp) ?_ (by rw [List.size_toArray] <;> omega)
 rw [slicePick_cut, ← hlen]
 refine ⟨.ref s.heap.objs.size, _, I.laid (t' := s.toks) (o := .lst (cutV xs lo hi)) (fun b ob q => Heap.get?_push_of_some _ q) (Nat.le_refl _) ?_, rfl, q _ (I.hok.fresh (Nat.le_refl _))⟩
 exact ⟨Nat.le_trans (cutV_length xs lo hi) hz, _, 0, (r.drop (HT.sIx xs.length 0 lo)).take (HT.sIx xs.length xs.length hi - HT.sIx xs.length 0 lo), Heap.get?_push_size _ rfl⟩
theorem call_len_seq : CallR X (.builtin "len") (fun xs H Q => ∃ p ys, xs = [.ref p] ∧ (SqL X.K H p ys ∨ SqT X.K H p ys) ∧ Q (.int ys.length) H) := by
 intro pins s σ H xs us Q I r h
 obtain ⟨p, ys, rfl, hq, q⟩ := h
 obtain ⟨u, rfl, rx⟩ := vals1 r
 cases rx
 have hn := line63
 rcases hq with hq | hq
 ·obtain ⟨its, r', pl, hz⟩ := I.list hq
  have hlen := r'.length
  exact Calls.call_len_list pl.isList (by simp only [List.size_toArray] <;> omega) ⟨.int ys.length, H, I.tok _, ⟨s.toks + 1, by rw [List.size_toArray, hlen]⟩, q⟩
 ·obtain ⟨its, r', pl, hz⟩ := I.tuple hq
  have hlen := r'.length
  exact len_tuple pl (by simp only [List.size_toArray] <;> omega) ⟨.int ys.length, H, I.tok _, ⟨s.toks + 1, by rw [List.size_toArray, hlen]⟩, q⟩
theorem call_list_of : CallR X (.type "list") (fun xs H Q => ∃ p ys, xs = [.ref p] ∧ (SqL X.K H p ys ∨ SqT X.K H p ys) ∧ ∀ l, H l = none → Q (.ref l) (upd H l (.lst ys))) := by
 intro pins s σ H xs us Q I r h
 obtain ⟨p, ys, rfl, hq, q⟩ := h
 obtain ⟨u, rfl, rx⟩ := vals1 r
 cases rx
 have fin : ∀ (its : List Value), Vals ys its → ys.length ≤ sizeLine → ∀ (h' : Heap) (c' : Nat), (∀ b o', s.heap.get? b = some o' → h'.get? b = some o') →
   h'.get? s.heap.objs.size = some { cls := .type "list", dict := none, data := .seq its.toArray c', slots := #[] } → EP X pins σ Q (.ref s.heap.objs.size) { s with heap := h' } := fun its r' hz h' c' kp e =>
  ⟨.ref s.heap.objs.size, _, I.laid (t' := s.toks) kp (Nat.le_refl _) (show ObjOk X.prog X.w _ h' _ (.lst ys) from ⟨hz, its, c', r', e⟩), rfl, q _ (I.hok.fresh (Nat.le_refl _))⟩
 rcases hq with hq | hq
 ·obtain ⟨its, r', pl, hz⟩ := I.list hq
  have hlen := r'.length
  obtain ⟨o, ho, hc, n, hd⟩ := pl.isList
  exact call_list_seq p (.inl rfl) ho hc hd (fun h' c' kp e => fin its r' hz h' c' kp e) (by simp only [List.size_toArray] <;> omega)
 ·obtain ⟨its, r', pl, hz⟩ := I.tuple hq
  have hlen := r'.length
  obtain ⟨o, ho, hc, n, hd⟩ := pl
  exact call_list_seq p (.inr rfl) ho hc hd (fun h' c' kp e => fin its r' hz h' c' kp e) (by simp only [List.size_toArray] <;> omega)
theorem call_tuple_of : CallR X (.type "tuple") (fun xs H Q => ∃ p ys, xs = [.ref p] ∧ ((SqL X.K H p ys ∧ ∀ l, H l = none → Q (.ref l) (upd H l (.tup ys))) ∨ (SqT X.K H p ys ∧ Q (.ref p) H))) := by
 intro pins s σ H xs us Q I r h
 obtain ⟨p, ys, rfl, h⟩ := h
 obtain ⟨u, rfl, rx⟩ := vals1 r
 cases rx
 rcases h with ⟨hq, q⟩ | ⟨hq, q⟩
 ·obtain ⟨its, r', pl, hz⟩ := I.list hq
  have hlen := r'.length
  refine call_tuple_list pl.isList (fun h' kp => ?_) (by simp only [List.size_toArray] <;> omega)
  have I1 : Inv X pins σ H { s with heap := h' } := I.kept (t' := s.toks) kp
  have I2 : Inv X pins σ (upd H h'.objs.size (.tup ys)) { s with heap := h'.push { cls := .type "tuple", data := .seq its.toArray } } :=
   I1.laid (t' := s.toks) (fun b o e => Heap.get?_push_of_some _ e) (Nat.le_refl _) (show ObjOk X.prog X.w _ _ _ (.tup ys) from ⟨hz, its, r', IsTup.new _ _⟩)
  exact ⟨.ref h'.objs.size, _, I2, rfl, q _ (I1.hok.fresh (Nat.le_refl _))⟩
 ·obtain ⟨its, r', pl, hz⟩ := I.tuple hq
  exact call_tuple_same pl ⟨.ref p, H, I, rfl, q⟩
def tyV (K : PySem.W.Frag) (T : String) (x : V) (H : Hp) : Prop := match x with
 | .str _ => T = "str"
 | .int _ => T = "int"
 | .ref p => (T = "list" ∧ ∃ xs, SqL K H p xs) ∨ (T = "tuple" ∧ ∃ o, K.lookup p = some o ∧ o.cls = .type "tuple" ∧ o.dict = none) ∨
   (T = "dict" ∧ ((∃ kvs, H p = some (.dK kvs)) ∨ ∃ kvs, H p = some (.dT kvs))) ∨ (T = "set" ∧ ∃ S n, H p = some (.set S n))
 | _ => False
theorem tyV_is {pins : List (Addr × Obj)} {σ : St} {H : Hp} {s : Shared} {T : String} {x : V} {v : Value} (I : Inv X pins σ H s) (r : RelV x v) (ty : tyV X.K T x H) :
  s.TypeIs v T ∧ ∀ a, v = .ref a → ∃ ob, s.heap.get? a = some ob ∧ ob.dict = none := by
 cases x with
 | str z =>
  obtain ⟨t, rfl⟩ := r
  cases (show T = "str" from ty)
  exact ⟨typeIs_str s z t, fun _ e => nomatch e⟩
 | int i =>
  obtain ⟨t, rfl⟩ := r
  cases (show T = "int" from ty)
  exact ⟨typeIs_int s i t, fun _ e => nomatch e⟩
 | ref p =>
  cases r
  rcases ty with ⟨rfl, xs, hq⟩ | ⟨rfl, o, hk, hc, hd⟩ | ⟨rfl, hk⟩ | ⟨rfl, S, n, hk⟩
  ·obtain ⟨its, _, pl, _⟩ := I.list hq
   refine ⟨pl.isList.typeIs, fun a e => ?_⟩
   cases e
   obtain ⟨o, n, e, c, hd, _⟩ := pl
   exact ⟨o, e, hd⟩
  ·refine ⟨⟨o, I.kIn p o hk, hc⟩, fun a e => ?_⟩
   cases e
   exact ⟨o, I.kIn _ o hk, hd⟩
  ·have z : ∃ o, s.heap.get? p = some o ∧ o.ExactDict := by
    rcases hk with ⟨kvs, hk⟩ | ⟨kvs, hk⟩
    ·obtain ⟨_, _, _, _, o, _, _, e, ex, _⟩ := I.hok p _ hk
     exact ⟨o, e, ex⟩
    ·obtain ⟨_, _, _, _, o, _, _, e, ex, _⟩ := I.hok p _ hk
     exact ⟨o, e, ex⟩
   obtain ⟨o, e, ex⟩ := z
   refine ⟨⟨o, e, ex.1⟩, fun a e2 => ?_⟩
   cases e2
   exact ⟨o, e, ex.2.1⟩
  ·obtain ⟨o, _, _, _, e, ex, _⟩ := I.hok p _ hk
   refine ⟨⟨o, e, ex.1⟩, fun a e2 => ?_⟩
   cases e2
   exact ⟨o, e, ex.2.1⟩
 | _ => exact False.elim ty
def tBM0 (K : PySem.W.Frag) (T : String) (r : V → List V → Hp → VK → Prop) (to : TE) : TE := fun σ H Q => to σ H fun x H1 => tyV K T x H1 ∧ r x [] H1 Q
def tBM (K : PySem.W.Frag) (T : String) (r : V → List V → Hp → VK → Prop) (to : TE) (t : TA) : TE := fun σ H Q => to σ H fun x H1 => tyV K T x H1 ∧ t σ H1 fun xs H2 => r x xs H2 Q
variable {o e : Expr} {es : List Expr} {to : TE} {t : TA} {name : Str} {apos cpos : Pos} {T id : String} {r : V → List V → Hp → VK → Prop}
theorem pe_bm0 (pa : PlainAttrs T) (slot : Slot T name id) (hty : typeOf (.builtin id) = pure (.type "method_descriptor")) (hm : MtR X id r) (ho : PE X o to)
  (hbase : attributeBase o name X.env (eval o X.env) = eval o X.env := by rfl) (hline : (apos.endLine == cpos.line) = true := by rfl) : PE X (.Call (.Attribute o name apos) [] [] cpos) (tBM0 X.K T r to) := by
 intro pins s σ H Q I h
 refine wpAny_Call_method0_late hbase hline (thn (ho pins s σ H _ I h) fun v s1 ⟨x, H1, I1, r1, ty, q1⟩ => ?_)
 obtain ⟨h1, h2⟩ := tyV_is I1 r1 ty
 exact ⟨T, id, pa, slot, hty, h1, h2, Calls.callWith_builtin rfl (PySem.evalArgs_none (hm pins s1 σ H1 x [] v [] Q I1 r1 .nil q1))⟩
theorem pe_bm (pa : PlainAttrs T) (slot : Slot T name id) (hty : typeOf (.builtin id) = pure (.type "method_descriptor")) (hm : MtR X id r) (ho : PE X o to) (ha : PA X (e :: es) t)
  (hbase : attributeBase o name X.env (eval o X.env) = eval o X.env := by rfl)
  (hfew : ((backTo cpos (starEach (e :: es) X.env)).all (fun x => !x.1) && (backToKw cpos (keywordEach [] X.env)).all (fun x => x.1.isSome)
   && decide ((e :: es).length + ([] : List Keyword).length + (if ([] : List Keyword).isEmpty then 0 else 1) < 30)) = true := by rfl)
  (hline : (apos.endLine == cpos.line) = true := by rfl) (hs : starEach (e :: es) X.env = (false, eval e X.env) :: starEach es X.env := by rfl) (hplain : (backTo cpos (starEach es X.env)).any (·.1) = false := by rfl) :
  PE X (.Call (.Attribute o name apos) (e :: es) [] cpos) (tBM X.K T r to t) := by
 intro pins s σ H Q I h
 refine wpAny_Call_method_late hbase hfew hline rfl (thn (ho pins s σ H _ I h) fun v s1 ⟨x, H1, I1, r1, ty, q1⟩ => ?_)
 obtain ⟨h1, h2⟩ := tyV_is I1 r1 ty
 refine ⟨T, id, pa, slot, hty, h1, h2, ?_⟩
 have hA := ha cpos pins s1 σ H1 _ I1 q1
 rw [hs] at hA ⊢
 refine Calls.callWith_builtin (by show (false || (backTo cpos (starEach es X.env)).any (·.1)) = false; rw [hplain] <;> rfl) (Calls.evalArgs_plain ?_)
 exact thn hA fun us s2 ⟨vs, H2, I2, r2, q2⟩ => hm pins s2 σ H2 x vs v us Q I2 r1 r2 q2
/- xs.append(e), list.index on a module's tuple .. are MtR facts of 06m -/
end
end L2
namespace L2
open PySem PySem.Spec PyProof.Rows
def MtM (X : Cx) (id : String) (r : V → List V → Hp → VK → Prop) : Prop :=
 ∀ (pins : List (Addr × Obj)) (s : Shared) (σ : St) (H : Hp) (x : V) (xs : List V) (v : Value) (us : List Value) (Q : VK), Inv X pins σ H s → RelV x v → Vals xs us → r x xs H Q →
  wpAny (model X.prog X.w) X.A (call (.builtin id) (v :: us)) (EP X pins σ Q) X.xe s
theorem Vals.one : ∀ {x : V} {us : List Value}, Vals [x] us → ∃ u, us = [u] ∧ RelV x u
 | _, _, .cons r .nil => ⟨_, rfl, r⟩
theorem Vals.two : ∀ {x y : V} {us : List Value}, Vals [x, y] us → ∃ u v, us = [u, v] ∧ RelV x u ∧ RelV y v
 | _, _, _, .cons r (.cons q .nil) => ⟨_, _, rfl, r, q⟩
theorem Vals.zero : ∀ {us : List Value}, Vals [] us → us = []
 | _, .nil => rfl
theorem Vals.reverse {xs : List V} {us : List Value} (h : Vals xs us) : Vals xs.reverse us.reverse := by
 induction h with
 | nil => exact .nil
 | cons r t ih => rw [List.reverse_cons, List.reverse_cons]; exact Vals.append ih (.cons r .nil)
theorem Vals.rep {xs : List V} {us : List Value} (h : Vals xs us) : ∀ k : Nat, Vals (List.replicate k xs).flatten (List.replicate k us).flatten
 | 0 => .nil
 | k + 1 => by
  rw [List.replicate_succ, List.replicate_succ, List.flatten_cons, List.flatten_cons]
  exact Vals.append h (Vals.rep h k)
theorem foldl_rep (its : List Value) : ∀ (k : Nat) (acc : List Value),
  List.foldl (fun x1 x2 => x1 ++ x2) acc.toArray (List.replicate k its.toArray) = (acc ++ (List.replicate k its).flatten).toArray
 | 0, acc => by simp
 | k + 1, acc => by
  have e : acc.toArray ++ its.toArray = (acc ++ its).toArray := by simp
  have e2 : (acc ++ its) ++ (List.replicate k its).flatten = acc ++ (List.replicate (k + 1) its).flatten := by
   rw [List.replicate_succ, List.flatten_cons, List.append_assoc]
  rw [← e2, ← foldl_rep its k (acc ++ its), ← e, List.replicate_succ, List.foldl_cons]
section
variable {X : Cx} {pins : List (Addr × Obj)} {σ : St} {H : Hp} {s : Shared} {l b : Addr} {xs ys zs : List V}
theorem Inv.lset {its its' : List Value} {n : Nat} {f : Array Value → Array Value} {t' : Nat} (I : Inv X pins σ H s) (hH : H l = some (.lst xs))
  (e : s.heap.get? l = some { cls := .type "list", data := .seq its.toArray n }) (hf : f its.toArray = its'.toArray) (hv : Vals ys its') (hz : ys.length ≤ sizeLine) :
  Inv X pins σ (upd H l (.lst ys)) { s with heap := s.heap.update l (Obj.mapSeq f), toks := t' } := by
 have q := PySem.IsL.update e f
 rw [hf] at q
 refine I.write (x := l) (e := l) (by rw [hH]; exact trivial) (.inl rfl) (fun b' u hb hu => (Heap.get?_update_other s.heap (Obj.mapSeq f) (Ne.symm hb)).trans hu) ⟨_, q⟩ ?_
 exact ⟨hz, its', _, hv, q⟩
theorem Inv.lnew {its : List Value} {t' : Nat} (I : Inv X pins σ H s) (hv : Vals ys its) (hz : ys.length ≤ sizeLine) :
  Inv X pins σ (upd H s.heap.objs.size (.lst ys)) { s with heap := s.heap.push { cls := .type "list", data := .seq its.toArray }, toks := t' } :=
 I.laid (fun _ _ q => Heap.get?_push_of_some _ q) (Nat.le_refl _) ⟨hz, its, 0, hv, Heap.get?_push_size _ rfl⟩
theorem Inv.fresh (I : Inv X pins σ H s) : H s.heap.objs.size = none := I.hok.fresh (Nat.le_refl _)
theorem Inv.lstM (I : Inv X pins σ H s) (hH : H l = some (.lst xs)) : xs.length ≤ sizeLine ∧ ∃ (its : List Value) (n : Nat), Vals xs its ∧ xs.length = its.length ∧ s.heap.get? l = some { cls := .type "list", data := .seq its.toArray n } := by
 obtain ⟨z, its, n, r, e⟩ := I.hok l _ hH
 exact ⟨z, its, n, r, r.length, e⟩
theorem notLongL {n : Nat} (h : n ≤ sizeLine) : Builtin.List.listTooLong n = false := by
 unfold Builtin.List.listTooLong
 exact decide_eq_false (by omega)
end
section
variable {X : Cx}
def rAppend : V → List V → Hp → VK → Prop := fun x vs H Q => ∃ l xs y, x = .ref l ∧ vs = [y] ∧ H l = some (.lst xs) ∧ xs.length < sizeLine ∧ Q .non (upd H l (.lst (xs ++ [y])))
theorem mt_append : MtM X "list.append" rAppend := by
 intro pins s σ H x vs v us Q I rx rv h
 obtain ⟨l, xs, y, rfl, rfl, hH, hz, q⟩ := h
 cases rx
 obtain ⟨u, rfl, ru⟩ := rv.one
 obtain ⟨z, its, n, r, hl, e⟩ := I.lstM hH
 refine call_meets F.slot_list_append ⟨_, e, rfl⟩ F.entry_list_append (F.args_list_append_2 _ _) (PySem.list_append l its.toArray n u (by rw [List.size_toArray]; omega)) ⟨e, ?_⟩
 refine ⟨.non, _, I.lset (its' := its ++ [u]) hH e (by simp) (r.append (.cons ru .nil)) ?_, rfl, q⟩
 rw [List.length_append, List.length_singleton]
 omega
def rReverse : V → List V → Hp → VK → Prop := fun x vs H Q => ∃ l xs, x = .ref l ∧ vs = [] ∧ H l = some (.lst xs) ∧ Q .non (upd H l (.lst xs.reverse))
theorem mt_reverse : MtM X "list.reverse" rReverse := by
 intro pins s σ H x vs v us Q I rx rv h
 obtain ⟨l, xs, rfl, rfl, hH, q⟩ := h
 cases rx
 have hus := rv.zero
 subst hus
 obtain ⟨z, its, n, r, hl, e⟩ := I.lstM hH
 refine call_meets F.slot_list_reverse ⟨_, e, rfl⟩ F.entry_list_reverse (F.args_list_reverse_1 _) (AutoSeq1.list_reverse_list_0 l its.toArray n (by rw [List.size_toArray]; omega)) ⟨e, ?_⟩
 refine ⟨.non, _, I.lset (its' := its.reverse) hH e (by simp) r.reverse ?_, rfl, q⟩
 rw [List.length_reverse]
 omega
def rCat : R2 := fun x y H Q => ∃ l b xs zs, x = .ref l ∧ y = .ref b ∧ H l = some (.lst xs) ∧ H b = some (.lst zs) ∧ xs.length + zs.length ≤ sizeLine ∧ ∀ p, H p = none → Q (.ref p) (upd H p (.lst (xs ++ zs)))
theorem op_cat : OpR X (binaryOp .Add) rCat := by
 intro pins s σ H x y v u Q I rx ry h
 obtain ⟨l, b, xs, zs, rfl, rfl, hH, hB, hz, q⟩ := h
 cases rx
 cases ry
 obtain ⟨z, its, n, r, hl, e⟩ := I.lstM hH
 obtain ⟨z2, its2, n2, r2, hl2, e2⟩ := I.lstM hB
 refine PySem.P.add_list e e2 ?_ (by rw [List.size_toArray, List.size_toArray]; omega)
 have ea : its.toArray ++ its2.toArray = (its ++ its2).toArray := by simp
 rw [ea]
 exact ⟨.ref _, _, I.lnew (t' := s.toks) (r.append r2) (by rw [List.length_append]; omega), rfl, q _ I.fresh⟩
def rRep : R2 := fun x y H Q => ∃ l k xs, x = .ref l ∧ y = .int k ∧ H l = some (.lst xs) ∧ -(2 ^ 63) ≤ k ∧ k < 2 ^ 63 ∧ xs.length * k.toNat ≤ sizeLine ∧
 ∀ p, H p = none → Q (.ref p) (upd H p (.lst (List.replicate k.toNat xs).flatten))
theorem len_rep {α : Type} (xs : List α) (k : Nat) : (List.replicate k xs).flatten.length = k * xs.length := by
 induction k with
 | zero => simp
 | succ k ih => rw [List.replicate_succ, List.flatten_cons, List.length_append, ih, Nat.succ_mul, Nat.add_comm]
theorem op_rep : OpR X (binaryOp .Mult) rRep := by
 intro pins s σ H x y v u Q I rx ry h
 obtain ⟨l, k, xs, rfl, rfl, hH, h1, h2, hz, q⟩ := h
 cases rx
 obtain ⟨t, rfl⟩ := ry
 obtain ⟨z, its, n, r, hl, e⟩ := I.lstM hH
 have hlen : its.toArray.size * k.toNat ≤ sizeLine := by rw [List.size_toArray, ← hl]; exact hz
 have hcap : ¬ its.toArray.size * k.toNat > (2 ^ 63 - 1) / 8 := by
  have : (sizeLine : Nat) ≤ (2 ^ 63 - 1) / 8 := by decide
  omega
 have hfit : ¬ (!Builtin.List.listFitsIndex k) = true := by
  rw [fitsIndex_both h1 h2]
  exact Bool.false_ne_true
 have hlong : ¬ Builtin.List.listTooLong (its.toArray.size * k.toNat) = true := by
  rw [notLongL hlen]
  exact Bool.false_ne_true
 have hnew : List.foldl (fun x1 x2 => x1 ++ x2) #[] (List.replicate (if its.toArray.isEmpty = true then 0 else k.toNat) its.toArray) = (List.replicate k.toNat its).flatten.toArray := by
  have f0 : ∀ m : Nat, List.foldl (fun x1 x2 => x1 ++ x2) #[] (List.replicate m its.toArray) = (List.replicate m its).flatten.toArray := fun m => by
   have := foldl_rep its m []
   rw [List.nil_append] at this
   exact this
  rw [f0]
  cases its with
  | nil => simp
  | cons a r' => rw [if_neg (by simp)]
 refine wpAny_binaryOp_repeat_ref (T := "list") (U := "int") (by decide) ⟨_, e, rfl⟩ (fun s' => typeIs_int s' k t) noFill_list_mul F.fills_int_mul F.slot_int_rmul repeat_list F.slot_int_index.lookup
  (call_meets F.slot_int_rmul (typeIs_int s k t) F.entry_int_rmul (F.args_int_rmul_2 _ _) (int___rmul___int_list k t l its.toArray n)
   ⟨e, rfl, ⟨_, e, rfl⟩, call_meets F.slot_list_mul ⟨_, e, rfl⟩ F.entry_list_mul (F.args_list_mul_2 _ _) (AutoListH.list___mul___list_int_3 l its.toArray n k t hfit hcap hlong) ⟨e, ?_⟩⟩)
 rw [hnew]
 exact ⟨.ref _, _, I.lnew (t' := s.toks) (r.rep k.toNat) (by rw [len_rep, Nat.mul_comm]; exact hz), rfl, q _ I.fresh⟩
end
section
variable {prog : Program} {w : World} {A : Around} {E : Value → Shared → Prop} {s : Shared}
end
section
variable {X : Cx}
end
end L2
namespace Att
open PySem PySem.W PySem.Calls PyProof.Rows
theorem ints_of_wellAll {P : Params} {h : Heap} : ∀ (ns : List Int) (vs : List Value), WellAll P h vs (ns.map WData.int) → IntsAre vs ns := by
 intro ns
 induction ns with
 | nil =>
  intro vs w
  rw [List.map_nil] at w
  cases w
  exact .nil
 | cons n ns ih =>
  intro vs w
  rw [List.map_cons] at w
  cases w with
  | cons a b =>
   cases a
   exact .cons _ _ (ih _ b)
theorem script_of {l : OpenLaw} {n : Nat} (hn : l.most = some n) {P : Params} {h : Heap} {args : List WData} {vals : List Value}
  (hpre : l.row.toRowW.claim.pre args = true) (hwl : WellAll P h vals args) :
  ∃ a vs ns, vals = [Value.ref a] ∧ args = [WData.list (ns.map WData.int)] ∧ h.get? a = some { cls := .type "list", data := .seq vs.toArray } ∧ IntsAre vs ns ∧ ns.length ≤ n := by
 have hsh : WShape.hasAll [] args [.list .int] = true := (pre_splitW hpre).1
 have hc : l.pre.holds [] { args := args } = true := (pre_splitW hpre).2
 obtain ⟨d, r, rfl, h1, h2⟩ := hasAllW_cons hsh
 obtain rfl := hasAllW_nil h2
 obtain ⟨xs, rfl, h3⟩ := hasW_list h1
 obtain ⟨ns, rfl⟩ := items_int h3
 have hlen : ns.length ≤ n := by
  unfold OpenLaw.pre at hc
  have h4 : (WTm.not (.lt (.lit (.int (n : Int))) (.len (.arg 0)))).holds [] { args := [.list (ns.map .int)] } = true := by
   have h4 := (holds_andW hc).1
   rw [hn] at h4
   exact h4
  have h5 := condW_of h4 (w_not (w_lt w_lit (w_len_list (w_arg rfl))))
  rw [List.length_map] at h5
  refine Nat.le_of_not_lt fun q => ?_
  have q' : (n : Int) < ((ns.length : Nat) : Int) := by omega
  first
   | (rw [decide_eq_true q'] at h5; exact absurd h5 (by decide))
   | (simp at h5; omega)
 cases hwl with
 | cons w1 w2 =>
  cases w2
  cases w1 with
  | list ho hall => exact ⟨_, _, ns, rfl, rfl, ho, ints_of_wellAll ns _ hall, hlen⟩
theorem post_true (l : OpenLaw) (args : List WData) : l.row.toRowW.claim.post args (.bool true) args = true :=
 postW_of (r := l.row.toRowW) (X := (true == true))
  (show WShape.has [] (.bool true) .bool = true by first | rfl | decide | simp [WShape.has, WShape.arms, WShape.armsAll])
  (show (WTm.eq .res (.lit (.bool true))).value [] { args := args, res := some (.bool true), after := args } = some (.bool (true == true)) from w_eq_bool (w_res rfl) w_lit) rfl
theorem attach_call {l : OpenLaw} {n : Nat} {q : Program} {loose : List Str} {XP : (Str → Option Value) → Heap → Prop} {YP : World → Heap → Prop} {d : DefRec}
  (hn : l.most = some n) (hdf : d.params.defaults = [])
  (call : ∀ (w : World) (s₀ s₁ : Shared) (mg mb : Str → Option Value) (fa : Addr) (o : Obj) (pm cd doc : Value) (a : Addr) (vs : List Value) (ns : List Int),
   Ground q loose [] XP w s₀ mg mb s₁.heap → YP w s₁.heap →
   s₁.heap.get? fa = some o → o.data = .func (docDef d.name d.params d.body d.scope pm cd doc) → s₁.heap.CodeRec cd d.name → mg d.name = some (.ref fa) →
   s₁.heap.get? a = some { cls := .type "list", data := .seq vs.toArray } → IntsAre vs ns → ns.length ≤ n → s₁.gens = #[] →
   codeAny (model l.prog w) callerA (.call (.ref fa) ⟨[.ref a], []⟩) (fun r s' => r = .ok (.ret (.bool true)) ∧ OldK s₁.heap s'.heap ∧ s'.os = s₁.os ∧ AllBare s'.gens) s₁) :
  WalkO q loose XP YP l.row.toRowW d [] (fun f vs => PySem.call f vs) := by
 intro w s₀ s₁ mg mb G Y fa o pm cd doc dV kV ho hd hcd hD hmg hg args vals as hpre hlay hrd hwl hlo
 obtain rfl : dV = .none := Dflts.none hD hdf
 obtain rfl : kV = .none := Dflts.noKw hD
 obtain ⟨a, vs, ns, rfl, rfl, hobj, hints, hlen⟩ := script_of hn hpre hwl
 refine enter_call (codeAny_mono (call w s₀ s₁ mg mb fa o pm cd doc a vs ns G Y ho (fd_plain hd) hcd hmg hobj hints hlen hg) fun r s' hq => ?_)
 obtain ⟨rfl, h2, h3, h4⟩ := hq
 exact ⟨.inl ⟨.bool true, .bool true, [], rfl, fun _ => rfl, .bool true, post_true l _, fun _ => ⟨List.Pairwise.nil, fun _ hm => (nomatch hm)⟩⟩, h2, h3, h4⟩
section
variable {prog : Program} {w : World} {A : Around} {E : Value → Shared → Prop} {s : Shared} {K : Frag}
end
end Att
namespace L2
open PySem PySem.Spec PyProof.Rows
theorem vals_ints : ∀ {vs : List Value} {ns : List Int}, IntsAre vs ns → Vals (ns.map V.int) vs
 | _, _, .nil => .nil
 | _, _, .cons n t h => .cons ⟨t, rfl⟩ (vals_ints h)
def Only (H : Hp) : Prop := ∀ b, H b = none ∨ ∃ o xs, H b = some (.frz o (.lst xs))
theorem law_call {P : Program} {w : World} {K : PySem.W.Frag} {mg mb : Str → Option Value} {CX : CXT} {k : Nat} {fa a : Addr} {fd : FuncData} {x : Str} {sp : Sp} {s₁ : Shared} {vs : List Value} {ns : List Int}
  (KX : K.In s₁.heap) (hns : s₁.heap.Ns mainGlobals mg) (hb : s₁.heap.Ns builtinsNs mb) (hbb : ∀ x : Str, x ≠ "__name__" → mb x = bootBuiltins x) (hlim : s₁.heap.NoLimit) (hg : s₁.gens = #[])
  (ha : s₁.heap.get? a = some { cls := .type "list", data := .seq vs.toArray }) (hi : IntsAre vs ns) (hl : ns.length ≤ sizeLine) (hr : Room k callerA)
  (F : ∀ base : Heap, K.In base → base.Ns mainGlobals mg → FnOk P w K mg base CX k fa fd [x] sp) (hbind : ∀ (s : Shared) (u : Value), BindsTo s fd ⟨[u], []⟩ [(x, u)])
  (hsp : ∀ H : Hp, Only H → SqL K H a (ns.map V.int) → sp [.ref a] H (fun v _ => v = .bl true) fun _ _ _ => False)
  (hCX : ∀ H e s', CX [] H s₁ (fun _ _ _ => False) e s' → False) :
  codeAny (model P w) callerA (.call (.ref fa) ⟨[.ref a], []⟩) (fun r s' => r = .ok (.ret (.bool true)) ∧ OldK s₁.heap s'.heap ∧ s'.os = s₁.os ∧ AllBare s'.gens) s₁ := by
 have rv := vals_ints hi
 have lenV := hi.length
 have core : ∀ H : Hp, Only H → SqL K H a (ns.map V.int) → HOk P w H s₁.heap → (∀ b, H b ≠ none → b = a) → (H a ≠ none → K.lookup a = none) →
   codeAny (model P w) callerA (.call (.ref fa) ⟨[.ref a], []⟩) (fun r s' => r = .ok (.ret (.bool true)) ∧ OldK s₁.heap s'.heap ∧ s'.os = s₁.os ∧ AllBare s'.gens) s₁ := by
  intro H hO hS hok hA hK
  have base_of : ∀ {b : Addr} {o : Obj}, s₁.heap.get? b = some o → H b = none → (hidT s₁.heap H).get? b = some o := fun e n => hidT_get e n
  have noA : ∀ {b : Addr} {o : Obj} {es : Array DictEntry} {ep : Nat}, s₁.heap.get? b = some o → o.data = .dict es ep → H b = none := fun {b o es ep} e d => by
   cases q : H b with
   | none => rfl
   | some u =>
    have e' : b = a := hA b (by rw [q]; simp)
    subst e'
    rw [ha] at e; cases e
    have d' : Data.seq vs.toArray _ = Data.dict es ep := d
    cases d'
  have nsK : ∀ {b : Addr} {m : Str → Option Value}, s₁.heap.Ns b m → (hidT s₁.heap H).Ns b m := fun {b m} ⟨o, es, ep, e, d, r⟩ => ⟨o, es, ep, base_of e (noA e d), d, r⟩
  have hKb : K.In (hidT s₁.heap H) := fun b o e => base_of (KX b o e) (by
   cases q : H b with
   | none => rfl
   | some u =>
    have e' : b = a := hA b (by rw [q]; simp)
    subst e'
    rw [hK (by rw [q]; simp)] at e; cases e)
  have hM : Mod K mg (hidT s₁.heap H) := ⟨hKb, nsK hns, ⟨mb, nsK hb, hbb⟩, let ⟨mc, h1, h2⟩ := hlim; ⟨mc, nsK h1, h2⟩⟩
  have e0 : Env0 P w K mg (hidT s₁.heap H) callerA [] s₁ H := ⟨rfl, hM, fun b o e => of_hidT e, Nat.le_of_eq (hidT_size _ _), trivial, fun b hb => absurd (show b ∈ ([] : List Addr) from hb) (by simp), hok, .of_eq hg⟩
  refine codeAny_mono ((F _ hKb (nsK hns)).run callerA [] s₁ H ⟨[.ref a], []⟩ [.ref a] [.ref a] _ _ hr e0 (hbind s₁ (.ref a)) (.cons rfl .nil) (hsp H hO hS)) fun r s' h => ?_
  cases r with
  | error e => exact (hCX H e s' h).elim
  | ok fl =>
   cases fl with
   | next => exact False.elim h
   | brk => exact False.elim h
   | cont => exact False.elim h
   | ret u =>
    obtain ⟨v, H', os, bare, un, hok', r', q⟩ := h
    have q' : v = .bl true := q
    subst q'
    obtain rfl : u = Value.bool true := r'
    refine ⟨rfl, OldK.of_keep fun b o e => ?_, os, bare⟩
    cases q : H b with
    | none => exact un.keep b o e q (by intro z; exact absurd (show b ∈ ([] : List Addr) from z) (by simp)) (by simp)
    | some u =>
     rcases hO b with z | ⟨ob, xs, z⟩
     ·rw [q] at z; cases z
     ·have z2 := un.frzs b ob _ z
      obtain ⟨e1, _⟩ := hok b _ z
      obtain ⟨e2, _⟩ := hok' b _ z2
      rw [e] at e1; cases e1
      exact e2
 cases hk : K.lookup a with
 | some o =>
  have e := KX a o hk
  rw [ha] at e
  cases e
  refine core (fun _ => none) (fun _ => .inl rfl) (.inr ⟨_, vs.toArray, _, hk, rfl, rfl, rfl, by rw [List.size_toArray, lenV]; exact hl, by simpa using rv⟩) (fun b u z => by have z' : (none : Option HO) = some u := z; cases z') (fun b z => absurd rfl z) fun z => absurd rfl z
 | none =>
  refine core (fun b => if b = a then some (.frz { cls := .type "list", data := .seq vs.toArray } (.lst (ns.map V.int))) else none) (fun b => ?_) (.inl (.inr ⟨{ cls := .type "list", data := .seq vs.toArray }, if_pos rfl⟩)) (fun b u z => ?_) (fun b z => ?_) fun _ => hk
  ·by_cases hb : b = a
   ·exact .inr ⟨_, _, if_pos hb⟩
   ·exact .inl (if_neg hb)
  ·by_cases hb : b = a
   ·have z' := (if_pos hb).symm.trans z
    cases z'
    subst hb
    exact ⟨ha, by rw [List.length_map]; exact hl, vs, _, rv, ha⟩
   ·have z' := (if_neg hb).symm.trans z
    cases z'
  ·by_cases hb : b = a
   ·exact hb
   ·exact absurd (if_neg hb) z
end L2
namespace L2
open PySem PySem.Spec PyProof.Rows
abbrev KOf {K : PySem.W.Frag} {h : Heap} (_ : K.In h) : PySem.W.Frag := K
theorem walk_of {l : PySem.W.OpenLaw} {n k : Nat} {q : Program} {loose : List Str} {XP : (Str → Option Value) → Heap → Prop} {YP : World → Heap → Prop} {d : DefRec} {K : Params → PySem.W.Frag} {CX : World → CXT} {sp : World → Sp} {x : Str}
  (hn : l.most = some n) (hn2 : n ≤ sizeLine) (hdf : d.params.defaults = []) (hr : Room k callerA)
  (hY : ∀ (w : World) (h : Heap), YP w h → (K w.params).In h)
  (F : ∀ (w : World) (mg : Str → Option Value) (fa : Addr) (h : Heap), (K w.params).In h → h.Ns mainGlobals mg → mg d.name = some (.ref fa) →
   ∃ fd : FuncData, (∀ (s : Shared) (u : Value), BindsTo s fd ⟨[u], []⟩ [(x, u)]) ∧
    ∀ base : Heap, (K w.params).In base → base.Ns mainGlobals mg → FnOk l.prog w (K w.params) mg base (CX w) k fa fd [x] (sp w))
  (hsp : ∀ (w : World) (H : Hp) (a : Addr) (ns : List Int), ns.length ≤ n → Only H → SqL (K w.params) H a (ns.map V.int) → sp w [.ref a] H (fun v _ => v = .bl true) fun _ _ _ => False)
  (hCX : ∀ (w : World) (H : Hp) (s : Shared) (e : Value) (s' : Shared), CX w [] H s (fun _ _ _ => False) e s' → False) :
  PySem.W.WalkO q loose XP YP l.row.toRowW d [] (fun f vs => PySem.call f vs) := by
 refine Att.attach_call hn hdf fun w s₀ s₁ mg mb fa o pm cd doc a vs ns G Y ho hd hcd hmg hobj hints hlen hg => ?_
 have KX := hY w _ Y
 obtain ⟨fd, hb, hF⟩ := F w mg fa _ KX G.T.g hmg
 exact law_call KX G.T.g G.T.b G.T.builtins G.T.nolimit hg hobj hints (Nat.le_trans hlen hn2) hr hF hb (fun H hO hS => hsp w H a ns hlen hO hS) fun H e s' => hCX w H s₁ e s'
end L2
namespace L2
open PySem PySem.Spec PyProof.Rows
def defArgs (s : Stmt) : Arguments := match s with
 | .FunctionDef _ a _ _ _ _ _ _ _ _ => a
 | _ => { posonlyargs := [], args := [], vararg := none, kwonlyargs := [], kw_defaults := [], kwarg := none, defaults := [] }
def defBody (s : Stmt) : List Stmt := match s with
 | .FunctionDef _ _ b _ _ _ _ _ _ _ => b
 | _ => []
def defScope (s : Stmt) : Scope := match s with
 | .FunctionDef _ _ _ _ _ _ sc _ _ _ => sc
 | _ => { kind := .function, names := [], isGenerator := false, isCoroutine := false }
abbrev CX0 : CXT := fun _ _ _ _ _ _ => False
abbrev E0 : XK := fun _ _ _ => False
theorem pass0 {X : Cx} : Passes CX0 X E0 := fun _ _ _ _ _ _ _ h => h.elim
structure Fun (K : PySem.W.Frag) (x qual : Str) (st : Stmt) (f : Addr) (fd : FuncData) : Prop where
 ex : ∃ (oc : Value) (od : Option Addr) (kV doc pm : Value) (an : Option Addr) (cdv ct : Value) (osl : Array (Option Value)),
  fd = PySem.W.fnOf x qual (defArgs st) (defBody st) (defScope st) .none kV doc pm an cdv ct ∧ K.lookup f = some ⟨oc, od, .func fd, osl⟩ ∧ PySem.W.codeIn K cdv qual = true
 kp : PySem.W.keepIn K (.ref f) = true
section
variable {P : Program} {w : World} {K : PySem.W.Frag} {mg : Str → Option Value} {base : Heap}
theorem Fun.ok {x qual : Str} {st : Stmt} {f : Addr} {fd : FuncData} {N ps : List Str} {k : Nat} {sp : Sp} (F : Fun K x qual st f fd) (S : FnScope N ps (defScope st)) (len : ∀ vs H Q E, sp vs H Q E → vs.length = ps.length)
  (hbody : ∀ (cdv : Value) (A : Around) (outer : List Env) (s : Shared) (H : Hp) (vs : List V) (Q : VK) (E : XK), Room k (A.deeper (envOfC qual (defScope st) s.heap.objs.size f cdv)) → sp vs H Q E →
   ∃ t, PSs (cxOf CX0 P w K mg base N qual (defScope st) f cdv A outer s H E).nox (defBody st) t ∧ t { nx := fun _ H' => Q .non H', rt := Q } (start N vs) H) : FnOk P w K mg base CX0 (k + 1) f fd ps sp := by
 obtain ⟨oc, od, kV, doc, pm, an, cdv, ct, osl, rfl, lk, hcd⟩ := F.ex
 refine fn_of lk hcd S len fun A outer s H vs Q E hr hsp => ?_
 obtain ⟨t, h, q⟩ := hbody cdv A outer s H vs Q E hr hsp
 exact ⟨t, h.nox, q⟩
theorem Fun.binds {x qual : Str} {st : Stmt} {f : Addr} {fd : FuncData} {ps : List Str} (F : Fun K x qual st f fd)
  (h : ∀ (kV doc pm : Value) (an : Option Addr) (cdv ct : Value) (us : List Value), us.length = ps.length → bindArgs (PySem.W.fnOf x qual (defArgs st) (defBody st) (defScope st) .none kV doc pm an cdv ct) ⟨us, []⟩ = pure (ps.zip us)) : Binds K fd ps [] := by
 obtain ⟨oc, od, kV, doc, pm, an, cdv, ct, osl, rfl, lk, hcd⟩ := F.ex
 exact .all (h kV doc pm an cdv ct)
theorem fun_mk {x qual : Str} {st : Stmt} {f : Addr} {oc : Value} {od an : Option Addr} {osl : Array (Option Value)} {kV doc pm cdv ct : Value} (l : K.lookup f = some ⟨oc, od, .func (PySem.W.fnOf x qual (defArgs st) (defBody st) (defScope st) .none kV doc pm an cdv ct), osl⟩)
  (c : PySem.W.codeIn K cdv qual = true) (k : PySem.W.keepIn K (.ref f) = true) : Fun K x qual st f (PySem.W.fnOf x qual (defArgs st) (defBody st) (defScope st) .none kV doc pm an cdv ct) := ⟨⟨oc, od, kV, doc, pm, an, cdv, ct, osl, rfl, l, c⟩, k⟩
end
theorem hu_of {A : Around} {k : Nat} (hr : Room k A) : A.units + 1 < cLine := Nat.lt_of_le_of_lt (Nat.add_le_add_left (by decide : 1 ≤ 64) _) hr.units
section
variable {X : Cx}
theorem pv (i : Nat) {x : Str} {pos : Pos} (hN : X.N[i]? = some x := by rfl) (hv : Vis X.env.scope x := by first | exact Or.inl rfl | exact Or.inr (Or.inl rfl) | exact Or.inr (Or.inr rfl)) (hd : (x == ("__debug__" : Str)) = false := by decide)
  (hcd : (x == ("__classdict__" : Str)) = false := by decide) : PE X (.Name x pos) (tVar i) := pe_var hN hv hd hcd
end
theorem iteF {A B : Prop} (h : B) : if false = true then A else B := by
 rw [if_neg Bool.false_ne_true]
 exact h
theorem iteT {A B : Prop} (h : A) : if true = true then A else B := by
 rw [if_pos rfl]
 exact h
theorem ite2 {c A B : Prop} [Decidable c] (h1 : c → A) (h2 : ¬ c → B) : if c then A else B := by
 by_cases h : c
 ·rw [if_pos h]
  exact h1 h
 ·rw [if_neg h]
  exact h2 h
def Same (H H' : Hp) : Prop := ∀ b o, H b = some o → H' b = some o
theorem Same.refl (H : Hp) : Same H H := fun _ _ h => h
theorem Same.trans {H H1 H2 : Hp} (a : Same H H1) (b : Same H1 H2) : Same H H2 := fun c o h => b c o (a c o h)
theorem Same.free {H H' : Hp} (e : Same H H') {l : Addr} (h : H' l = Option.none) : H l = Option.none := by
 cases q : H l with
 | none => rfl
 | some o =>
  rw [e l o q] at h
  cases h
theorem Same.seq {K : PySem.W.Frag} {H H' : Hp} {a : Addr} {xs : List V} (e : Same H H') (h : SqL K H a xs) : SqL K H' a xs := by
 rcases h with (h | ⟨o, h⟩) | h
 ·exact .inl (.inl (e _ _ h))
 ·exact .inl (.inr ⟨o, e _ _ h⟩)
 ·exact .inr h
end L2
namespace L2
open PySem PySem.Spec PyProof.Rows
section
variable {κ : Type} [DecidableEq κ]
def valV (kvs : List (κ × V)) (k : κ) : Option V := (kvs.find? fun kv => decide (kv.1 = k)).map (·.2)
def putK (kvs : List (κ × V)) (k : κ) (v : V) : List (κ × V) :=
 if (kvs.any fun kv => decide (kv.1 = k)) = true then kvs.map (fun kv => if kv.1 = k then (kv.1, v) else kv) else kvs ++ [(k, v)]
theorem valV_pos {p : κ × V} {r : List (κ × V)} {k : κ} (e : p.1 = k) : valV (p :: r) k = some p.2 := by simp [valV, List.find?_cons, e]
theorem valV_neg {p : κ × V} {r : List (κ × V)} {k : κ} (e : ¬ p.1 = k) : valV (p :: r) k = valV r k := by simp [valV, List.find?_cons, e]
theorem valV_any (k : κ) : ∀ kvs : List (κ × V), (kvs.any fun kv => decide (kv.1 = k)) = (valV kvs k).isSome
 | [] => rfl
 | p :: r => by
  rw [List.any_cons]
  by_cases e : p.1 = k
  ·simp only [valV_pos e, decide_eq_true e, Bool.true_or, Option.isSome_some]
  ·rw [valV_neg e, decide_eq_false e, Bool.false_or]; exact valV_any k r
theorem length_putK (kvs : List (κ × V)) (k : κ) (v : V) : (putK kvs k v).length ≤ kvs.length + 1 := by
 unfold putK
 split
 ·rw [List.length_map]; omega
 ·rw [List.length_append, List.length_cons, List.length_nil]; omega
theorem putK_new {kvs : List (κ × V)} {k : κ} (v : V) (h : valV kvs k = none) : putK kvs k v = kvs ++ [(k, v)] := by
 unfold putK
 rw [valV_any, h]
 exact if_neg (by decide)
theorem RelO.isSome_eq {o : Option V} {u : Option Value} (r : RelO o u) : o.isSome = u.isSome := by
 cases o with
 | none => cases u with
  | none => rfl
  | some _ => exact (show False from r).elim
 | some _ => cases u with
  | none => exact (show False from r).elim
  | some _ => rfl
theorem KV.val {kvs : List (κ × V)} {vs : List (κ × Value)} (r : KV kvs vs) (k : κ) : RelO (valV kvs k) (valueAt vs k) := by
 unfold KV at r
 induction r with
 | nil => exact True.intro
 | @cons p q ps qs h t ih =>
  obtain ⟨h1, h2⟩ := h
  by_cases e : p.1 = k
  ·have e' : q.1 = k := h1.symm.trans e
   have b : valueAt (q :: qs) k = some q.2 := by simp [valueAt, List.find?_cons, e']
   rw [valV_pos e, b]; exact h2
  ·have e' : ¬ q.1 = k := fun z => e (h1.trans z)
   have b : valueAt (q :: qs) k = valueAt qs k := by simp [valueAt, List.find?_cons, e']
   rw [valV_neg e, b]; exact ih
theorem KV.any {kvs : List (κ × V)} {vs : List (κ × Value)} (r : KV kvs vs) (k : κ) : (kvs.any fun kv => decide (kv.1 = k)) = vs.any fun kv => decide (kv.1 = k) := by
 unfold KV at r
 induction r with
 | nil => rfl
 | cons h t ih => rw [List.any_cons, List.any_cons, ih, h.1]
theorem KV.repl {kvs : List (κ × V)} {vs : List (κ × Value)} (r : KV kvs vs) (k : κ) {y : V} {u : Value} (ry : RelV y u) :
  KV (kvs.map fun kv => if kv.1 = k then (kv.1, y) else kv) (vs.map fun kv => if kv.1 = k then (kv.1, u) else kv) := by
 unfold KV at r ⊢
 induction r with
 | nil => exact .nil
 | @cons p q ps qs h t ih =>
  rw [List.map_cons, List.map_cons]
  refine .cons ?_ ih
  obtain ⟨h1, h2⟩ := h
  by_cases e : p.1 = k
  ·rw [if_pos e, if_pos (h1.symm.trans e)]; exact ⟨h1, ry⟩
  ·rw [if_neg e, if_neg (fun z => e (h1.trans z))]; exact ⟨h1, h2⟩
theorem KV.put {kvs : List (κ × V)} {vs : List (κ × Value)} (r : KV kvs vs) (k : κ) {y : V} {u : Value} (ry : RelV y u) : KV (putK kvs k y) (stored vs k u) := by
 unfold putK stored
 rw [r.any k]
 by_cases e : (vs.any fun kv => decide (kv.1 = k)) = true
 ·rw [if_pos e, if_pos e]; exact r.repl k ry
 ·rw [if_neg e, if_neg e]; exact Paired.snoc r ⟨rfl, ry⟩
theorem KV.length {kvs : List (κ × V)} {vs : List (κ × Value)} (r : KV kvs vs) : kvs.length = vs.length := Paired.length r
end
theorem kV_is {P : Program} {w : World} {k : Key} {u : Value} (r : RelV (kV k) u) : (mixKind P w).is k u = true := by
 cases k with
 | inl i => obtain ⟨t, e⟩ := (show ∃ t, u = Value.int i t from r); subst e; exact mixKind_int P w i t
 | inr x => obtain ⟨t, e⟩ := (show ∃ t, u = Value.str x t from r); subst e; exact mixKind_str P w x t
theorem items_are {P : Program} {w : World} : ∀ {ks : List Key} {us : List Value}, Vals (ks.map kV) us → ItemsAre (mixKind P w) ks us
 | [], _, r => by rw [List.map_nil] at r; cases r; exact .nil
 | k :: ks, _, r => by
  rw [List.map_cons] at r
  cases r with
  | cons h t => exact .cons (kV_is h) (items_are t)
abbrev KT (H : Hp) : List (List Key × V) → List (List Key × Addr × Value) → Prop := Paired fun p q => p.1 = q.1 ∧ H q.2.1 = some (.tup (p.1.map kV)) ∧ RelV p.2 q.2.2
theorem KT.val {H : Hp} {kvs : List (List Key × V)} {xs : List (List Key × Addr × Value)} (r : KT H kvs xs) (k : List Key) : RelO (valV kvs k) ((atKey xs k).map (·.2)) := by
 induction r with
 | nil => exact True.intro
 | @cons p q ps qs h t ih =>
  obtain ⟨h1, _, h2⟩ := h
  by_cases e : p.1 = k
  ·have e' : q.1 = k := h1.symm.trans e
   have b : atKey (q :: qs) k = some q.2 := by simp [atKey, List.find?_cons, e']
   rw [valV_pos e, b]; exact h2
  ·have e' : ¬ q.1 = k := fun z => e (h1.trans z)
   have b : atKey (q :: qs) k = atKey qs k := by simp [atKey, List.find?_cons, e']
   rw [valV_neg e, b]; exact ih
theorem KT.repl {H : Hp} {kvs : List (List Key × V)} {xs : List (List Key × Addr × Value)} (r : KT H kvs xs) (k : List Key) {y : V} {u : Value} (ry : RelV y u) :
  KT H (kvs.map fun kv => if kv.1 = k then (kv.1, y) else kv) (xs.map (putAt k u)) := by
 induction r with
 | nil => exact .nil
 | @cons p q ps qs h t ih =>
  rw [List.map_cons, List.map_cons]
  refine .cons ?_ ih
  obtain ⟨h1, h2, h3⟩ := h
  unfold putAt
  by_cases e : p.1 = k
  ·rw [if_pos e, if_pos (h1.symm.trans e)]; exact ⟨h1, h2, ry⟩
  ·rw [if_neg e, if_neg (fun z => e (h1.trans z))]; exact ⟨h1, h2, h3⟩
theorem KT.put {H : Hp} {kvs : List (List Key × V)} {xs : List (List Key × Addr × Value)} (r : KT H kvs xs) (k : List Key) {b : Addr} {y : V} {u : Value} (hb : H b = some (.tup (k.map kV))) (ry : RelV y u) :
  KT H (putK kvs k y) (storedH xs k b u) := by
 have e : (kvs.any fun kv => decide (kv.1 = k)) = (atKey xs k).isSome := by
  rw [valV_any, (r.val k).isSome_eq, Option.isSome_map]
 unfold putK storedH
 rw [e]
 by_cases q : (atKey xs k).isSome = true
 ·rw [if_pos q, if_pos q]; exact r.repl k ry
 ·rw [if_neg q, if_neg q]; exact Paired.snoc r ⟨rfl, hb, ry⟩
theorem KT.keeps {H H' : Hp} {kvs : List (List Key × V)} {xs : List (List Key × Addr × Value)} (r : KT H kvs xs) (ht : ∀ b ys, H b = some (.tup ys) → H' b = some (.tup ys)) : KT H' kvs xs :=
 Paired.mapP r fun _ _ z => ⟨z.1, ht _ _ z.2.1, z.2.2⟩
section
variable {P : Program} {w : World} {H : Hp} {h : Heap} {a : Addr}
theorem rd_of {u : HO} (ok : HOk P w H h) (e : Rd H a u) : ObjOk P w H h a u := e.ok ok
theorem dk_rd {kvs : List (Key × V)} (ok : HOk P w H h) (e : Rd H a (.dK kvs)) : kvs.length ≤ sizeLine ∧ (a == sysModules) = false ∧ ∃ vs, KV kvs vs ∧ h.DictOf (mixKind P w) a vs :=
 show ObjOk P w H h a (.dK kvs) from rd_of ok e
theorem dk_of {kvs : List (Key × V)} (ok : HOk P w H h) (e : H a = some (.dK kvs)) : kvs.length ≤ sizeLine ∧ (a == sysModules) = false ∧ ∃ vs, KV kvs vs ∧ h.DictOf (mixKind P w) a vs := dk_rd ok (.inl e)
theorem key_of {ks : List Key} (ok : HOk P w H h) (e : H a = some (.tup (ks.map kV))) : (tupleKind (mixKind P w)).is h ks a := by
 obtain ⟨_, its, r, o, h1, h2, n, h3⟩ := (show ObjOk P w H h a (.tup (ks.map kV)) from ok a _ e)
 exact ⟨o, its.toArray, n, h1, h2, h3, by simpa using items_are r⟩
theorem dt_rd {kvs : List (List Key × V)} (ok : HOk P w H h) (e : Rd H a (.dT kvs)) : kvs.length ≤ sizeLine ∧ (a == sysModules) = false ∧
  ∃ xs, KT H kvs xs ∧ h.DictOfH (tupleKind (mixKind P w)) a xs := by
 obtain ⟨z, y, xs, r, o, es, ep, h1, h2, h3, h4, h5⟩ := (show ObjOk P w H h a (.dT kvs) from rd_of ok e)
 refine ⟨z, y, xs, r, o, es, ep, h1, h2, h3, h4, fun x hx => ?_, h5⟩
 have all : ∀ {l : List (List Key × V)} {m : List (List Key × Addr × Value)}, KT H l m → ∀ x ∈ m, (tupleKind (mixKind P w)).is h x.1 x.2.1 := by
  intro l m q
  induction q with
  | nil => intro x hx; exact nomatch hx
  | @cons p q ps qs hq t ih =>
   intro x hx
   rcases List.mem_cons.mp hx with e | hx
   ·subst e
    exact key_of ok (by rw [← hq.1]; exact hq.2.1)
   ·exact ih x hx
 exact all r x hx
theorem dt_of {kvs : List (List Key × V)} (ok : HOk P w H h) (e : H a = some (.dT kvs)) : kvs.length ≤ sizeLine ∧ (a == sysModules) = false ∧
  ∃ xs, KT H kvs xs ∧ h.DictOfH (tupleKind (mixKind P w)) a xs := dt_rd ok (.inl e)
end
def DGet (H : Hp) (a : Addr) (y : V) (r : Option V) : Prop :=
 (∃ kvs k, Rd H a (.dK kvs) ∧ y = kV k ∧ r = valV kvs k) ∨ ∃ kvs k b, Rd H a (.dT kvs) ∧ y = .ref b ∧ H b = some (.tup (k.map kV)) ∧ r = valV kvs k
def DPut (H : Hp) (a : Addr) (y v : V) (H' : Hp) : Prop :=
 (∃ kvs k, H a = some (.dK kvs) ∧ y = kV k ∧ kvs.length < sizeLine ∧ H' = upd H a (.dK (putK kvs k v))) ∨
 ∃ kvs k b, H a = some (.dT kvs) ∧ y = .ref b ∧ H b = some (.tup (k.map kV)) ∧ kvs.length < sizeLine ∧ H' = upd H a (.dT (putK kvs k v))
theorem DGet.t {H : Hp} {a b : Addr} {kvs : List (List Key × V)} {k : List Key} (e : H a = some (.dT kvs)) (eb : H b = some (.tup (k.map kV))) : DGet H a (.ref b) (valV kvs k) := .inr ⟨kvs, k, b, .inl e, rfl, eb, rfl⟩
theorem DPut.t {H : Hp} {a b : Addr} {kvs : List (List Key × V)} {k : List Key} {v : V} (e : H a = some (.dT kvs)) (eb : H b = some (.tup (k.map kV))) (hl : kvs.length < sizeLine) :
  DPut H a (.ref b) v (upd H a (.dT (putK kvs k v))) := .inr ⟨kvs, k, b, e, rfl, eb, hl, rfl⟩
section
variable {X : Cx} {pins : List (Addr × Obj)} {σ : St} {H : Hp} {s : Shared} {a : Addr} {y v : V} {u r : Value} {o : Option V} {A : Around} {E : Value → Shared → Prop}
theorem Inv.big (I : Inv X pins σ H s) : sysModules < s.heap.objs.size := by
 have h : mainGlobals < s.heap.objs.size := (I.mod.glob.keeps I.bk).lt
 exact Nat.lt_trans (by decide) h
theorem d_getItem {Q : Value → Shared → Prop} (hu : A.units + 1 < cLine) (I : Inv X pins σ H s) (g : DGet H a y (some v)) (ry : RelV y u) (h : ∀ w' s', Inv X pins σ H s' → RelV v w' → Q w' s') :
  wpAny (model X.prog X.w) A (getItem (.ref a) u) Q E s := by
 rcases g with ⟨kvs, k, e, ey, l⟩ | ⟨kvs, k, b, e, ey, eb, l⟩
 ·subst ey
  obtain ⟨z, hd, vs, rel, dd⟩ := dk_rd I.hok e
  obtain ⟨w', hw, rw'⟩ := RelO.some_of (v := v) (o := valueAt vs k) (by rw [l]; exact rel.val k)
  exact wpAny_getItem_of (kV_is ry) dd.mapOf hw (h w' _ (I.tok _) rw')
 ·subst ey
  cases (show u = Value.ref b from ry)
  obtain ⟨z, hd, xs, rel, dd⟩ := dt_rd I.hok e
  obtain ⟨w', hw, rw'⟩ := RelO.some_of (v := v) (o := (atKey xs k).map (·.2)) (by rw [l]; exact rel.val k)
  obtain ⟨p, hp, hp2⟩ := Option.map_eq_some_iff.mp hw
  refine wpAny_getItem_heap (tupleKind_room_in1 hu) (key_of I.hok eb) dd hp ?_
  rw [hp2]
  exact h w' _ (I.tok _) rw'
theorem d_notIn {Q : Value → Shared → Prop} (hu : A.units + 1 < cLine) (I : Inv X pins σ H s) (g : DGet H a y o) (ry : RelV y u) (h : ∀ s', Inv X pins σ H s' → Q (.bool (!o.isSome)) s') :
  wpAny (model X.prog X.w) A (compareOp .NotIn u (.ref a)) Q E s := by
 rcases g with ⟨kvs, k, e, ey, l⟩ | ⟨kvs, k, b, e, ey, eb, l⟩
 ·subst ey
  obtain ⟨z, hd, vs, rel, dd⟩ := dk_rd I.hok e
  refine wpAny_notIn_of (kV_is ry) hd dd.mapOf ?_
  rw [← (rel.val k).isSome_eq, ← l]
  exact h _ (I.tok _)
 ·subst ey
  cases (show u = Value.ref b from ry)
  obtain ⟨z, hd, xs, rel, dd⟩ := dt_rd I.hok e
  refine wpAny_notIn_heap (tupleKind_room_in1 hu) (key_of I.hok eb) hd dd ?_
  have q := (rel.val k).isSome_eq
  rw [Option.isSome_map] at q
  rw [← q, ← l]
  exact h _ (I.tok _)
theorem d_write {h' : Heap} {t' : Nat} {ob : HO} (I : Inv X pins σ H s) (mu : Mut (H a)) (hs : Heap.SameBut a s.heap h') (he : ∃ q, h'.get? a = some q) (new : ObjOk X.prog X.w (upd H a ob) h' a ob) :
  Inv X pins σ (upd H a ob) { s with heap := h', toks := t' } :=
 I.write (x := a) (e := a) mu (.inl rfl) (fun b q hb z => (hs.2 b hb).trans z) he new
theorem dk_new {P : Program} {w : World} {H' : Hp} {h' : Heap} {kvs : List (Key × V)} {vs : List (Key × Value)} (z : kvs.length ≤ sizeLine) (hd : (a == sysModules) = false) (rel : KV kvs vs) (dd : h'.DictOf (mixKind P w) a vs) :
  ObjOk P w H' h' a (.dK kvs) := ⟨z, hd, vs, rel, dd⟩
theorem d_setItem {H' : Hp} {Q : Unit → Shared → Prop} (hu : A.units + 1 < cLine) (I : Inv X pins σ H s) (g : DPut H a y v H') (ry : RelV y u) (rv : RelV v r) (h : ∀ s', Inv X pins σ H' s' → Q () s') :
  wpAny (model X.prog X.w) A (setItem (.ref a) u r) Q E s := by
 rcases g with ⟨kvs, k, e, ey, l, eH⟩ | ⟨kvs, k, b, e, ey, eb, l, eH⟩
 ·subst ey eH
  obtain ⟨z, hd, vs, rel, dd⟩ := dk_of I.hok e
  have hz : vs.length ≤ sizeLine := by rw [← rel.length]; exact z
  have hl : (putK kvs k v).length ≤ sizeLine := by have := length_putK kvs k v; omega
  refine wpAny_setItem_pairs (hsz := hz) (kV_is ry) dd fun h' dd' hs => h _ ?_
  have he : ∃ q, h'.get? a = some q := let ⟨q, _, _, hq, _⟩ := dd'; ⟨q, hq⟩
  exact d_write I (by rw [e]; exact True.intro) hs he (dk_new hl hd (rel.put k rv) dd')
 ·subst ey eH
  cases (show u = Value.ref b from ry)
  obtain ⟨z, hd, xs, rel, dd⟩ := dt_of I.hok e
  have hz : xs.length ≤ sizeLine := by rw [← Paired.length rel]; exact z
  have hl : (putK kvs k v).length ≤ sizeLine := by have := length_putK kvs k v; omega
  refine wpAny_setItem_heap (hsz := hz) (tupleKind_room_in1 hu) (key_of I.hok eb) dd fun h' dd' hs => h _ ?_
  obtain ⟨q, es, ep, hq, h2, h3, h4, _, h5⟩ := dd'
  refine d_write I (by rw [e]; exact True.intro) hs ⟨q, hq⟩ ⟨hl, hd, _, (rel.put k eb rv).keeps fun c ys ec => ?_, q, es, ep, hq, h2, h3, h4, h5⟩
  rw [upd_ne (ne_of ec e (fun z => nomatch z))]
  exact ec
end
section
variable {X : Cx} {pins : List (Addr × Obj)} {σ : St} {H : Hp} {s : Shared} {a : Addr} {kvs : List (Key × V)} {k : Key} {u : Value} {A : Around} {E : Value → Shared → Prop}
end
def NoSl (i : Expr) : Prop := ∀ ov iv, subscripted i false ov iv = operate [ov, iv] (getItem ov iv)
theorem subD_of {prog : Program} {w : World} {A : Around} {E : Value → Shared → Prop} {s : Shared} {env : Env} {value slice : Expr} {pos : Pos} {T id : String} {Q : Value → Shared → Prop}
  (hl : typeLookup (.type T) "__getitem__" = pure (some (.builtin id))) (hs : NoSl slice)
  (h : wpAny (model prog w) A (eval value env) (fun o s₁ => wpAny (model prog w) A (eval slice env) (fun i s₂ => s₂.TypeIs o T ∧ wpAny (model prog w) A (getItem o i) Q E s₂) E s₁) E s) :
  wpAny (model prog w) A (eval (.Subscript value slice pos) env) Q E s := by
 refine Subscript_ (wpAny_mono h (fun o s₁ h₁ => wpAny_mono h₁ (fun i s₂ h₂ => ?_) fun _ _ x => x) fun _ _ x => x)
 obtain ⟨hT, h₂⟩ := h₂
 unfold subscriptTail
 refine wpAny_bind ?_
 rw [getitemInPython_of_ne hT.not_modules]
 refine wpAny_bind (wpAny_specialOf hT hl ?_)
 have fin : wpAny (model prog w) A (subscripted slice false o i) (fun r s₃ => wpAny (model prog w) A (letTemporaryGo value o r >>= fun _ => pure r) Q E s₃) E s₂ := by
  rw [hs o i]
  exact wpAny_operating (wpAny_mono h₂ (fun r s₃ h₃ => wpAny_bind (wpAny_letTemporaryGo (wpAny_pure h₃))) fun _ _ x => x)
 first
  | exact wpAny_pure (wpAny_bind fin)
  | exact wpAny_bind (wpAny_pure (wpAny_bind fin))
  | exact wpAny_bind fin
theorem dict_typeIs {X : Cx} {pins : List (Addr × Obj)} {σ : St} {H : Hp} {s : Shared} {a : Addr} {y : V} {o : Option V} (I : Inv X pins σ H s) (g : DGet H a y o) : s.TypeIs (.ref a) "dict" := by
 rcases g with ⟨kvs, k, e, _, _⟩ | ⟨kvs, k, b, e, _, _, _⟩
 ·obtain ⟨_, _, vs, _, dd⟩ := dk_rd I.hok e
  exact dd.typeIs
 ·obtain ⟨_, _, xs, _, dd⟩ := dt_rd I.hok e
  exact dd.typeIs
def tDGet (td ty : TE) : TE := fun σ H Q => td σ H fun x H1 => ty σ H1 fun y H2 => ∃ a v, x = .ref a ∧ DGet H2 a y (some v) ∧ Q v H2
def tDNotIn (ty td : TE) : TE := fun σ H Q => ty σ H fun y H1 => td σ H1 fun x H2 => ∃ a o, x = .ref a ∧ DGet H2 a y o ∧ Q (.bl (!o.isSome)) H2
def sDPut (td ty tv : TE) : TS := fun D σ H => tv σ H fun v H1 => td σ H1 fun x H2 => ty σ H2 fun y H3 => ∃ a H4, x = .ref a ∧ DPut H3 a y v H4 ∧ D.nx σ H4
section
variable {X : Cx} {o i e value : Expr} {pos pos' tpos : Pos} {td ty tv : TE}
theorem pe_dget (hu : X.A.units + 1 < cLine) (ho : PE X o td) (hi : PE X i ty) (hs : NoSl i) : PE X (.Subscript o i pos) (tDGet td ty) := by
 intro pins s σ H Q I h
 refine subD_of PySem.F.slot_dict_getitem.lookup hs (thn (ho pins s σ H _ I h) fun u s1 ⟨x, H1, I1, rx, q1⟩ => thn (hi pins s1 σ H1 _ I1 q1) fun iv s2 ⟨y, H2, I2, ry, a, v, ex, g, q2⟩ => ?_)
 subst ex
 obtain rfl : u = Value.ref a := rx
 exact ⟨dict_typeIs I2 g, d_getItem hu I2 g ry fun w' s3 I3 rw' => ⟨v, H2, I3, rw', q2⟩⟩
theorem pc_dnotin (hu : X.A.units + 1 < cLine) (hi : PE X i ty) (ho : PE X o td) : PC X .NotIn i o (tDNotIn ty td) := by
 intro pins s σ H Q I h
 refine thn (hi pins s σ H _ I h) fun iv s1 ⟨y, H1, I1, ry, q1⟩ => thn (ho pins s1 σ H1 _ I1 q1) fun u s2 ⟨x, H2, I2, rx, a, ov, ex, g, q2⟩ => ?_
 subst ex
 obtain rfl : u = Value.ref a := rx
 exact d_notIn hu I2 g ry fun s3 I3 => ⟨.bl (!ov.isSome), H2, I3, rfl, q2⟩
theorem ps_dput (hu : X.A.units + 1 < cLine) (ho : PE X o td) (hi : PE X i ty) (hv : PE X value tv) (hs : swapsWith value (some (.Subscript o i pos')) pos.line X.env = pure false) :
  PS X (.Assign [.Subscript o i pos'] value pos) (sDPut td ty tv) := by
 intro pins s σ H D I h
 refine wpAny_Assign_Subscript (thn (hv pins s σ H _ I h) fun r s1 ⟨v, H1, I1, rv, q1⟩ => thn (ho pins s1 σ H1 _ I1 q1) fun u s2 ⟨x, H2, I2, rx, q2⟩ => thn (hi pins s2 σ H2 _ I2 q2) fun iv s3 ⟨y, H3, I3, ry, a, H4, ex, g, q3⟩ => ?_) hs
 subst ex
 obtain rfl : u = Value.ref a := rx
 exact d_setItem hu I3 g ry rv fun s4 I4 => ⟨σ, H4, I4, q3⟩
end
theorem dt_empty {P : Program} {w : World} {H : Hp} (h : Heap) (hb : sysModules < h.objs.size) : ObjOk P w H (h.push { cls := .type "dict", data := .dict #[] }) h.objs.size (.dT []) :=
 ⟨Nat.zero_le _, beq_eq_false_iff_ne.mpr (Ne.symm (Nat.ne_of_lt hb)), [], .nil, _, #[], 0, Heap.get?_push_size _ rfl, ⟨rfl, rfl, rfl⟩, rfl, rfl, List.nodup_nil⟩
def tDNewT : TE := fun _ H Q => ∀ p, H p = none → Q (.ref p) (upd H p (.dT []))
section
variable {X : Cx} {pos : Pos}
theorem pe_dnewT : PE X (.Dict [] [] pos) tDNewT := fun pins s σ H Q I h =>
 wpAny_Dict_empty ⟨.ref s.heap.objs.size, _, I.laid (a := s.heap.objs.size) (o := .dT []) (t' := s.toks) (fun _ _ q => Heap.get?_push_of_some _ q) (Nat.le_refl _) (dt_empty s.heap I.big), rfl, h _ (I.hok.fresh (Nat.le_refl _))⟩
end
def tPairs : List (TE × TE) → St → Hp → (List (V × V) → Hp → Prop) → Prop
 | [], _, H, Q => Q [] H
 | (tk, tv) :: r, σ, H, Q => tk σ H fun x H1 => tv σ H1 fun y H2 => tPairs r σ H2 fun ps H3 => Q ((x, y) :: ps) H3
abbrev VV : List (V × V) → List (Value × Value) → Prop := Paired fun p q => RelV p.1 q.1 ∧ RelV p.2 q.2
def PPs (X : Cx) (pos : Pos) (keys : List (Option Expr)) (values : List Expr) (trs : List (TE × TE)) : Prop :=
 ∀ (pins : List (Addr × Obj)) (s : Shared) (σ : St) (H : Hp) (Q : List (V × V) → Hp → Prop), Inv X pins σ H s → tPairs trs σ H Q →
  wpAny (model X.prog X.w) X.A (evalPairs (pairTrees keys values X.env pos)) (fun vs s' => ∃ ps H', Inv X pins σ H' s' ∧ VV ps vs ∧ Q ps H') X.xe s
theorem pps_nil {X : Cx} {pos : Pos} : PPs X pos [] [] [] := fun pins s σ H Q I h => pairTrees_nil_walk ⟨[], H, I, .nil, h⟩
theorem pps_cons {X : Cx} {pos : Pos} {k v : Expr} {ks : List (Option Expr)} {vs : List Expr} {tk tv : TE} {trs : List (TE × TE)} (hk : PE X k tk) (hv : PE X v tv) (hr : PPs X pos ks vs trs) :
  PPs X pos (some k :: ks) (v :: vs) ((tk, tv) :: trs) := fun pins s σ H Q I h =>
 pairTrees_cons_walk (thn (hk pins s σ H _ I h) fun u s1 ⟨x, H1, I1, rx, q1⟩ => thn (hv pins s1 σ H1 _ I1 q1) fun w2 s2 ⟨y, H2, I2, ry, q2⟩ =>
  thn (hr pins s2 σ H2 _ I2 q2) fun ws s3 ⟨ps, H3, I3, rel, q3⟩ => ⟨(x, y) :: ps, H3, I3, .cons ⟨rx, ry⟩ rel, q3⟩)
section
variable {X : Cx} {pins : List (Addr × Obj)} {σ : St} {H : Hp} {s : Shared} {a : Addr} {y d : V} {u r : Value} {o : Option V} {A : Around} {E : Value → Shared → Prop}
end
section
variable {X : Cx} {o e f : Expr} {apos cpos : Pos} {td ty tx : TE}
end
section
variable {X : Cx} {pins : List (Addr × Obj)} {σ : St} {H : Hp} {s : Shared} {a : Addr} {kvs : List (Key × V)} {A : Around} {E : Value → Shared → Prop}
end
section
variable {X : Cx} {pins : List (Addr × Obj)} {σ : St} {H : Hp} {s : Shared} {a : Addr} {y : V} {u : Value} {A : Around} {E : Value → Shared → Prop}
end
end L2
namespace TL
open PySem
theorem forIn_pure {α β : Type} {f : α → β → Sem (ForInStep β)} (P : List α → β → Prop)
  (step : ∀ x l c, P (x :: l) c → ∃ c', f x c = pure (.yield c') ∧ P l c') : ∀ (l : List α) (c : β), P l c → ∃ c', forIn l c f = pure c' ∧ P [] c'
 | [], c, h => ⟨c, rfl, h⟩
 | x :: l, c, h => by
  obtain ⟨c1, e, h1⟩ := step x l c h
  obtain ⟨c2, e2, h2⟩ := forIn_pure P step l c1 h1
  refine ⟨c2, ?_, h2⟩
  rw [List.forIn_cons, e, pure_bind]
  exact e2
theorem closure_ok {scope : Scope} {env : Env} (h : ∀ y ∈ scope.names, y.2 = .free → ∃ c, env.cells.lookup y.1 = some c) :
  ∃ cl, closureFor scope env = pure cl ∧ (∀ x c, cl.lookup x = some c → env.cells.lookup x = some c) ∧ (∀ y ∈ scope.names, y.2 = .free → ∃ c, cl.lookup y.1 = some c) := by
 let P : List (Str × NameKind) → List (Str × Addr) → Prop := fun l c => (∀ y ∈ l, y.2 = .free → ∃ c, env.cells.lookup y.1 = some c) ∧ (∀ x a, c.lookup x = some a → env.cells.lookup x = some a) ∧
  (∀ y ∈ scope.names, y.2 = .free → y ∈ l ∨ ∃ a, c.lookup y.1 = some a)
 simp only [closureFor]
 obtain ⟨cl, e, _, h2, h3⟩ := forIn_pure (f := fun (x : Str × NameKind) (r : List (Str × Addr)) => if (x.2 == NameKind.free) = true then cellOf env x.1 >>= fun c => pure (ForInStep.yield ((x.1, c) :: r)) else pure (ForInStep.yield r)) P (by
  rintro ⟨n, k⟩ l c ⟨p1, p2, p3⟩
  by_cases hk : k = .free
  ·subst hk
   obtain ⟨a, ha⟩ := p1 _ List.mem_cons_self rfl
   refine ⟨(n, a) :: c, ?_, fun y hy => p1 y (List.mem_cons_of_mem _ hy), fun x b hb => ?_, fun y hy hf => ?_⟩
   ·have ha' : env.cells.lookup n = some a := ha
    simp [cellOf, ha']
   ·rw [List.lookup_cons] at hb
    by_cases hx : (x == n) = true
    ·rw [hx] at hb
     have e1 : x = n := by simpa using hx
     subst e1
     cases hb
     exact ha
    ·have hx' : (x == n) = false := by simpa using hx
     rw [hx'] at hb
     exact p2 x b hb
   ·by_cases hx : (y.1 == n) = true
    ·exact .inr ⟨a, by rw [List.lookup_cons, hx]⟩
    ·have hx' : (y.1 == n) = false := by simpa using hx
     rcases p3 y hy hf with q | ⟨b, q⟩
     ·rcases List.mem_cons.mp q with q | q
      ·exact absurd (by rw [q]; simp) hx
      ·exact .inl q
     ·exact .inr ⟨b, by rw [List.lookup_cons, hx']; exact q⟩
  ·refine ⟨c, ?_, fun y hy => p1 y (List.mem_cons_of_mem _ hy), p2, fun y hy hf => ?_⟩
   ·have : (k == NameKind.free) = false := by simpa using hk
    simp [this]
   ·rcases p3 y hy hf with q | q
    ·rcases List.mem_cons.mp q with q | q
     ·subst q; exact absurd hf hk
     ·exact .inl q
    ·exact .inr q) scope.names [] ⟨h, fun x a hx => by simp at hx, fun y hy _ => .inl hy⟩
 refine ⟨cl, ?_, h2, fun y hy hf => ?_⟩
 ·refine Eq.trans ?_ (congrArg (fun t : Sem (List (Str × Addr)) => t >>= fun r => pure r) e)
  rfl
 ·rcases h3 y hy hf with q | q
  ·cases q
  ·exact q
theorem lookup_relabel_free {env : Env} : ∀ {names : List (Str × NameKind)} {x : Str}, names.lookup x = some .free →
  (names.map fun (n, k) => if (k == NameKind.free && env.scope.kind == .function && env.kindOf n == some .cell) then (n, NameKind.cell) else (n, k)).lookup x = some .cell ∨
  (names.map fun (n, k) => if (k == NameKind.free && env.scope.kind == .function && env.kindOf n == some .cell) then (n, NameKind.cell) else (n, k)).lookup x = some .free
 | [], _, h => by simp at h
 | (n, k) :: r, x, h => by
  have ih := @lookup_relabel_free env r x
  show List.lookup x ((if (k == NameKind.free && env.scope.kind == .function && env.kindOf n == some .cell) = true then (n, NameKind.cell) else (n, k)) :: _) = _ ∨ List.lookup x ((if (k == NameKind.free && env.scope.kind == .function && env.kindOf n == some .cell) = true then (n, NameKind.cell) else (n, k)) :: _) = _
  cases hx : x == n with
  | true =>
   simp only [List.lookup_cons, hx] at h
   cases h
   by_cases hc : (NameKind.free == NameKind.free && env.scope.kind == .function && env.kindOf n == some .cell) = true
   ·rw [if_pos hc]; left; simp [List.lookup_cons, hx]
   ·rw [if_neg hc]; right; simp [List.lookup_cons, hx]
  | false =>
   simp only [List.lookup_cons, hx] at h
   by_cases hc : (k == NameKind.free && env.scope.kind == .function && env.kindOf n == some .cell) = true
   ·rw [if_pos hc]; simp only [List.lookup_cons, hx]; exact ih h
   ·rw [if_neg hc]; simp only [List.lookup_cons, hx]; exact ih h
theorem relabel_cell_or_free {env : Env} : ∀ {names : List (Str × NameKind)} {x : Str}, (∀ y ∈ names, y.2 ≠ .cell) →
  ((names.map fun (n, k) => if (k == NameKind.free && env.scope.kind == .function && env.kindOf n == some .cell) then (n, NameKind.cell) else (n, k)).lookup x = some .cell ∨
  (names.map fun (n, k) => if (k == NameKind.free && env.scope.kind == .function && env.kindOf n == some .cell) then (n, NameKind.cell) else (n, k)).lookup x = some .free) → ∃ y ∈ names, y.1 = x ∧ y.2 = .free
 | [], _, _, h => by simp at h
 | (n, k) :: r, x, hn, h => by
  have ih := @relabel_cell_or_free env r x (fun y hy => hn y (List.mem_cons_of_mem _ hy))
  change List.lookup x ((if (k == NameKind.free && env.scope.kind == .function && env.kindOf n == some .cell) = true then (n, NameKind.cell) else (n, k)) :: _) = _ ∨ List.lookup x ((if (k == NameKind.free && env.scope.kind == .function && env.kindOf n == some .cell) = true then (n, NameKind.cell) else (n, k)) :: _) = _ at h
  cases hx : x == n with
  | true =>
   have e : x = n := by simpa using hx
   by_cases hc : (k == NameKind.free && env.scope.kind == .function && env.kindOf n == some .cell) = true
   ·have hk : k = .free := by
     simp only [Bool.and_eq_true, beq_iff_eq] at hc
     exact hc.1.1
    exact ⟨(n, k), List.mem_cons_self, e.symm, hk⟩
   ·rw [if_neg hc] at h
    simp only [List.lookup_cons, hx] at h
    rcases h with h | h
    ·exact absurd (Option.some.inj h) (hn (n, k) List.mem_cons_self)
    ·exact ⟨(n, k), List.mem_cons_self, e.symm, Option.some.inj h⟩
  | false =>
   have h' : (r.map fun (n, k) => if (k == NameKind.free && env.scope.kind == .function && env.kindOf n == some .cell) then (n, NameKind.cell) else (n, k)).lookup x = some .cell ∨
     (r.map fun (n, k) => if (k == NameKind.free && env.scope.kind == .function && env.kindOf n == some .cell) then (n, NameKind.cell) else (n, k)).lookup x = some .free := by
    by_cases hc : (k == NameKind.free && env.scope.kind == .function && env.kindOf n == some .cell) = true
    ·rw [if_pos hc] at h; simpa only [List.lookup_cons, hx] using h
    ·rw [if_neg hc] at h; simpa only [List.lookup_cons, hx] using h
   obtain ⟨y, hy, e⟩ := ih h'
   exact ⟨y, List.mem_cons_of_mem _ hy, e⟩
end TL
namespace TL
open PySem
section
variable {prog : Program} {w : World} {A : Around} {R : Result → Shared → Prop} {s : Shared}
abbrev testsOf (ifs : List Expr) (env : Env) : Sem Bool := forIn ifs true fun c r => if r = true then do let ok ← isTrue c env (eval c env); pure (ForInStep.yield ok) else pure (ForInStep.yield r)
theorem compLoop_go {elt target iter : Expr} {ifs : List Expr} {scope : Scope} {pos : Pos} {it acc : Value} {env : Env} (I : Nat → Shared → Prop)
  (turn : ∀ n s, I n s → wpAny (model prog w) A (pyNext it) (fun r s₁ => match r with
   | none => R (.ok .next) s₁
   | some v => wpAny (model prog w) A (letOwnedTupleGo target it v) (fun _ s₀ => wpAny (model prog w) A (assign target env v) (fun _ s₂ =>
     wpAny (model prog w) A (testsOf ifs env) (fun ok s₃ =>
      if ok = true then wpAny (model prog w) A (eval elt env) (fun x s₄ =>
       wpAny (model prog w) A (call (.builtin "list.append") [acc, x]) (fun _ s₅ => ∃ m, m < n ∧ I m s₅) (fun _ _ => False) s₄) (fun _ _ => False) s₃
      else ∃ m, m < n ∧ I m s₃) (fun _ _ => False) s₂) (fun _ _ => False) s₀) (fun _ _ => False) s₁) (fun _ _ => False) s)
  (n : Nat) (h : I n s) :
  codeAny (model prog w) A (.compLoop (.ListComp elt [⟨target, iter, ifs, 0⟩] scope pos) 0 it acc env) R s := by
 refine codeAny_loop rfl I (fun n s hI => ?_) n h
 show wpAny _ A ((compTurn (.ListComp elt [⟨target, iter, ifs, 0⟩] scope pos) 0 it acc env).onRaise (fun x => do noteFrame x env; theTreesLotGoes x)) _ _ s
 refine wpAny_noted ?_
 rw [compTurn_list]
 refine wpAny_bind (wpAny_standAt (wpAny_bind (wpAny_mono (turn n s hI) (fun r s₁ h₁ => ?_) fun _ _ h' => h'.elim)))
 cases r with
 | none => exact wpAny_pure h₁
 | some v =>
  refine wpAny_bind (wpAny_mono h₁ (fun _ s₀ h₀ => ?_) fun _ _ h' => h'.elim)
  refine wpAny_bind (wpAny_mono h₀ (fun _ s₂ h₂ => wpAny_bind (wpAny_mono h₂ (fun ok s₃ h₃ => ?_) fun _ _ h' => h'.elim)) fun _ _ h' => h'.elim)
  cases ok with
  | false => exact wpAny_pure ⟨rfl, h₃⟩
  | true =>
   exact wpAny_bind (wpAny_bind (wpAny_mono h₃ (fun x s₄ h₄ => wpAny_bind (wpAny_mono h₄ (fun _ s₅ h₅ => wpAny_pure (wpAny_pure ⟨rfl, h₅⟩)) fun _ _ h' => h'.elim)) fun _ _ h' => h'.elim))
theorem compTurn_set (elt target iter : Expr) (ifs : List Expr) (scope : Scope) (pos : Pos) (it acc : Value) (env : Env) :
  compTurn (.SetComp elt [⟨target, iter, ifs, 0⟩] scope pos) 0 it acc env = (do
   standAt iter.pos
   match ← pyNext it with
   | none => pure (.done .next)
   | some v =>
    letOwnedTupleGo target it v
    assign target env v
    let mut ok := true
    for c in ifs do
     if ok then ok ← isTrue c env (eval c env)
    if ok then
     (do let v ← eval elt env; standAt elt.pos; let _ ← call (.builtin "set.add") [acc, v])
    again (.compLoop (.SetComp elt [⟨target, iter, ifs, 0⟩] scope pos) 0 it acc env)) := by rfl
theorem compLoop_goS {elt target iter : Expr} {ifs : List Expr} {scope : Scope} {pos : Pos} {it acc : Value} {env : Env} (I : Nat → Shared → Prop)
  (turn : ∀ n s, I n s → wpAny (model prog w) A (pyNext it) (fun r s₁ => match r with
   | none => R (.ok .next) s₁
   | some v => wpAny (model prog w) A (letOwnedTupleGo target it v) (fun _ s₀ => wpAny (model prog w) A (assign target env v) (fun _ s₂ =>
     wpAny (model prog w) A (testsOf ifs env) (fun ok s₃ =>
      if ok = true then wpAny (model prog w) A (eval elt env) (fun x s₄ =>
       wpAny (model prog w) A (call (.builtin "set.add") [acc, x]) (fun _ s₅ => ∃ m, m < n ∧ I m s₅) (fun _ _ => False) s₄) (fun _ _ => False) s₃
      else ∃ m, m < n ∧ I m s₃) (fun _ _ => False) s₂) (fun _ _ => False) s₀) (fun _ _ => False) s₁) (fun _ _ => False) s)
  (n : Nat) (h : I n s) :
  codeAny (model prog w) A (.compLoop (.SetComp elt [⟨target, iter, ifs, 0⟩] scope pos) 0 it acc env) R s := by
 refine codeAny_loop rfl I (fun n s hI => ?_) n h
 show wpAny _ A ((compTurn (.SetComp elt [⟨target, iter, ifs, 0⟩] scope pos) 0 it acc env).onRaise (fun x => do noteFrame x env; theTreesLotGoes x)) _ _ s
 refine wpAny_noted ?_
 rw [compTurn_set]
 refine wpAny_bind (wpAny_standAt (wpAny_bind (wpAny_mono (turn n s hI) (fun r s₁ h₁ => ?_) fun _ _ h' => h'.elim)))
 cases r with
 | none => exact wpAny_pure h₁
 | some v =>
  refine wpAny_bind (wpAny_mono h₁ (fun _ s₀ h₀ => ?_) fun _ _ h' => h'.elim)
  refine wpAny_bind (wpAny_mono h₀ (fun _ s₂ h₂ => wpAny_bind (wpAny_mono h₂ (fun ok s₃ h₃ => ?_) fun _ _ h' => h'.elim)) fun _ _ h' => h'.elim)
  cases ok with
  | false => exact wpAny_pure ⟨rfl, h₃⟩
  | true =>
   exact wpAny_bind (wpAny_bind (wpAny_mono h₃ (fun x s₄ h₄ => wpAny_bind (wpAny_standAt (wpAny_bind (wpAny_mono h₄ (fun _ s₅ h₅ => wpAny_pure (wpAny_pure ⟨rfl, h₅⟩)) fun _ _ h' => h'.elim)))) fun _ _ h' => h'.elim))
theorem compStart_set {elt target iter ifs rest scope pos it acc env}
  (h0 : codeAny (model prog w) A (.compLoop (.SetComp elt (⟨target, iter, ifs, 0⟩ :: rest) scope pos) 0 it acc env) R s)
  (h : wpAny (model prog w) A (pyIter it) (fun it' s' => codeAny (model prog w) A (.compLoop (.SetComp elt (⟨target, iter, ifs, 0⟩ :: rest) scope pos) 0 it' acc env) R s')
   (notedBy (model prog w) A env fun x s' => R (.error x) s') s) :
  codeAny (model prog w) A (.compStart (.SetComp elt (⟨target, iter, ifs, 0⟩ :: rest) scope pos) 0 it acc env) R s := by
 refine codeAny_of_tree ?_
 show wpAny _ _ ((compStart (.SetComp elt (⟨target, iter, ifs, 0⟩ :: rest) scope pos) 0 it acc env).onRaise (fun x => do noteFrame x env; standAt theWindowsPlace)) _ _ s
 refine wpAny_notedAt ?_
 unfold compStart
 show wpAny _ _ (ask >>= _) _ _ s
 refine wpAny_bind (wpAny_askSetting (wpAny_ite ?_))
 split
 ·first
   | exact wpAny_bind (wpAny_pure (wpAny_pure (And.intro rfl h0)))
   | exact wpAny_pure (And.intro rfl h0)
 ·first
   | exact wpAny_bind (wpAny_rule (wpAny_bind (wpAny_standAt (wpAny_bind (wpAny_mono h (fun it' s' h' => wpAny_pure (And.intro rfl h')) fun _ _ x => x)))))
   | (refine wpAny_bind (wpAny_rule ?_); show wpAny _ _ (standAt iter.pos >>= _) _ _ s; exact wpAny_bind (wpAny_standAt (wpAny_bind (wpAny_mono h (fun it' s' h' => wpAny_pure (And.intro rfl h')) fun _ _ x => x))))
end
end TL
namespace TL
open PySem PyProof.Rows
def oth (e : Int) : Int := e + 1 - 2 * (e % 2)
theorem xor_one (x : Int) : Builtin.bitXor x 1 = oth x := by
 rw [bitXor_and, bitAnd_m1]; unfold oth; omega
theorem oth_oth (e : Int) : oth (oth e) = e := by unfold oth; omega
theorem oth_half (e : Int) : oth e / 2 = e / 2 := by unfold oth; omega
theorem oth_nonneg {e : Int} (h : 0 ≤ e) : 0 ≤ oth e := by unfold oth; omega
end TL
set_option maxHeartbeats 4000000
namespace TL
open PySem PySem.Spec PyProof.Rows L2
abbrev St := L2.St
def cxComp (X : Cx) (scope : Scope) (cl : List (Str × Addr)) (N : List Str) (fp : List Addr) (s3 : Shared) (H3 : Hp) : Cx where
 prog := X.prog
 w := X.w
 K := X.K
 mg := X.mg
 base := X.base
 A := X.A
 N := N
 s₀ := s3
 H₀ := H3
 env := compEnvC scope cl s3.heap.objs.size X.env
 outer := X.stack
 stack := X.stack
 ex := fp
 fn := fun _ => false
 calm := X.calm
 pn := []
 xe := fun _ _ => False
def capOk (NX : List Str) (scope : Scope) (N : List Str) (cap : List (Option Nat)) : Bool :=
 (N.zip cap).all fun p => match p.2 with
  | none => true
  | some j => decide (NX[j]? = some p.1) && decide (scope.names.lookup p.1 = some .free)
structure CompOk (scX : Scope) (NX : List Str) (scope : Scope) (N : List Str) (own : Nat) (cap : List (Option Nat)) : Prop where
 kind : scope.kind = .function
 nocell : ∀ y ∈ scope.names, y.2 ≠ .cell
 loc : ∀ y ∈ scope.names, y.2 = .local → scope.names.lookup y.1 = some .local
 fre : ∀ y ∈ scope.names, y.2 = .free → scX.names.lookup y.1 = some .cell ∨ scX.names.lookup y.1 = some .free
 len : cap.length = N.length
 capd : capOk NX scope N cap = true
 ownd : (cap.take own).all (·.isNone) = true
 nd : N.Nodup
def capSt (cap : List (Option Nat)) (σ : St) : St := cap.map fun o => o.bind fun j => (σ[j]?).bind id
theorem capSt_len {cap : List (Option Nat)} {σ : St} : (capSt cap σ).length = cap.length := by simp [capSt]
theorem capSt_get {cap : List (Option Nat)} {σ : St} {i : Nat} {v : V} (h : (capSt cap σ)[i]? = some (some v)) : ∃ j, cap[i]? = some (some j) ∧ σ[j]? = some (some v) := by
 unfold capSt at h
 rw [List.getElem?_map] at h
 cases e : cap[i]? with
 | none => rw [e] at h; cases h
 | some o =>
  rw [e] at h
  cases o with
  | none => cases h
  | some j =>
   refine ⟨j, rfl, ?_⟩
   have h' : (σ[j]?).bind id = some v := by simpa using h
   cases q : σ[j]? with
   | none => rw [q] at h'; cases h'
   | some z => rw [q] at h'; exact congrArg some h'
theorem CompOk.at {scX : Scope} {NX : List Str} {scope : Scope} {N : List Str} {own : Nat} {cap : List (Option Nat)} (C : CompOk scX NX scope N own cap) {i j : Nat} {x : Str} (h1 : N[i]? = some x) (h2 : cap[i]? = some (some j)) :
  NX[j]? = some x ∧ scope.names.lookup x = some .free := by
 have h := C.capd
 unfold capOk at h
 have hm : (x, some j) ∈ N.zip cap := by
  refine List.mem_iff_getElem?.mpr ⟨i, ?_⟩
  rw [List.getElem?_zip_eq_some]
  exact ⟨h1, h2⟩
 have := List.all_eq_true.mp h _ hm
 simpa using this
theorem CompOk.own_none {scX : Scope} {NX : List Str} {scope : Scope} {N : List Str} {own : Nat} {cap : List (Option Nat)} (C : CompOk scX NX scope N own cap) {i j : Nat} (hi : i < own) (h : cap[i]? = some (some j)) : False := by
 have hm : some j ∈ cap.take own := by
  refine List.mem_iff_getElem?.mpr ⟨i, ?_⟩
  rw [List.getElem?_take_of_lt hi]
  exact h
 have := List.all_eq_true.mp C.ownd _ hm
 cases this
section
variable {X : Cx} {pins : List (Addr × Obj)} {σ : St} {H H3 : Hp} {s s3 : Shared} {scope : Scope} {N : List Str} {own : Nat} {cap : List (Option Nat)} {cl : List (Str × Addr)} {fp : List Addr}
theorem inv_comp (I3 : Inv X pins σ H3 s3) (C : CompOk X.env.scope X.N scope N own cap) (hcl1 : ∀ x c, cl.lookup x = some c → X.env.cells.lookup x = some c) (hcl2 : ∀ y ∈ scope.names, y.2 = .free → ∃ c, cl.lookup y.1 = some c)
  (hf : ∀ b ∈ fp, FpOk X pins H3 b ∧ b < s3.heap.objs.size) {h4 : Heap} {tk : Nat} {m4 : Str → Option Value} (hn : h4.Ns s3.heap.objs.size m4) (hk : ∀ b u, s3.heap.get? b = some u → h4.get? b = some u) :
  Inv (cxComp X scope cl N fp s3 H3) [] (capSt cap σ) H3 { s3 with heap := h4, toks := tk } := by
 refine ⟨⟨I3.ok.mod, C.kind, I3.ok.glob, I3.ok.blt, Nat.le_refl _, fun x y c e1 e2 => I3.ok.inj x y c (hcl1 _ _ e1) (hcl1 _ _ e2), fun x hx => ?_, fun x c h => ?_, I3.ok.hd, I3.ok.frames, .inl rfl, fun b hb => ?_,
  I3.bs, Nat.le_trans I3.ok.bsz I3.sz, fun b o e hb => ?_, fun b hb hz => ?_, I3.stack, I3.stkFree⟩, rfl, I3.bare, Un.kept hk, ⟨m4, hn, fun i x v e1 e2 e3 => ?_⟩, fun x c e => ?_, I3.hok.fresh (Nat.le_refl _), fun x c e => I3.freeC x c (hcl1 x c e),
  fun p hp => absurd (show p ∈ ([] : List (Addr × Obj)) from hp) (by simp), I3.hok.kept hk, ?_⟩
 ·obtain ⟨y, hy, e, f⟩ := relabel_cell_or_free (env := X.env) C.nocell hx
  obtain ⟨c, q⟩ := hcl2 y hy f
  exact ⟨c, by rw [← e]; exact q⟩
 ·exact absurd (show false = true from h) Bool.false_ne_true
 ·obtain ⟨⟨f0, f1, f2, f3, f4, f5⟩, hlt⟩ := hf b hb
  exact ⟨Nat.ne_of_lt hlt, fun x c e => f4 x c (hcl1 x c e)⟩
 ·obtain ⟨⟨f0, f1, f2, f3, f4, f5⟩, hlt⟩ := hf b hb
  rcases f3 with z | z
  ·exact I3.ok.noex b o e z
  ·exact absurd (Nat.lt_of_lt_of_le (Heap.lt_size e) (Nat.le_trans I3.ok.bsz z)) (Nat.lt_irrefl _)
 ·obtain ⟨⟨f0, f1, f2, f3, f4, f5⟩, hlt⟩ := hf b hb
  rcases List.mem_cons.mp (I3.stkSub b hz) with z | z
  ·exact f1 z
  ·exact f2 z
 ·obtain ⟨j, c1, c2⟩ := capSt_get e2
  obtain ⟨d1, d2⟩ := C.at e1 c1
  have hk2 := C.fre (x, .free) (PySem.mem_of_lookup d2) rfl
  obtain ⟨mX, hnX, hl⟩ := I3.loc
  obtain ⟨u, r, l⟩ := hl j x v d1 c2 (.inr hk2)
  refine ⟨u, r, ?_⟩
  rcases l with ⟨k, _⟩ | ⟨k, c, e, z⟩
  ·exfalso
   have k' : X.env.scope.names.lookup x = some .local := k
   rcases hk2 with q | q
   ·rw [k'] at q; cases q
   ·rw [k'] at q; cases q
  ·obtain ⟨c', q⟩ := hcl2 (x, .free) (PySem.mem_of_lookup d2) rfl
   have e' := hcl1 x c' q
   rw [e] at e'
   cases e'
   obtain ⟨o, ho, hd⟩ := z
   exact .inr ⟨lookup_relabel_free (env := X.env) d2, c, q, o, hk _ _ ho, hd⟩
 ·obtain ⟨v, o, ho, hd⟩ := I3.cell x c (hcl1 x c e)
  exact ⟨v, o, hk _ _ ho, hd⟩
 ·rw [capSt_len]; exact C.len
theorem comp_back {pins' : List (Addr × Obj)} {σ' : St} {H' : Hp} {s' : Shared} (I3 : Inv X pins σ H3 s3) (hf : ∀ b ∈ fp, FpOk X pins H3 b) (I' : Inv (cxComp X scope cl N fp s3 H3) pins' σ' H' s') : Inv X pins σ H' s' :=
 I3.call' (ch := fp) I'.os I'.base I'.hok I'.bare fun b hb => by
  obtain ⟨f0, f1, f2, f3, f4, f5⟩ := hf b hb
  exact ⟨f3, f1, f4, f5⟩
structure Apart (X : Cx) (pins : List (Addr × Obj)) (C : Addr) : Prop where
 loc : C ≠ X.env.locals
 new : X.s₀.heap.objs.size ≤ C
 cel : ∀ x c, X.env.cells.lookup x = some c → c ≠ C
 pin : ∀ p ∈ X.pn ++ pins, p.1 ≠ C
theorem Inv.apart (I3 : Inv X pins σ H3 s3) : Apart X pins s3.heap.objs.size :=
 ⟨Nat.ne_of_gt I3.lt, I3.sz, fun x c e => by obtain ⟨v, o, ho, _⟩ := I3.cell x c e; exact Nat.ne_of_lt (Heap.lt_size ho), fun p hp => Nat.ne_of_lt (Heap.lt_size (I3.pin p hp).1)⟩
theorem comp_gone {C : Addr} {h' : Heap} (I : Inv X pins σ H s) (P : Apart X pins C) (hn : H C = none) (hs : Heap.SameBut C s.heap h') : Inv X pins σ H { s with heap := h' } :=
 I.turned (t' := s.toks) (fun b o hb e => (hs.2 b hb).trans e) hn P.loc (.inr P.new) P.cel P.pin
end
structure GOwn (own : Nat) (g : TG) : Prop where
 mono : ∀ v σ H Q Q', (∀ σ' H', Q σ' H' → Q' σ' H') → g v σ H Q → g v σ H Q'
 own : ∀ v σ H Q, g v σ H Q → g v σ H fun σ' H' => Q σ' H' ∧ σ'.length = σ.length ∧ ∀ i, own ≤ i → σ'[i]? = σ[i]?
structure GsOwn (own : Nat) (g : TGs) : Prop where
 mono : ∀ v σ H Q Q', (∀ σ' H', Q σ' H' → Q' σ' H') → g v σ H Q → g v σ H Q'
 own : ∀ v σ H Q, g v σ H Q → g v σ H fun σ' H' => Q σ' H' ∧ σ'.length = σ.length ∧ ∀ i, own ≤ i → σ'[i]? = σ[i]?
theorem GOwn.name {own i : Nat} (h : i < own) : GOwn own (gName i) :=
 ⟨fun v σ H Q Q' f q => f _ _ q, fun v σ H Q q => ⟨q, List.length_set, fun j hj => List.getElem?_set_ne (by omega)⟩⟩
theorem GsOwn.nil {own : Nat} : GsOwn own gNil := ⟨fun v σ H Q Q' f q => ⟨q.1, f _ _ q.2⟩, fun v σ H Q q => ⟨q.1, q.2, rfl, fun _ _ => rfl⟩⟩
theorem GsOwn.cons {own : Nat} {t : TG} {u : TGs} (h1 : GOwn own t) (h2 : GsOwn own u) : GsOwn own (gCons t u) where
 mono := fun v σ H Q Q' f ⟨x, r, e, q⟩ => ⟨x, r, e, h1.mono _ _ _ _ _ (fun σ' H' q => h2.mono _ _ _ _ _ f q) q⟩
 own := fun v σ H Q ⟨x, r, e, q⟩ => ⟨x, r, e, h1.mono _ _ _ _ _ (fun σ1 H1 ⟨q, l1, o1⟩ => h2.mono _ _ _ _ _ (fun σ2 H2 ⟨q, l2, o2⟩ => ⟨q, l2.trans l1, fun i hi => (o2 i hi).trans (o1 i hi)⟩) (h2.own _ _ _ _ q)) (h1.own _ _ _ _ q)⟩
theorem GOwn.tup {own n : Nat} {K : PySem.W.Frag} {t : TGs} (h : GsOwn own t) : GOwn own (gTup K n t) where
 mono := fun v σ H Q Q' f ⟨a, xs, e, q1, q2, q⟩ => ⟨a, xs, e, q1, q2, h.mono _ _ _ _ _ f q⟩
 own := fun v σ H Q ⟨a, xs, e, q1, q2, q⟩ => ⟨a, xs, e, q1, q2, h.own _ _ _ _ q⟩
def PIfs (X : Cx) (ifs : List Expr) (t : TT) : Prop :=
 ∀ (pins : List (Addr × Obj)) (s : Shared) (σ : St) (H : Hp) (Q : Bool → Hp → Prop), Inv X pins σ H s → t σ H Q → wpAny (model X.prog X.w) X.A (testsOf ifs X.env) (TP X pins σ Q) X.xe s
def tYes : TT := fun _ H Q => Q true H
theorem pifs_nil {X : Cx} : PIfs X [] tYes := fun _ _ _ H _ I h => wpAny_tests_nil ⟨H, I, h⟩
theorem pifs_one {X : Cx} {c : Expr} {t : TT} (h : PT X c t) : PIfs X [c] t := fun pins s σ H Q I q => wpAny_tests_one (h pins s σ H Q I q)
def LcW (J : It) (g : TG) (tt : TT) (te : TE) (cap : List (Option Nat)) (σ : St) (Q : VK) (l : Addr) (H1 : Hp) : Prop :=
 ∃ W : Nat → Nat → List V → Hp → Prop, (∃ m, W 0 m [] (upd H1 l (.lst []))) ∧ ∀ i m acc H, W i m acc H →
  (J.stop i H ∧ Q (.ref l) H) ∨ (J.go i H ∧ ∃ N : List V → Hp → Prop, (∀ acc' H', N acc' H' → ∃ m', m' < m ∧ W (i + 1) m' acc' H') ∧
   ∀ x H', J.yld i H x H' → g x (capSt cap σ) H' fun σ2 H2 => tt σ2 H2 fun b H3 =>
    if b = true then te σ2 H3 fun y H4 => H4 l = some (.lst acc) ∧ acc.length < sizeLine ∧ N (acc ++ [y]) (upd H4 l (.lst (acc ++ [y])))
    else N acc H3)
def tLC (wi : TI) (cap : List (Option Nat)) (g : TG) (tt : TT) (te : TE) : TE := fun σ H Q => wi σ H fun J H1 => ∀ l, H1 l = none →
 LcW J g tt te cap σ Q l H1
section
variable {X : Cx} {pins : List (Addr × Obj)} {σ : St} {H1 : Hp} {s2 : Shared} {scope : Scope} {N : List Str} {own : Nat} {cap : List (Option Nat)} {cl : List (Str × Addr)} {fp : List Addr}
 {tg iter elt : Expr} {ifs : List Expr} {pos : Pos} {g : TG} {tt : TT} {te : TE} {wi : TI}
theorem comp_run {it : Addr} {tn : Nat → Heap → Prop} {J : It} {Q : VK} {RR : Value → Addr → Result → Shared → Prop} {E : Value → Shared → Prop} (I : Inv X pins σ H1 s2) (T : Turn X.prog X.w X.K tg J fp it tn) (t0 : tn 0 s2.heap)
  (f : ∀ b ∈ fp, FpOk X pins H1 b) (hc : X.calm = true) (C : CompOk X.env.scope X.N scope N own cap) (ho : GOwn own g)
  (hcl1 : ∀ x c, cl.lookup x = some c → X.env.cells.lookup x = some c) (hcl2 : ∀ y ∈ scope.names, y.2 = .free → ∃ c, cl.lookup y.1 = some c)
  (hg : ∀ s3 H3, PG (cxComp X scope cl N fp s3 H3) tg g) (ht : ∀ s3 H3, PIfs (cxComp X scope cl N fp s3 H3) ifs tt) (he : ∀ s3 H3, PE (cxComp X scope cl N fp s3 H3) elt te)
  (hw : ∀ l, H1 l = none → LcW J g tt te cap σ Q l H1)
  (fin : ∀ l C s' H' m', Inv X pins σ H' s' → s'.heap.Ns C m' → H' C = none → Apart X pins C → Q (.ref l) H' → RR (.ref l) C (.ok .next) s') :
  wpAny (model X.prog X.w) X.A (newList []) (fun acc s₃ => wpAny (model X.prog X.w) X.A (newFunctionEnv scope X.env.globals cl [] X.env.qual none .none (some X.env)) (fun cenv s₄ =>
   codeAny (model X.prog X.w) X.A (.compStart (.ListComp elt [⟨tg, iter, ifs, 0⟩] scope pos) 0 (.ref it) acc { cenv with scope := relabel scope X.env }) (RR acc cenv.locals) s₄) E s₃) E s2 := by
 refine wpAny_newObj_type (wpAny_newFunctionEnv C.nocell (by intro y hy; simp at hy) (fun h₁ hns₁ hsb₁ => ?_) C.kind)
 dsimp only at hns₁ hsb₁ ⊢
 obtain ⟨W, ⟨m0, w0⟩, turn⟩ := hw s2.heap.objs.size I.fresh
 have I3 : Inv X pins σ (upd H1 s2.heap.objs.size (.lst [])) { s2 with heap := s2.heap.push { cls := .type "list", dict := none, data := .seq ([] : List Value).toArray } } := I.lnew (ys := []) (its := []) (t' := s2.toks) .nil (Nat.zero_le _)
 generalize hs3 : ({ s2 with heap := s2.heap.push { cls := .type "list", dict := none, data := .seq ([] : List Value).toArray } } : Shared) = s3 at I3
 have hh3 : s3.heap = s2.heap.push { cls := .type "list", dict := none, data := .seq ([] : List Value).toArray } := by rw [← hs3]
 rw [← hh3] at hns₁ hsb₁ ⊢
 have e4 : ({ s2 with heap := h₁, toks := s2.toks + ([] : List (Str × Value)).length } : Shared) = { s3 with heap := h₁, toks := s2.toks } := by rw [← hs3]; rfl
 rw [e4]
 have k4 : ∀ b u, s3.heap.get? b = some u → h₁.get? b = some u := fun b u e => hsb₁.extBut b u (Nat.ne_of_lt (Heap.lt_size e)) (Heap.get?_push_of_some _ e)
 have k3 : ∀ b u, s2.heap.get? b = some u → s3.heap.get? b = some u := fun b u e => by rw [hh3]; exact Heap.get?_push_of_some _ e
 have hb2 : ∀ b ∈ fp, b < s2.heap.objs.size := fun b hb => by obtain ⟨o, e, _⟩ := T.obj _ _ t0 b hb; exact Heap.lt_size e
 have f3 : ∀ b ∈ fp, FpOk X pins (upd H1 s2.heap.objs.size (.lst [])) b := fun b hb => by
  obtain ⟨f0, fr⟩ := f b hb
  exact ⟨by rw [upd_ne (Nat.ne_of_lt (hb2 b hb))]; exact f0, fr⟩
 have hb3 : ∀ b ∈ fp, b < s3.heap.objs.size := fun b hb => by obtain ⟨o, e, _⟩ := T.obj _ _ t0 b hb; exact Heap.lt_size (k3 b o e)
 have I4 := inv_comp (tk := s2.toks) I3 C hcl1 hcl2 (fun b hb => ⟨f3 b hb, hb3 b hb⟩) hns₁ k4
 generalize hH3 : upd H1 s2.heap.objs.size (.lst []) = H3 at *
 have st4 : tn 0 h₁ := T.keep _ _ _ t0 fun b hb o e => k4 b o (k3 b o e)
 have fpX : ∀ {H' : Hp}, (∀ b ∈ fp, H' b = none) → ∀ b ∈ fp, FpOk (cxComp X scope cl N fp s3 H3) [] H' b := fun {H'} hn b hb => by
  obtain ⟨f0, f1, f2, f3', f4, f5⟩ := f3 b hb
  refine ⟨hn b hb, Nat.ne_of_lt (hb3 b hb), fun hz => ?_, .inl hb, fun x c e => f4 x c (hcl1 x c e), fun p hp => absurd (show p ∈ ([] : List (Addr × Obj)) from hp) (by simp)⟩
  rcases List.mem_cons.mp (I3.stkSub b hz) with z | z
  ·exact f1 z
  ·exact f2 z
 have loop : codeAny (model X.prog X.w) X.A (.compLoop (.ListComp elt [⟨tg, iter, ifs, 0⟩] scope pos) 0 (.ref it) (.ref s2.heap.objs.size) (compEnvC scope cl s3.heap.objs.size X.env)) (RR (.ref s2.heap.objs.size) s3.heap.objs.size) { s3 with heap := h₁, toks := s2.toks } := by
  refine compLoop_go (fun n s' => ∃ i acc H', Inv (cxComp X scope cl N fp s3 H3) [] (capSt cap σ) H' s' ∧ tn i s'.heap ∧ (∀ b ∈ fp, H' b = none) ∧ W i n acc H') ?_ m0 ⟨0, [], H3, I4, st4, fun b hb => (f3 b hb).1, w0⟩
  rintro n s' ⟨i, acc, H', I', st, fr, w⟩
  rcases turn i n acc H' w with ⟨stop, q⟩ | ⟨go, NN, hNN, step⟩
  ·refine thn (T.done (cxComp X scope cl N fp s3 H3) rfl rfl rfl hc i [] s' _ H' (fun _ _ => False) I' (fpX fr) st stop) fun r s5 ⟨hr, I5⟩ => ?_
   subst hr
   obtain ⟨m5, hn5, _⟩ := id I5.loc
   exact fin _ _ s5 H' m5 (comp_back I3 f3 I5) hn5 I5.free (TL.Inv.apart I3) q
  ·refine thn (T.item (cxComp X scope cl N fp s3 H3) rfl rfl rfl hc i [] s' _ H' (fun _ _ => False) I' (fpX fr) st go) fun r s5 ⟨u, hr, h5⟩ => ?_
   subst hr
   refine thn h5 fun _ s6 ⟨x, H6, I6, r6, y6, st6, fr6⟩ => ?_
   have I6' := I6.pinned (fpX fr6) (T.obj _ _ st6)
   refine thn (hg s3 H3 _ s6 _ H6 x u _ I6' r6 (ho.own _ _ _ _ (step x H6 y6))) fun _ s7 ⟨σ7, H7, I7, q7, l7, o7⟩ => ?_
   have cov : ∀ (i : Nat) v, (capSt cap σ)[i]? = some (some v) → σ7[i]? = some (some v) := fun i v e => by
    obtain ⟨j, c1, c2⟩ := capSt_get e
    by_cases hi : i < own
    ·exact (C.own_none hi c1).elim
    ·rw [o7 i (by omega)]; exact e
   have back : ∀ {H8 : Hp} {s8 : Shared}, Inv (cxComp X scope cl N fp s3 H3) ([] ++ pinsAt fp s6.heap) σ7 H8 s8 → Inv (cxComp X scope cl N fp s3 H3) [] (capSt cap σ) H8 s8 ∧ tn (i + 1) s8.heap ∧ ∀ b ∈ fp, H8 b = none := fun {H8 s8} I8 => by
    refine ⟨(Inv.unpinned (pins := []) I8).weak l7.symm cov, T.keep _ _ _ st6 fun b hb o e => (I8.pin (b, o) (List.mem_append_right _ (List.mem_append_right _ (mem_pinsAt hb e)))).1, fun b hb => ?_⟩
    obtain ⟨o, e, d⟩ := T.obj _ _ st6 b hb
    exact (I8.pin (b, o) (List.mem_append_right _ (List.mem_append_right _ (mem_pinsAt hb e)))).2.1
   refine thn (ht s3 H3 _ s7 σ7 H7 _ I7 q7) fun b s8 ⟨H8, I8, q8⟩ => ?_
   cases b with
   | false =>
    rw [if_neg Bool.false_ne_true] at q8 ⊢
    obtain ⟨m', hm, w8⟩ := hNN _ _ q8
    obtain ⟨J1, J2, J3⟩ := back I8
    exact ⟨m', hm, i + 1, acc, H8, J1, J2, J3, w8⟩
   | true =>
    rw [if_pos rfl] at q8 ⊢
    refine thn (he s3 H3 _ s8 σ7 H8 _ I8 q8) fun v s9 ⟨y, H9, I9, r9, ha, hz, n9⟩ => ?_
    obtain ⟨m', hm, w9⟩ := hNN _ _ n9
    refine thn (mt_append _ s9 σ7 H9 (.ref s2.heap.objs.size) [y] (.ref s2.heap.objs.size) [v] (fun _ H10 => W (i + 1) m' (acc ++ [y]) H10) I9 rfl (.cons r9 .nil) ⟨_, acc, y, rfl, rfl, ha, hz, w9⟩) fun _ s10 ⟨_, H10, I10, _, w10⟩ => ?_
    obtain ⟨J1, J2, J3⟩ := back I10
    exact ⟨m', hm, i + 1, acc ++ [y], H10, J1, J2, J3, w10⟩
 exact codeAny_compStart_list loop (T.self X.A 0 _ _ _ st4 loop)
theorem pe_lc (hi : PI X tg iter wi) (hc : X.calm = true) (C : CompOk X.env.scope X.N scope N own cap) (ho : GOwn own g)
  (hg : ∀ cl fp s3 H3, PG (cxComp X scope cl N fp s3 H3) tg g) (ht : ∀ cl fp s3 H3, PIfs (cxComp X scope cl N fp s3 H3) ifs tt) (he : ∀ cl fp s3 H3, PE (cxComp X scope cl N fp s3 H3) elt te)
  (hs : ∀ x, foldedSetIterable iter X.env x = pure x := by intro _; rfl) : PE X (.ListComp elt [⟨tg, iter, ifs, 0⟩] scope pos) (tLC wi cap g tt te) := by
 intro pins s σ H Q I h
 obtain ⟨cl, ecl, hcl1, hcl2⟩ := closure_ok (scope := scope) (env := X.env) fun y hy hf => I.ok.has y.1 (C.fre y hy hf)
 rw [eval_ListComp]
 refine wpAny_comprehension_free (use := none) rfl hs ecl C.kind C.loc (thn (hi pins s σ H _ I h) fun xv s1 h1 => thn h1 fun itv s2 h2 => ?_)
 obtain ⟨it, fp, tn, J, H2, e, I2, T, st2, f2, hw⟩ := h2
 subst e
 refine comp_run (RR := fun acc C => compPost (model X.prog X.w) X.A X.xe none (EP X pins σ Q) acc C) I2 T st2 f2 hc C ho hcl1 hcl2 (hg cl fp) (ht cl fp) (he cl fp) hw fun l Ca s' H' m' I' hn hfree hP q => ?_
 exact ⟨m', hn, fun h'' hs'' => ⟨.ref l, H', comp_gone I' hP hfree hs'', rfl, q⟩⟩
theorem ps_lc {i : Nat} {x : Str} {pos' spos : Pos} (hN : X.N.Nodup) (hi' : X.N[i]? = some x) (hx : X.env.scope.names.lookup x = some .local) (hi : PI X tg iter wi) (hc : X.calm = true) (C : CompOk X.env.scope X.N scope N own cap) (ho : GOwn own g)
  (hg : ∀ cl fp s3 H3, PG (cxComp X scope cl N fp s3 H3) tg g) (ht : ∀ cl fp s3 H3, PIfs (cxComp X scope cl N fp s3 H3) ifs tt) (he : ∀ cl fp s3 H3, PE (cxComp X scope cl N fp s3 H3) elt te)
  (hsw : swapsWith (.ListComp elt [⟨tg, iter, ifs, 0⟩] scope pos) (some (.Name x pos')) spos.line X.env = pure true := by rfl)
  (hs : ∀ x, foldedSetIterable iter X.env x = pure x := by intro _; rfl) : PS X (.Assign [.Name x pos'] (.ListComp elt [⟨tg, iter, ifs, 0⟩] scope pos) spos) (tAsg (tLC wi cap g tt te) (gName i)) := by
 intro pins s σ H D I h
 obtain ⟨cl, ecl, hcl1, hcl2⟩ := closure_ok (scope := scope) (env := X.env) fun y hy hf => I.ok.has y.1 (C.fre y hy hf)
 rw [exec_Assign_Name_used _ _ _ _ hsw]
 refine wpAny_bind (wpAny_standAt (wpAny_bind ?_))
 show wpAny _ X.A (do let _ ← comprehension (.ListComp elt [⟨tg, iter, ifs, 0⟩] scope pos) scope X.env _ (newList []) false (eval iter X.env) (some (assign (.Name x pos') X.env))) _ _ s
 refine wpAny_bind (wpAny_mono (wpAny_comprehension_free (use := some (assign (.Name x pos') X.env)) (Q := fun _ s' => SP X pins D .next s') rfl hs ecl C.kind C.loc
  (thn (hi pins s σ H _ I h) fun xv s1 h1 => thn h1 fun itv s2 h2 => ?_)) (fun _ s' hq => wpAny_pure (wpAny_pure hq)) fun _ _ e => e)
 obtain ⟨it, fp, tn, J, H2, e, I2, T, st2, f2, hw⟩ := h2
 subst e
 refine comp_run (RR := fun acc C => compPost (model X.prog X.w) X.A X.xe (some (assign (.Name x pos') X.env)) (fun _ s' => SP X pins D .next s') acc C) I2 T st2 f2 hc C ho hcl1 hcl2 (hg cl fp) (ht cl fp) (he cl fp) hw fun l Ca s' H' m' I' hn hfree hP q => ?_
 show wpAny _ X.A (assign (.Name x pos') X.env (.ref l)) _ _ _
 refine wpAny_assign_Name (store_ok2 I' hN hi' (.inl hx) (v := .ref l) rfl (fun s5 I5 ⟨a, sb, ha⟩ => ?_) (.inr hx))
 have hne : Ca ≠ a := by
  rcases ha with z | z
  ·rw [z]; exact hP.loc
  ·exact fun e => hP.cel x a z e.symm
 refine ⟨m', hn.sameBut sb hne, fun h'' hs'' => ⟨_, H', comp_gone I5 hP hfree hs'', q⟩⟩
end
section
variable {K : PySem.W.Frag} {a l : Addr} {xs : List V} {g : TG} {tt : TT} {te : TE} {cap : List (Option Nat)} {σ : St} {Q : VK} {H1 : Hp}
theorem lc_list (Pv : Nat → List V → Hp → Prop) (h0 : Pv 0 [] (upd H1 l (.lst []))) (hl : ∀ i acc H, i ≤ xs.length → Pv i acc H → SqL K H a xs)
  (hs : ∀ i x acc H, xs[i]? = some x → Pv i acc H → g x (capSt cap σ) H fun σ2 H2 => tt σ2 H2 fun b H3 =>
    if b = true then te σ2 H3 fun y H4 => H4 l = some (.lst acc) ∧ acc.length < sizeLine ∧ Pv (i + 1) (acc ++ [y]) (upd H4 l (.lst (acc ++ [y])))
    else Pv (i + 1) acc H3) (hd : ∀ acc H, Pv xs.length acc H → Q (.ref l) H) : LcW (Itl K a) g tt te cap σ Q l H1 := by
 refine ⟨fun i m acc H => m = xs.length - i ∧ i ≤ xs.length ∧ Pv i acc H, ⟨xs.length, by simp, Nat.zero_le _, h0⟩, ?_⟩
 rintro i m acc H ⟨rfl, hi, p⟩
 have q := hl i acc H hi p
 by_cases hlt : i < xs.length
 ·refine .inr ⟨⟨xs, xs[i], q, by simp [hlt]⟩, Pv (i + 1), fun acc' H' p' => ⟨xs.length - (i + 1), by omega, rfl, hlt, p'⟩, fun x H' y => ?_⟩
  obtain ⟨e, y⟩ := y
  subst e
  exact hs i x acc _ (y xs q) p
 ·have e : i = xs.length := by omega
  subst e
  exact .inl ⟨⟨xs, q, Nat.le_refl _⟩, hd acc H p⟩
theorem same_upd {H : Hp} {l : Addr} {o : HO} (hn : H l = none) : Same H (upd H l o) := fun b u e => by rw [upd_ne (ne_of_none e hn)]; exact e
theorem lc_pure {α : Type} (ds : List α) (p : α → Bool) (f : α → V) (hn : H1 l = none) (hx : SqL K H1 a xs) (hlen : xs.length = ds.length) (hz : xs.length < sizeLine)
  (hs : ∀ (i : Nat) x d H, xs[i]? = some x → ds[i]? = some d → Same H1 H → ∀ (P1 : VK) (P0 : Hp → Prop), (p d = true → P1 (f d) H) → (p d = false → P0 H) →
   g x (capSt cap σ) H fun σ2 H2 => tt σ2 H2 fun b H3 => if b = true then te σ2 H3 P1 else P0 H3)
  (hq : Q (.ref l) (upd H1 l (.lst ((ds.filter p).map f)))) : LcW (Itl K a) g tt te cap σ Q l H1 := by
 refine lc_list (fun i acc H => acc = ((ds.take i).filter p).map f ∧ H = upd H1 l (.lst acc)) ⟨rfl, rfl⟩ (fun i acc H _ ⟨_, e⟩ => by rw [e]; exact (same_upd hn).seq hx) ?_ ?_
 ·rintro i x acc H hi ⟨e1, e2⟩
  have hlt : i < xs.length := (List.getElem?_eq_some_iff.mp hi).1
  have hd : ds[i]? = some (ds[i]'(by omega)) := by simp
  generalize ds[i]'(by omega) = d at hd
  have step : ((ds.take (i + 1)).filter p).map f = acc ++ (if p d = true then [f d] else []) := by
   rw [take_succ_filter p ds i d hd, List.map_append, e1]
   cases p d <;> rfl
  refine hs i x d H hi hd (by rw [e2]; exact same_upd hn) _ _ (fun hp => ?_) (fun hp => ?_)
  ·refine ⟨by rw [e2, upd_same], ?_, ?_, ?_⟩
   ·have h1 : acc.length ≤ i := by
     rw [e1, List.length_map]
     exact Nat.le_trans (List.length_filter_le _ _) (by rw [List.length_take]; omega)
    omega
   ·rw [step, hp]; rfl
   ·rw [e2, upd_upd]
  ·refine ⟨?_, e2⟩
   rw [step, hp, if_neg Bool.false_ne_true, List.append_nil]
 ·rintro acc H ⟨e1, e2⟩
  rw [hlen, List.take_length] at e1
  rw [e2, e1]
  exact hq
end
end TL
namespace TL
open PySem PySem.Spec PyProof.Rows L2
mutual
def Dg (L T : Addr → List V → Prop) : PyData → V → Prop
 | .none, v => v = .non
 | .bool b, v => v = .bl b
 | .int i, v => v = .int i
 | .str x, v => v = .str x
 | .list ds, v => ∃ a vs, v = .ref a ∧ L a vs ∧ Dgs L T ds vs
 | .tuple ds, v => ∃ a vs, v = .ref a ∧ T a vs ∧ Dgs L T ds vs
 | .dict _, _ => False
def Dgs (L T : Addr → List V → Prop) : List PyData → List V → Prop
 | [], vs => vs = []
 | d :: ds, vs => ∃ v r, vs = v :: r ∧ Dg L T d v ∧ Dgs L T ds r
end
mutual
theorem Dg.mono {L T L' T' : Addr → List V → Prop} (hL : ∀ a vs, L a vs → L' a vs) (hT : ∀ a vs, T a vs → T' a vs) : ∀ {d : PyData} {v : V}, Dg L T d v → Dg L' T' d v
 | .none, _, h => by simpa only [Dg] using h
 | .bool _, _, h => by simpa only [Dg] using h
 | .int _, _, h => by simpa only [Dg] using h
 | .str _, _, h => by simpa only [Dg] using h
 | .list ds, _, h => by
  simp only [Dg] at h ⊢
  obtain ⟨a, vs, e, l, q⟩ := h
  exact ⟨a, vs, e, hL a vs l, Dgs.mono hL hT q⟩
 | .tuple ds, _, h => by
  simp only [Dg] at h ⊢
  obtain ⟨a, vs, e, l, q⟩ := h
  exact ⟨a, vs, e, hT a vs l, Dgs.mono hL hT q⟩
 | .dict _, _, h => by simp only [Dg] at h
theorem Dgs.mono {L T L' T' : Addr → List V → Prop} (hL : ∀ a vs, L a vs → L' a vs) (hT : ∀ a vs, T a vs → T' a vs) : ∀ {ds : List PyData} {vs : List V}, Dgs L T ds vs → Dgs L' T' ds vs
 | [], _, h => by simpa only [Dgs] using h
 | d :: ds, _, h => by
  simp only [Dgs] at h ⊢
  obtain ⟨v, r, e, l, q⟩ := h
  exact ⟨v, r, e, Dg.mono hL hT l, Dgs.mono hL hT q⟩
end
section
variable {L T : Addr → List V → Prop}
theorem dg_int {i : Int} {v : V} : Dg L T (.int i) v ↔ v = .int i := by simp only [Dg]
theorem dg_str {i : Str} {v : V} : Dg L T (.str i) v ↔ v = .str i := by simp only [Dg]
theorem dg_list {ds : List PyData} {v : V} : Dg L T (.list ds) v ↔ ∃ a vs, v = .ref a ∧ L a vs ∧ Dgs L T ds vs := by simp only [Dg]
theorem dg_tuple {ds : List PyData} {v : V} : Dg L T (.tuple ds) v ↔ ∃ a vs, v = .ref a ∧ T a vs ∧ Dgs L T ds vs := by simp only [Dg]
theorem dgs_nil {vs : List V} : Dgs L T [] vs ↔ vs = [] := by simp only [Dgs]
theorem dgs_cons {d : PyData} {ds : List PyData} {vs : List V} : Dgs L T (d :: ds) vs ↔ ∃ v r, vs = v :: r ∧ Dg L T d v ∧ Dgs L T ds r := by simp only [Dgs]
theorem Dgs.length : ∀ {ds : List PyData} {vs : List V}, Dgs L T ds vs → vs.length = ds.length
 | [], _, h => by rw [dgs_nil.mp h]; rfl
 | d :: ds, _, h => by
  obtain ⟨v, r, rfl, _, q⟩ := dgs_cons.mp h
  rw [List.length_cons, List.length_cons, Dgs.length q]
theorem dgs_ints : ∀ {ns : List Int} {vs : List V}, Dgs L T (ns.map .int) vs ↔ vs = ns.map V.int
 | [], vs => dgs_nil
 | n :: ns, vs => by
  rw [List.map_cons, dgs_cons]
  constructor
  ·rintro ⟨v, r, rfl, h1, h2⟩
   rw [dg_int.mp h1, dgs_ints.mp h2]; rfl
  ·rintro rfl
   exact ⟨_, _, rfl, dg_int.mpr rfl, dgs_ints.mpr rfl⟩
theorem Dgs.append : ∀ {ds es : List PyData} {vs us : List V}, Dgs L T ds vs → Dgs L T es us → Dgs L T (ds ++ es) (vs ++ us)
 | [], _, _, _, h, k => by rw [dgs_nil.mp h]; exact k
 | d :: ds, _, _, _, h, k => by
  obtain ⟨v, r, rfl, h1, q⟩ := dgs_cons.mp h
  exact dgs_cons.mpr ⟨v, _, rfl, h1, Dgs.append q k⟩
theorem Dgs.one {d : PyData} {v : V} (h : Dg L T d v) : Dgs L T [d] [v] := dgs_cons.mpr ⟨v, [], rfl, h, dgs_nil.mpr rfl⟩
theorem Dgs.two {d e : PyData} {v u : V} (h : Dg L T d v) (k : Dg L T e u) : Dgs L T [d, e] [v, u] := dgs_cons.mpr ⟨v, [u], rfl, h, .one k⟩
theorem Dgs.get : ∀ {ds : List PyData} {vs : List V} {i : Nat} {v : V}, Dgs L T ds vs → vs[i]? = some v → ∃ d, ds[i]? = some d ∧ Dg L T d v
 | [], _, _, _, h, e => by rw [dgs_nil.mp h] at e; simp at e
 | d :: ds, _, 0, v, h, e => by
  obtain ⟨x, r, rfl, h1, q⟩ := dgs_cons.mp h
  simp at e; subst e
  exact ⟨d, rfl, h1⟩
 | d :: ds, _, i + 1, v, h, e => by
  obtain ⟨x, r, rfl, h1, q⟩ := dgs_cons.mp h
  obtain ⟨d', e1, e2⟩ := Dgs.get (i := i) (v := v) q (by simpa using e)
  exact ⟨d', by simpa using e1, e2⟩
theorem Dgs.insert : ∀ {ds : List PyData} {vs : List V} (i : Nat) {d : PyData} {v : V}, Dgs L T ds vs → Dg L T d v → Dgs L T (ds.take i ++ d :: ds.drop i) (vs.take i ++ v :: vs.drop i)
 | ds, vs, 0, d, v, h, k => dgs_cons.mpr ⟨v, vs, by simp, k, by simpa using h⟩
 | [], vs, i + 1, d, v, h, k => by rw [dgs_nil.mp h]; simpa using Dgs.one k
 | x :: ds, vs, i + 1, d, v, h, k => by
  obtain ⟨y, r, rfl, h1, q⟩ := dgs_cons.mp h
  exact dgs_cons.mpr ⟨y, _, rfl, h1, Dgs.insert i q k⟩
end
abbrev Da (K : PySem.W.Frag) (H : Hp) : PyData → V → Prop := Dg (SqL K H) (SqT K H)
abbrev Das (K : PySem.W.Frag) (H : Hp) : List PyData → List V → Prop := Dgs (SqL K H) (SqT K H)
theorem same_tseq {K : PySem.W.Frag} {H H' : Hp} {a : Addr} {xs : List V} (e : Same H H') (h : SqT K H a xs) : SqT K H' a xs := by
 rcases h with (h | ⟨o, h⟩) | h
 ·exact .inl (.inl (e _ _ h))
 ·exact .inl (.inr ⟨o, e _ _ h⟩)
 ·exact .inr h
theorem Da.same {K : PySem.W.Frag} {H H' : Hp} (e : Same H H') {d : PyData} {v : V} (h : Da K H d v) : Da K H' d v := Dg.mono (fun _ _ q => e.seq q) (fun _ _ q => same_tseq e q) h
theorem Das.same {K : PySem.W.Frag} {H H' : Hp} (e : Same H H') {d : List PyData} {v : List V} (h : Das K H d v) : Das K H' d v := Dgs.mono (fun _ _ q => e.seq q) (fun _ _ q => same_tseq e q) h
section
variable {X : Cx} {pins : List (Addr × Obj)} {σ : St} {H : Hp} {s : Shared}
mutual
theorem Da.reads (I : Inv X pins σ H s) : ∀ {d : PyData} {v : V} {u : Value}, Da X.K H d v → RelV v u → ∃ as, Reads s.heap u d as
 | .none, v, u, h, r => by
  have e : v = .non := by simpa only [Dg] using h
  subst e; cases r; exact ⟨_, .none⟩
 | .bool b, v, u, h, r => by
  have e : v = .bl b := by simpa only [Dg] using h
  subst e; cases r; exact ⟨_, .bool b⟩
 | .int i, v, u, h, r => by
  have e : v = .int i := by simpa only [Dg] using h
  subst e; obtain ⟨t, rfl⟩ := r; exact ⟨_, .int i t⟩
 | .str i, v, u, h, r => by
  have e : v = .str i := by simpa only [Dg] using h
  subst e; obtain ⟨t, rfl⟩ := r; exact ⟨_, .str i t⟩
 | .list ds, v, u, h, r => by
  obtain ⟨a, vs, rfl, l, q⟩ := dg_list.mp h
  cases r
  obtain ⟨its, rv, p, hz⟩ := I.list l
  obtain ⟨as, rs⟩ := Das.reads I q rv
  obtain ⟨o, ho, hc, n, hd⟩ := p.isList
  exact ⟨_, .list ho hc hd (by simpa using rs)⟩
 | .tuple ds, v, u, h, r => by
  obtain ⟨a, vs, rfl, l, q⟩ := dg_tuple.mp h
  cases r
  obtain ⟨its, rv, p, hz⟩ := I.tuple l
  obtain ⟨as, rs⟩ := Das.reads I q rv
  obtain ⟨o, ho, hc, n, hd⟩ := p
  exact ⟨_, .tuple ho hc hd (by simpa using rs)⟩
 | .dict _, v, u, h, r => by simp only [Dg] at h
theorem Das.reads (I : Inv X pins σ H s) : ∀ {ds : List PyData} {vs : List V} {us : List Value}, Das X.K H ds vs → Vals vs us → ∃ as, ReadsAll s.heap us ds as
 | [], vs, us, h, r => by
  rw [dgs_nil.mp h] at r; cases r; exact ⟨_, .nil⟩
 | d :: ds, vs, us, h, r => by
  obtain ⟨v, w, rfl, h1, q⟩ := dgs_cons.mp h
  cases r with
  | cons r1 r2 =>
   obtain ⟨as, e1⟩ := Da.reads I h1 r1
   obtain ⟨bs, e2⟩ := Das.reads I q r2
   exact ⟨_, .cons e1 e2⟩
end
end
section
variable {X : Cx}
def OkD (d : PyData) : Prop := d.canLay0 = true ∧ d.depth ≤ 20
def rEqD (K : PySem.W.Frag) : R2 := fun x y H Q => ∃ d e, Da K H d x ∧ Da K H e y ∧ OkD d ∧ OkD e ∧ Q (.bl (PyData.eqv d e)) H
def rNeD (K : PySem.W.Frag) : R2 := fun x y H Q => ∃ d e, Da K H d x ∧ Da K H e y ∧ OkD d ∧ OkD e ∧ Q (.bl (!PyData.eqv d e)) H
theorem op_eqD (hu : X.A.units + 64 < cLine) : OpR X (compareOp .Eq) (rEqD X.K) := by
 intro pins s σ H x y v u Q I rx ry h
 obtain ⟨d, e, h1, h2, o1, o2, q⟩ := h
 obtain ⟨as, r1⟩ := Da.reads I h1 rx
 obtain ⟨bs, r2⟩ := Da.reads I h2 ry
 exact SeqAt.compareEq_reads r1 r2 o1.1 o2.1 (by have := o1.2; have := o2.2; omega) ⟨.bl _, H, I, rfl, q⟩
theorem op_neD (hu : X.A.units + 64 < cLine) : OpR X (compareOp .NotEq) (rNeD X.K) := by
 intro pins s σ H x y v u Q I rx ry h
 obtain ⟨d, e, h1, h2, o1, o2, q⟩ := h
 obtain ⟨as, r1⟩ := Da.reads I h1 rx
 obtain ⟨bs, r2⟩ := Da.reads I h2 ry
 exact SeqAt.compareNe_reads r1 r2 o1.1 o2.1 (by have := o1.2; have := o2.2; omega) ⟨.bl _, H, I, rfl, q⟩
def OkDs (ds : List PyData) : Prop := PyData.canLayAll0 ds = true ∧ PyData.depthAll ds ≤ 20
def rInD (K : PySem.W.Frag) (neg : Bool) : R2 := fun x y H Q => ∃ ds d, Da K H (.list ds) y ∧ Da K H d x ∧ OkDs ds ∧ OkD d ∧ Q (.bl (if neg then !(ds.any fun z => PyData.eqv z d) else ds.any fun z => PyData.eqv z d)) H
theorem op_notInD (hu : X.A.units + 64 < cLine) : OpR X (compareOp .NotIn) (rInD X.K true) := by
 intro pins s σ H x y v u Q I rx ry h
 obtain ⟨ds, d, h1, h2, o1, o2, q⟩ := h
 obtain ⟨as, r1⟩ := Da.reads I h1 ry
 obtain ⟨bs, r2⟩ := Da.reads I h2 rx
 exact SeqAt.notIn_list_reads r1 r2 o1.1 o2.1 (by have := o1.2; have := o2.2; omega) ⟨.bl _, H, I, rfl, q⟩
end
theorem canLayAll0_map {α : Type} {f : α → PyData} (h : ∀ x, (f x).canLay0 = true) : ∀ l : List α, PyData.canLayAll0 (l.map f) = true
 | [] => by simp [PyData.canLayAll0]
 | x :: l => by simp [PyData.canLayAll0, h x, canLayAll0_map h l]
theorem depthAll_map {α : Type} {f : α → PyData} {k : Nat} (h : ∀ x, (f x).depth ≤ k) : ∀ l : List α, PyData.depthAll (l.map f) ≤ k
 | [] => by simp [PyData.depthAll]
 | x :: l => by
  simp only [List.map_cons, PyData.depthAll]
  exact Nat.max_le.mpr ⟨h x, depthAll_map h l⟩
def dI (ns : List Int) : PyData := .list (ns.map .int)
def dP (p : Int × Int) : PyData := .tuple [.int p.1, .int p.2]
def dJ (js : List (Int × Int)) : PyData := .list (js.map dP)
def dL (l : Int × List (Int × Int)) : PyData := .tuple [.int l.1, dJ l.2]
theorem okD_int (i : Int) : OkD (.int i) := ⟨rfl, by simp [PyData.depth]⟩
theorem okD_ints (ns : List Int) : OkD (dI ns) := ⟨by simp only [dI, PyData.canLay0]; exact canLayAll0_map (fun _ => rfl) ns, by
 simp only [dI, PyData.depth]
 have := depthAll_map (f := PyData.int) (k := 0) (fun _ => by simp [PyData.depth]) ns
 omega⟩
theorem canLay_P (p : Int × Int) : (dP p).canLay0 = true := by simp [dP, PyData.canLay0, PyData.canLayAll0]
theorem depth_P (p : Int × Int) : (dP p).depth ≤ 1 := by simp [dP, PyData.depth, PyData.depthAll]
theorem okD_P (p : Int × Int) : OkD (dP p) := ⟨canLay_P p, by have := depth_P p; omega⟩
theorem okDs_P (js : List (Int × Int)) : OkDs (js.map dP) := ⟨canLayAll0_map canLay_P js, by have := depthAll_map depth_P js; omega⟩
theorem eqv_same {d : PyData} (h : OkD d) : PyData.eqv d d = true := SeqAt.eqv_refl d h.1
theorem eqv_P (p q : Int × Int) : PyData.eqv (dP p) (dP q) = decide (p = q) := by
 obtain ⟨a, b⟩ := p
 obtain ⟨c, d⟩ := q
 simp only [dP, PyData.eqv, PyData.eqvAll, Bool.and_true]
 rw [Bool.eq_iff_iff]
 simp
theorem any_P (js : List (Int × Int)) (p : Int × Int) : ((js.map dP).any fun z => PyData.eqv z (dP p)) = decide (p ∈ js) := by
 rw [List.any_map, Bool.eq_iff_iff, List.any_eq_true, decide_eq_true_iff]
 constructor
 ·rintro ⟨x, hx, e⟩
  have e' : PyData.eqv (dP x) (dP p) = true := e
  rw [eqv_P, decide_eq_true_iff] at e'
  rw [← e']; exact hx
 ·intro h
  exact ⟨p, h, by show PyData.eqv (dP p) (dP p) = true; rw [eqv_P]; simp⟩
theorem eqv_list_nil (ds : List PyData) : PyData.eqv (.list ds) (.list []) = ds.isEmpty := by
 cases ds <;> simp [PyData.eqv, PyData.eqvAll]
theorem okD_nil : OkD (.list []) := okD_ints []
end TL
namespace TL
open PySem PySem.Spec PyProof.Rows L2
section
variable {X : Cx}
theorem ins_arr (its : List Value) (k : Nat) (y : Value) : (its.toArray.extract 0 k).push y ++ its.toArray.extract k = (its.take k ++ y :: its.drop k).toArray := PySem.W.kl_ins_eq its k y
def rInsert : V → List V → Hp → VK → Prop := fun x vs H Q => ∃ l xs i y, x = .ref l ∧ vs = [.int i, y] ∧ H l = some (.lst xs) ∧ 0 ≤ i ∧ i ≤ xs.length ∧ xs.length < sizeLine ∧ Q .non (upd H l (.lst (xs.take i.toNat ++ y :: xs.drop i.toNat)))
theorem mt_insert : MtM X "list.insert" rInsert := by
 intro pins s σ H x vs v us Q I rx rv h
 obtain ⟨l, xs, i, y, rfl, rfl, hH, h0, h1, hz, q⟩ := h
 cases rx
 obtain ⟨ui, u, rfl, ri, ru⟩ := rv.two
 obtain ⟨t, rfl⟩ := ri
 obtain ⟨z, its, n, r, hl, e⟩ := I.lstM hH
 have hs : its.toArray.size ≤ sizeLine := by rw [List.size_toArray]; omega
 have hf : Builtin.List.listFitsIndex i = true := by
  unfold Builtin.List.listFitsIndex
  have h63 : (sizeLine : Nat) < 2 ^ 62 := by rw [sizeLine_eq]; decide
  simp only [Bool.and_eq_true, decide_eq_true_eq]
  constructor <;> omega
 refine call_meets PySem.F.slot_list_insert ⟨_, e, rfl⟩ PySem.F.entry_list_insert (PySem.F.args_list_insert_3 _ _ _) (PySem.AutoSeq1.list_insert_list_int_val_1 l its.toArray n i t u (by simp [hf]) hs) ⟨e, ?_⟩
 refine ⟨.non, _, I.lset (its' := its.take i.toNat ++ u :: its.drop i.toNat) (ys := xs.take i.toNat ++ y :: xs.drop i.toNat) hH e ?_ ((r.take i.toNat).append (.cons ru (r.drop i.toNat))) ?_, rfl, q⟩
 ·have hk : (if i < 0 then (i + (its.toArray.size : Int)).toNat else min i.toNat its.toArray.size) = i.toNat := by
   rw [if_neg (by omega), List.size_toArray]
   omega
  show (its.toArray.extract 0 (if i < 0 then (i + (its.toArray.size : Int)).toNat else min i.toNat its.toArray.size)).push u ++ its.toArray.extract (if i < 0 then (i + (its.toArray.size : Int)).toNat else min i.toNat its.toArray.size) = _
  rw [hk, ins_arr]
 ·rw [List.length_append, List.length_cons, List.length_take, List.length_drop]
  omega
end
def srt (ns : List Int) : List Int := ns.mergeSort (fun a b => decide (a ≤ b))
theorem srt_perm (ns : List Int) : (srt ns).Perm ns := List.mergeSort_perm ns _
theorem srt_pair (ns : List Int) : (srt ns).Pairwise (· ≤ ·) := by
 have h := List.pairwise_mergeSort (le := fun a b : Int => decide (a ≤ b)) (by intro a b c h1 h2; simp only [decide_eq_true_eq] at *; omega) (by intro a b; simp only [Bool.or_eq_true, decide_eq_true_eq]; omega) ns
 exact h.imp (by intro a b h; simpa using h)
theorem srt_unique {a b : List Int} (hp : a.Perm b) (ha : a.Pairwise (· ≤ ·)) (hb : b.Pairwise (· ≤ ·)) : a = b := PySem.W.ksm_same hp ha hb
theorem srt_eq {a ns : List Int} (hp : a.Perm ns) (ha : a.Pairwise (· ≤ ·)) : a = srt ns := srt_unique (hp.trans (srt_perm ns).symm) ha (srt_pair ns)
theorem srt_congr {a b : List Int} (hp : a.Perm b) : srt a = srt b := srt_eq ((srt_perm a).trans hp) (srt_pair a)
theorem srt_mem {ns : List Int} {x : Int} : x ∈ srt ns ↔ x ∈ ns := (srt_perm ns).mem_iff
theorem srt_length (ns : List Int) : (srt ns).length = ns.length := (srt_perm ns).length_eq
section
variable {X : Cx}
theorem call_sorted : CallR X (.builtin "sorted") (fun xs H Q => ∃ a ns, xs = [.ref a] ∧ SqL X.K H a (ns.map V.int) ∧ ns.length < 64 ∧ ∀ p, H p = none → Q (.ref p) (upd H p (.lst ((srt ns).map V.int)))) := by
 intro pins s σ H xs us Q I r h
 obtain ⟨a, ns, rfl, hx, h64, q⟩ := h
 obtain ⟨u, rfl, ru⟩ := vals1 r
 cases ru
 obtain ⟨its, rv, p, hz⟩ := I.list hx
 have hlen := rv.length
 rw [List.length_map] at hlen
 refine sorted_ints p.isList (intsAre_of rv) (by omega) fun out ns' h1 h2 h3 => ?_
 obtain ⟨e, he⟩ := sortedAll_at s.heap its out
 have e' : ns' = srt ns := srt_eq h2 h3
 subst e'
 have vo : Vals ((srt ns).map V.int) out.toList := vals_ints h1
 refine ⟨.ref (s.heap.objs.size + 1), _, I.laid (t' := s.toks) (o := .lst ((srt ns).map V.int)) (fun b ob q => sortedAll_old q) (Nat.le_succ _) ⟨?_, out.toList, e, vo, ?_⟩, rfl, q _ (I.hok.fresh (Nat.le_succ _))⟩
 ·rw [List.length_map, srt_length]
  rw [List.length_map] at hz
  exact hz
 ·rw [he, Array.toArray_toList]
end
theorem Inv.turnedTup {X : Cx} {pins : List (Addr × Obj)} {σ : St} {H : Hp} {s : Shared} {h' : Heap} {t' : Nat} {ch : List Addr} {xs : List V} {us : List Value} (I : Inv X pins σ H s) (hf : ∀ b ∈ ch, FpOk X pins H b)
  (keep : ∀ b o, b ∉ ch → s.heap.get? b = some o → h'.get? b = some o) (r : Vals xs us) (hz : xs.length ≤ sizeLine) (ht : h'.get? s.heap.objs.size = some { cls := .type "tuple", data := .seq us.toArray }) :
  Inv X pins σ (upd H s.heap.objs.size (.tup xs)) { s with heap := h', toks := t' } := by
 have hn : H s.heap.objs.size = none := I.fresh
 have nch : ∀ b u, H b = some u → b ∉ ch := fun b u q z => by rw [(hf b z).1] at q; cases q
 refine I.step (g' := s.gens) (d' := s.drawn) (ch := ch) (fun b hb => ?_) (fun b o _ _ hc q _ => keep b o hc q) (fun b o _ _ hc q _ => ⟨o.slots, keep b o hc q⟩) (fun b o _ q n => ?_)
  (fun b o hc q => ⟨o, keep b o hc q⟩) (fun b ys q => by rw [upd_ne (ne_of_none q hn)]; exact q) (fun b o ys q => by rw [upd_ne (ne_of_none q hn)]; exact q) (fun b ps q => ⟨#[], by rw [upd_ne (ne_of_none q hn), q]; simp⟩) (fun m hm => ?_) (fun b u q => ?_) I.bare
 ·obtain ⟨f0, f1, f2, f3, f4, f5⟩ := hf b hb
  exact ⟨f3, f1, f4, f5⟩
 ·rw [upd_ne (Nat.ne_of_lt (Heap.lt_size q))]; exact n
 ·obtain ⟨o, es, ep, ho, r⟩ := hm
  exact ⟨o, es, ep, keep _ o (fun z => (hf _ z).2.1 rfl) ho, r⟩
 ·by_cases hb : b = s.heap.objs.size
  ·subst hb
   rw [upd_same] at q
   cases q
   exact ⟨hz, us, r, ⟨_, ht, rfl, _, rfl⟩⟩
  ·rw [upd_ne hb] at q
   refine (I.hok b u q).stay (fun c v hc q' => keep c v ?_ q') (fun c z => by rw [upd_ne (ne_of_none z hn)]; exact z) fun c ys z => by rw [upd_ne (ne_of_none z hn)]; exact z
   rcases hc with z | z
   ·rw [z]; exact nch b u q
   ·exact nch c _ z
def Ite (K : PySem.W.Frag) (a : Addr) : It :=
 ⟨fun i H => ∃ xs x, SqL K H a xs ∧ xs[i]? = some x, fun i H x H' => ∃ p, H p = none ∧ x = .ref p ∧ ∀ xs y, SqL K H a xs → xs[i]? = some y → H' = upd H p (.tup [.int i, y]), fun i H => ∃ xs, SqL K H a xs ∧ xs.length ≤ i⟩
theorem turn_enum {P : Program} {w : World} {K : PySem.W.Frag} {es : List Expr} {x1 : Nat} {pt : Pos} (a e it : Addr) (hne : e ≠ it) :
  Turn P w K (.Tuple es x1 pt) (Ite K a) [e, it] e (fun i h => ∃ old, IsEnum h e it i old ∧ h.IsListIter it a i) where
 mem := by simp
 obj := fun i h st b hb => by
  obtain ⟨old, h1, h2⟩ := st
  rcases List.mem_cons.mp hb with z | z
  ·subst z; exact ⟨_, h1, fun v z => by cases z⟩
  ·have z : b = it := by simpa using z
   subst z
   obtain ⟨o, ho, c, d⟩ := h2
   exact ⟨o, ho, fun v z => by rw [d] at z; cases z⟩
 keep := fun i h h' ⟨old, h1, h2⟩ k => ⟨old, k e (by simp) _ h1, h2.at fun o q => k it (by simp) o q⟩
 item := by
  intro X hP hw hK hc i pins s σ H E I hf st hg
  subst hP hw hK
  obtain ⟨old, h1, h2⟩ := st
  obtain ⟨xs, x, hq, hx⟩ := hg
  obtain ⟨its, rv, p, hz⟩ := I.list hq
  obtain ⟨u, hu, ru⟩ := rv.get hx
  have lt1 : e < s.heap.objs.size := Heap.lt_size h1
  refine wpAny_pyNext_enum_item h1 h2 p.isList (x := u) (by simpa using hu) hne fun h' k1 k2 k3 k4 k5 => ?_
  refine ⟨_, rfl, ?_⟩
  refine wpAny_letOwnedTupleGo_enum (s := { s with heap := h', toks := s.toks + 1 }) k1 fun h'' m1 m2 => ?_
  have keep : ∀ b o, b ∉ [e, it] → s.heap.get? b = some o → h''.get? b = some o := fun b o hb q => m2.extBut b o (fun z => hb (by simp [z])) (k5 b o (fun z => hb (by simp [z])) (fun z => hb (by simp [z])) q)
  have ht : h''.get? s.heap.objs.size = some { cls := .type "tuple", data := .seq [Value.int i s.toks, u].toArray } := m2.extBut _ _ (Nat.ne_of_gt lt1) k3
  have J1 : Inv X pins σ (upd H s.heap.objs.size (.tup [.int i, x])) { s with heap := h'', toks := s.toks + 1 } := Inv.turnedTup I hf keep (.cons ⟨_, rfl⟩ (.cons ru .nil)) (by show 2 ≤ sizeLine; decide) ht
  have hn : H s.heap.objs.size = none := I.fresh
  refine ⟨.ref s.heap.objs.size, _, J1, rfl, ⟨_, hn, rfl, fun ys y hy h => ?_⟩, ⟨u, ?_, ?_⟩, fun b hb => ?_⟩
  ·have e1 := I.list_inj hy hq
   subst e1
   rw [hx] at h
   cases h
   rfl
  ·have e1 : ((i + 1 : Nat) : Int) = (i : Int) + 1 := by omega
   rw [e1]; exact m1
  ·exact k2.extBut m2.extBut (Ne.symm hne)
  ·obtain ⟨o, q, _⟩ : ∃ o, s.heap.get? b = some o ∧ True := by
    rcases List.mem_cons.mp hb with z | z
    ·subst z; exact ⟨_, h1, trivial⟩
    ·have z : b = it := by simpa using z
     subst z
     obtain ⟨o, ho, _⟩ := h2
     exact ⟨o, ho, trivial⟩
   rw [upd_ne (Nat.ne_of_lt (Heap.lt_size q))]
   exact (hf b hb).1
 done := by
  intro X hP hw hK hc i pins s σ H E I hf st hg
  subst hP hw hK
  obtain ⟨old, h1, h2⟩ := st
  obtain ⟨xs, hq, hx⟩ := hg
  obtain ⟨its, rv, p, hz⟩ := I.list hq
  obtain ⟨g0, g1, g2, g3, g4, g5⟩ := hf it (by simp)
  have hl := rv.length
  exact wpAny_pyNext_enum_end (I.ok.hd hc) h1 h2 p.isList (by simp; omega) fun h' eb => ⟨rfl, I.turned (t' := s.toks) (fun b o hb e => eb b o hb e) g0 g1 g3 g4 g5⟩
 self := fun _ _ _ _ _ ⟨old, h1, h2⟩ h => wpAny_pyIter_enum h1 h
section
variable {X : Cx}
def iEnum (K : PySem.W.Frag) (ta : TA) : TI := fun σ H R => ta σ H fun vs H1 => ∃ a, vs = [.ref a] ∧ (∃ xs, SqL K H1 a xs) ∧ R (Ite K a) H1
theorem pi_enum {a : Expr} {ta : TA} {p pos : Pos} {es : List Expr} {x1 : Nat} {pt : Pos} (hg : Gl X "enumerate") (hm : X.mg "enumerate" = none) (ha : PA X [a] ta) (hs : starEach [a] X.env = [(false, eval a X.env)] := by rfl) : PI X (.Tuple es x1 pt) (.Call (.Name "enumerate" p) [a] [] pos) (iEnum X.K ta) := by
 intro pins s σ H R I h
 refine Call_ (ld_blt I hg hm boot_enumerate (PyProof.Rows.callWith_type1 (thn (ha pos pins s σ H _ I h) fun us s1 ⟨vs, H1, I1, r1, q1⟩ => ?_) hs rfl))
 obtain ⟨a, e, ⟨xs, hq⟩, q⟩ := q1
 subst e
 obtain ⟨u, rfl, ru⟩ := vals1 r1
 cases ru
 obtain ⟨its, rv, pl, hz⟩ := I1.list hq
 refine call_enumerate_list pl.isList fun h' k1 k2 k3 k4 => ?_
 refine wpAny_pyIter_enum (s := { s1 with heap := h' }) k1 ?_
 refine ⟨s1.heap.objs.size + 1, [s1.heap.objs.size + 1, s1.heap.objs.size], _, _, H1, rfl, I1.kept (t' := s1.toks) k4, turn_enum a _ _ (Nat.succ_ne_self _), ⟨.none, k1, k2⟩, fun b hb => ?_, q⟩
 have hb' : s1.heap.objs.size ≤ b := by
  rcases List.mem_cons.mp hb with z | z
  ·rw [z]; exact Nat.le_succ _
  ·have z : b = s1.heap.objs.size := by simpa using z
   rw [z]; exact Nat.le_refl _
 exact I1.fpOk hb' (I1.hok.fresh hb')
end
theorem for_enum {K : PySem.W.Frag} {a : Addr} {xs : List V} {g : TG} {tb : TS} {D : Ends} {σ : St} {H : Hp} (Pv : Nat → St → Hp → Prop) (h0 : Pv 0 σ H) (hl : ∀ i σ H, i ≤ xs.length → Pv i σ H → SqL K H a xs)
  (hs : ∀ i x σ H p, xs[i]? = some x → Pv i σ H → H p = none → g (.ref p) σ (upd H p (.tup [.int i, x])) fun σ2 H2 => tb { D with nx := Pv (i + 1), ct := Pv (i + 1), bk := D.nx } σ2 H2) (hd : ∀ σ H, Pv xs.length σ H → D.nx σ H) :
  ∃ W : Nat → Nat → St → Hp → Prop, (∃ m, W 0 m σ H) ∧ ∀ i m σ H, W i m σ H →
   ((Ite K a).stop i H ∧ D.nx σ H) ∨ ((Ite K a).go i H ∧ ∃ N : St → Hp → Prop, (∀ σ' H', N σ' H' → ∃ m', m' < m ∧ W (i + 1) m' σ' H') ∧ ∀ x H', (Ite K a).yld i H x H' → g x σ H' fun σ2 H2 => tb { D with nx := N, ct := N, bk := D.nx } σ2 H2) := by
 refine ⟨fun i m σ H => m = xs.length - i ∧ i ≤ xs.length ∧ Pv i σ H, ⟨xs.length, by simp, Nat.zero_le _, h0⟩, ?_⟩
 rintro i m σ H ⟨rfl, hi, p⟩
 have q := hl i σ H hi p
 by_cases hlt : i < xs.length
 ·refine .inr ⟨⟨xs, xs[i], q, by simp [hlt]⟩, Pv (i + 1), fun σ' H' p' => ⟨xs.length - (i + 1), by omega, rfl, hlt, p'⟩, fun x H' y => ?_⟩
  obtain ⟨pa, hp, e, y⟩ := y
  subst e
  have hx : xs[i]? = some xs[i] := by simp [hlt]
  rw [y xs _ q hx]
  exact hs i _ σ H pa hx p hp
 ·have e : i = xs.length := by omega
  subst e
  exact .inl ⟨⟨xs, q, Nat.le_refl _⟩, hd σ H p⟩
def Itv (K : PySem.W.Frag) (a : Addr) : It :=
 ⟨fun i H => ∃ xs x, SqL K H a xs ∧ xs.reverse[i]? = some x, fun i H x H' => H' = H ∧ ∀ xs, SqL K H a xs → xs.reverse[i]? = some x, fun i H => ∃ xs, SqL K H a xs ∧ xs.length = i⟩
theorem turn_rev {P : Program} {w : World} {K : PySem.W.Frag} {tg : Expr} (a it : Addr) (n : Nat) : Turn P w K tg ⟨fun i H => (Itv K a).go i H ∧ ∃ xs, SqL K H a xs ∧ xs.length = n, (Itv K a).yld, fun i H => i = n⟩ [it] it (fun i h => i ≤ n ∧ h.IsRevIter it a ((n : Int) - 1 - (i : Int))) where
 mem := by simp
 obj := fun i h st b hb => by
  have e : b = it := by simpa using hb
  subst e
  obtain ⟨_, o, e, c, d⟩ := st
  exact ⟨o, e, fun v z => by rw [d] at z; cases z⟩
 keep := fun i h h' st k => ⟨st.1, st.2.at fun o e => k it (by simp) o e⟩
 item := by
  intro X hP hw hK hc i pins s σ H E I hf st hg
  subst hP hw hK
  obtain ⟨⟨xs, x, hq, hx⟩, ys, hq2, hn⟩ := hg
  have e0 := I.list_inj hq2 hq
  subst e0
  obtain ⟨its, rv, p, hz⟩ := I.list hq
  have hil : i < ys.length := by have := (List.getElem?_eq_some_iff.mp hx).1; rwa [List.length_reverse] at this
  have hx' : ys[ys.length - 1 - i]? = some x := by rw [List.getElem?_reverse hil] at hx; exact hx
  obtain ⟨u, hu, ru⟩ := rv.get hx'
  obtain ⟨f0, f1, f2, f3, f4, f5⟩ := hf it (by simp)
  have e1 : (n : Int) - 1 - (i : Int) = ((ys.length - 1 - i : Nat) : Int) := by omega
  have st2 := st.2
  rw [e1] at st2
  refine wpAny_pyNext_rev_item st2 p.isList (x := u) (by simpa using hu) fun h' st' sb => ?_
  have I1 : Inv X pins σ H { s with heap := h' } := I.turned (t' := s.toks) (fun b o hb e => (sb.2 b hb).trans e) f0 f1 f3 f4 f5
  have e2 : ((ys.length - 1 - i : Nat) : Int) - 1 = (n : Int) - 1 - ((i + 1 : Nat) : Int) := by omega
  rw [e2] at st'
  obtain ⟨o, e, c, d⟩ := id st'
  exact ⟨u, rfl, go_of (s := { s with heap := h' }) e c d (by decide) ⟨x, H, I1, ru, ⟨rfl, fun zs hy => by rw [I.list_inj hy hq]; exact hx⟩, ⟨by omega, st'⟩, fun b hb => (hf b hb).1⟩⟩
 done := by
  intro X hP hw hK hc i pins s σ H E I hf st hg
  subst hP hw hK
  have hg : i = n := hg
  subst hg
  obtain ⟨f0, f1, f2, f3, f4, f5⟩ := hf it (by simp)
  have e1 : (i : Int) - 1 - (i : Int) = -1 := by omega
  have st2 := st.2
  rw [e1] at st2
  exact wpAny_pyNext_rev_end (I.ok.hd hc) st2 fun h' eb => ⟨rfl, I.turned (t' := s.toks) (fun b o hb e => eb b o hb e) f0 f1 f3 f4 f5⟩
 self := fun _ _ _ _ _ st h => wpAny_pyIter_revIter st.2 h
section
variable {X : Cx} {tg : Expr}
def iRev (K : PySem.W.Frag) (ta : TA) : TI := fun σ H R => ta σ H fun vs H1 => ∃ a xs, vs = [.ref a] ∧ SqL K H1 a xs ∧ R ⟨fun i H => (Itv K a).go i H ∧ ∃ ys, SqL K H a ys ∧ ys.length = xs.length, (Itv K a).yld, fun i H => i = xs.length⟩ H1
theorem pi_rev {a : Expr} {ta : TA} {p pos : Pos} (hg : Gl X "reversed") (hm : X.mg "reversed" = none) (ha : PA X [a] ta) (hs : starEach [a] X.env = [(false, eval a X.env)] := by rfl) : PI X tg (.Call (.Name "reversed" p) [a] [] pos) (iRev X.K ta) := by
 intro pins s σ H R I h
 refine Call_ (ld_blt I hg hm boot_reversed (PyProof.Rows.callWith_type1 (thn (ha pos pins s σ H _ I h) fun us s1 ⟨vs, H1, I1, r1, q1⟩ => ?_) hs rfl))
 obtain ⟨a, xs, e, hq, q⟩ := q1
 subst e
 obtain ⟨u, rfl, ru⟩ := vals1 r1
 cases ru
 obtain ⟨its, rv, pl, hz⟩ := I1.list hq
 have hl := rv.length
 refine call_reversed_list pl.isList ?_
 have hit : Heap.IsRevIter (s1.heap.push (revObj a ((its.toArray.size : Int) - 1))) s1.heap.objs.size a (((xs.length : Nat) : Int) - 1 - ((0 : Nat) : Int)) := by
  refine ⟨_, Heap.get?_push_size _ rfl, rfl, ?_⟩
  have e1 : ((xs.length : Nat) : Int) - 1 - ((0 : Nat) : Int) = (its.toArray.size : Int) - 1 := by rw [List.size_toArray]; omega
  rw [e1]; rfl
 refine wpAny_pyIter_revIter (s := { s1 with heap := s1.heap.push (revObj a ((its.toArray.size : Int) - 1)) }) hit ?_
 refine ⟨s1.heap.objs.size, [s1.heap.objs.size], _, _, H1, rfl, I1.kept (t' := s1.toks) (fun b o e => Heap.get?_push_of_some _ e), turn_rev a _ xs.length, ⟨Nat.zero_le _, hit⟩, fun b hb => ?_, q⟩
 have e : b = s1.heap.objs.size := by simpa using hb
 subst e
 exact I1.fpOk (Nat.le_refl _) (I1.hok.fresh (Nat.le_refl _))
end
section
variable {X : Cx} {e : Expr} {te : TE} {pos p2 : Pos}
def tRevSl (K : PySem.W.Frag) (te ts : TE) : TE := fun σ H Q => te σ H fun x H1 => ts σ H1 fun y H2 => ∃ i, y = .int i ∧ ∃ a xs, some i = some (-1 : Int) ∧ x = .ref a ∧ SqL K H2 a xs ∧ ∀ p, H2 p = none → Q (.ref p) (upd H2 p (.lst xs.reverse))
theorem pe_revsl {st : Expr} {ts : TE} (he : PE X e te) (hs : PE X st ts) : PE X (.Subscript e (.Slice none none (some st) p2) pos) (tRevSl X.K te ts) := by
 intro pins s σ H Q I h
 refine Subscript_ (thn (he pins s σ H _ I h) fun v s1 ⟨x, H1, I1, r1, q1⟩ => ?_)
 refine wpAny_Slice ?_
 rw [evalPart_none]
 refine wpAny_pure (wpAny_pure (thn (po_some hs pins s1 σ H1 (fun o H2 => ∃ a xs, o = some (-1) ∧ x = .ref a ∧ SqL X.K H2 a xs ∧ ∀ p, H2 p = none → Q (.ref p) (upd H2 p (.lst xs.reverse))) I1 q1) fun vk s3 ⟨o, H3, I3, pk, q3⟩ => ?_))
 ·obtain ⟨a, xs, rfl, rfl, hq, q⟩ := q3
  cases r1
  have I4 : Inv X pins σ H3 { s3 with heap := s3.heap.push { cls := .type "slice", data := .fields #[.none, .none, vk] } } := I3.kept (t' := s3.toks) fun b ob q => Heap.get?_push_of_some _ q
  obtain ⟨its, r, ht, hz⟩ := I4.list hq
  have hlen := r.length
  refine tail_any (ops := [.ref a, .ref s3.heap.objs.size]) ht.isList.typeIs slot_list_getitem.lookup ?_ (by with_unfolding_all rfl)
  refine wpAny_getItem_list_slice ht.isList (Heap.IsSliceOf.new ..) .none .none pk (by simp) ?_ (by rw [List.size_toArray] <;> omega)
  rw [PySem.W.krv_pick]
  refine ⟨.ref _, _, I4.laid (t' := s3.toks) (o := .lst xs.reverse) (fun b ob q => Heap.get?_push_of_some _ q) (Nat.le_refl _) ⟨by rw [List.length_reverse]; exact hz, its.reverse, 0, r.reverse, ?_⟩, rfl, q _ (I4.hok.fresh (Nat.le_refl _))⟩
  exact Heap.get?_push_size _ rfl
end
end TL
namespace TL
open PySem PySem.Spec PyProof.Rows L2
structure Bl (mg : Str → Option Value) : Prop where
 len : mg "len" = none
 range : mg "range" = none
 sorted : mg "sorted" = none
 enumerate : mg "enumerate" = none
 reversed : mg "reversed" = none
 min : mg "min" = none
 max : mg "max" = none
 list : mg "list" = none
 int : mg "int" = none
 isinstance : mg "isinstance" = none
structure Fn (K : PySem.W.Frag) (mg : Str → Option Value) (x : Str) (st : Stmt) (ps : List Str) (f : Addr) (fd : FuncData) : Prop where
 F : Fun K x x st f fd
 m : mg x = some (.ref f)
 b : Binds K fd ps []
def below (js : List (Int × Int)) (e : Int) : List Int := (js.filter fun p => decide (p.2 = e)).map (·.1)
def above (js : List (Int × Int)) (e : Int) : List Int := (js.filter fun p => decide (p.1 = e)).map (·.2)
def inc (js : List (Int × Int)) (e : Int) : Nat := (below js e).length + (above js e).length
def jn (js : List (Int × Int)) (e : Int) : List Int := srt (below js e ++ above js e)
theorem jn_eq (js : List (Int × Int)) (e : Int) : srt (above js e ++ below js e) = jn js e := srt_congr List.perm_append_comm
structure LineOk (l : Int × List (Int × Int)) : Prop where
 one : 1 ≤ l.1
 most : l.1 ≤ 40
 len : l.2.length ≤ 80
 inc : ∀ e, inc l.2 e ≤ 60
 ends : ∀ p ∈ l.2, 0 ≤ p.1 ∧ p.1 ≤ p.2 ∧ p.2 < 2 * l.1
theorem inc_le (js : List (Int × Int)) (e : Int) : inc js e ≤ 2 * js.length := by
 unfold inc below above
 rw [List.length_map, List.length_map]
 have h1 := List.length_filter_le (fun p : Int × Int => decide (p.2 = e)) js
 have h2 := List.length_filter_le (fun p : Int × Int => decide (p.1 = e)) js
 omega
def NewInts (H : Hp) (ns : List Int) (Q : VK) : Prop := ∀ (p : Addr) (H' : Hp), Same H H' → H p = none → H' p = some (.lst (ns.map V.int)) → Q (.ref p) H'
theorem Same.upd {H H' : Hp} {l : Addr} {o : HO} (s : Same H H') (hn : H l = none) : Same H (upd H' l o) := fun b u e => by rw [upd_ne (ne_of_none e hn)]; exact s b u e
theorem da_ints {K : PySem.W.Frag} {H : Hp} {ns : List Int} {v : V} : Da K H (dI ns) v ↔ ∃ a, v = .ref a ∧ SqL K H a (ns.map V.int) := by
 unfold dI
 refine Iff.trans dg_list ?_
 constructor
 ·rintro ⟨a, vs, rfl, h, q⟩
  rw [dgs_ints.mp q] at h
  exact ⟨a, rfl, h⟩
 ·rintro ⟨a, rfl, h⟩
  exact ⟨a, _, rfl, h, dgs_ints.mpr rfl⟩
theorem da_new {K : PySem.W.Frag} {H : Hp} {ns : List Int} {p : Addr} (h : H p = some (.lst (ns.map V.int))) : Da K H (dI ns) (.ref p) := da_ints.mpr ⟨p, rfl, SqL.of h⟩
theorem da_line {K : PySem.W.Frag} {H : Hp} {l : Int × List (Int × Int)} {v : V} (h : Da K H (dL l) v) : ∃ a b, v = .ref a ∧ SqT K H a [.int l.1, .ref b] ∧ ∃ vs, SqL K H b vs ∧ Das K H (l.2.map dP) vs := by
 unfold dL at h
 obtain ⟨a, vs, rfl, ht, q⟩ := dg_tuple.mp h
 obtain ⟨v1, r, rfl, h1, q⟩ := dgs_cons.mp q
 obtain ⟨v2, r, rfl, h2, q⟩ := dgs_cons.mp q
 cases dgs_nil.mp q
 cases dg_int.mp h1
 unfold dJ at h2
 obtain ⟨b, us, rfl, hl, q⟩ := dg_list.mp h2
 exact ⟨a, b, rfl, ht, us, hl, q⟩
theorem das_pair {K : PySem.W.Frag} {H : Hp} {js : List (Int × Int)} {vs : List V} {i : Nat} {x : V} (h : Das K H (js.map dP) vs) (e : vs[i]? = some x) : ∃ a p, js[i]? = some p ∧ x = .ref a ∧ SqT K H a [.int p.1, .int p.2] := by
 obtain ⟨d, e1, hd⟩ := Dgs.get h e
 rw [List.getElem?_map] at e1
 cases q : js[i]? with
 | none => rw [q] at e1; cases e1
 | some p =>
  rw [q] at e1
  cases e1
  unfold dP at hd
  obtain ⟨a, us, rfl, ht, q⟩ := dg_tuple.mp hd
  obtain ⟨v1, r, rfl, h1, q⟩ := dgs_cons.mp q
  obtain ⟨v2, r, rfl, h2, q⟩ := dgs_cons.mp q
  cases dgs_nil.mp q
  cases dg_int.mp h1
  cases dg_int.mp h2
  exact ⟨a, p, rfl, rfl, ht⟩
theorem okDs_I (ms : List Int) : OkDs (ms.map PyData.int) := ⟨canLayAll0_map (fun _ => rfl) ms, by have := depthAll_map (f := PyData.int) (k := 0) (fun _ => by simp [PyData.depth]) ms; omega⟩
theorem any_I (ms : List Int) (x : Int) : ((ms.map PyData.int).any fun z => PyData.eqv z (.int x)) = decide (x ∈ ms) := by
 rw [List.any_map, Bool.eq_iff_iff, List.any_eq_true, decide_eq_true_iff]
 constructor
 ·rintro ⟨y, hy, e⟩
  have e' : PyData.eqv (.int y) (.int x) = true := e
  simp only [PyData.eqv, beq_iff_eq] at e'
  rw [← e']; exact hy
 ·intro h
  exact ⟨x, h, by show PyData.eqv (.int x) (.int x) = true; simp [PyData.eqv]⟩
theorem name_yes {i : Nat} {x : V} {σ : St} {H : Hp} {te : TE} {P1 : VK} {P0 : Hp → Prop} (h : te (σ.set i (some x)) H P1) : gName i x σ H (fun σ2 H2 => tYes σ2 H2 fun b H3 => if b = true then te σ2 H3 P1 else P0 H3) := iteT (A := te (σ.set i (some x)) H P1) (B := P0 H) h
theorem filt_true {α : Type} (xs : List α) : (xs.filter fun _ => true) = xs := by simp
section
variable {X : Cx} {K : PySem.W.Frag}
theorem op_notInDk (hK : X.K = K) (hu : X.A.units + 64 < cLine) : OpR X (compareOp .NotIn) (rInD K true) := hK ▸ op_notInD hu
theorem ix_listk (hK : X.K = K) : IxR X (rIxL K) := hK ▸ ix_list
end
structure JS (J : It) (n : Nat) (H1 : Hp) (it : Nat → V → Prop) : Prop where
 go : ∀ i H, Same H1 H → i < n → J.go i H
 yld : ∀ i H x H', Same H1 H → i < n → J.yld i H x H' → H' = H ∧ it i x
 stop : ∀ H, Same H1 H → J.stop n H
theorem js_list {K : PySem.W.Frag} {a : Addr} {xs : List V} {H1 : Hp} (hx : SqL K H1 a xs) : JS (Itl K a) xs.length H1 (fun i x => xs[i]? = some x) :=
 ⟨fun i H s hi => ⟨xs, xs[i], s.seq hx, by simp⟩, fun i H x H' s hi y => ⟨y.1, y.2 xs (s.seq hx)⟩, fun H s => ⟨xs, s.seq hx, Nat.le_refl _⟩⟩
theorem js_rev {K : PySem.W.Frag} {a : Addr} {xs : List V} {H1 : Hp} (hx : SqL K H1 a xs) : JS ⟨fun i H => (Itv K a).go i H ∧ ∃ ys, SqL K H a ys ∧ ys.length = xs.length, (Itv K a).yld, fun i H => i = xs.length⟩ xs.length H1 (fun i x => xs.reverse[i]? = some x) :=
 ⟨fun i H s hi => ⟨⟨xs, xs.reverse[i]'(by rw [List.length_reverse]; exact hi), s.seq hx, List.getElem?_eq_getElem _⟩, xs, s.seq hx, rfl⟩, fun i H x H' s hi y => ⟨y.1, y.2 xs (s.seq hx)⟩, fun H s => rfl⟩
theorem lc_pureJ {α : Type} {J : It} {n : Nat} {it : Nat → V → Prop} {l : Addr} {g : TG} {tt : TT} {te : TE} {cap : List (Option Nat)} {σ : St} {Q : VK} {H1 : Hp} (S : JS J n H1 it) (ds : List α) (p : α → Bool) (f : α → V) (hn : H1 l = none) (hlen : n = ds.length) (hz : n < sizeLine)
  (hs : ∀ (i : Nat) x d H, it i x → ds[i]? = some d → Same H1 H → ∀ (P1 : VK) (P0 : Hp → Prop), (p d = true → P1 (f d) H) → (p d = false → P0 H) →
   g x (capSt cap σ) H fun σ2 H2 => tt σ2 H2 fun b H3 => if b = true then te σ2 H3 P1 else P0 H3)
  (hq : Q (.ref l) (upd H1 l (.lst ((ds.filter p).map f)))) : LcW J g tt te cap σ Q l H1 := by
 refine ⟨fun i m acc H => m = n - i ∧ i ≤ n ∧ acc = ((ds.take i).filter p).map f ∧ H = upd H1 l (.lst acc), ⟨n, by simp, Nat.zero_le _, rfl, rfl⟩, ?_⟩
 rintro i m acc H ⟨rfl, hi, e1, e2⟩
 have sm : Same H1 H := by rw [e2]; exact same_upd hn
 by_cases hlt : i < n
 ·refine .inr ⟨S.go i H sm hlt, fun acc' H' => acc' = ((ds.take (i + 1)).filter p).map f ∧ H' = upd H1 l (.lst acc'), fun acc' H' ⟨p1, p2⟩ => ⟨n - (i + 1), by omega, rfl, hlt, p1, p2⟩, fun x H' y0 => ?_⟩
  obtain ⟨e, y⟩ := S.yld i H x H' sm hlt y0
  clear y0
  subst e
  have hd : ds[i]? = some (ds[i]'(by omega)) := by simp
  generalize ds[i]'(by omega) = d at hd
  have step : ((ds.take (i + 1)).filter p).map f = acc ++ (if p d = true then [f d] else []) := by
   rw [take_succ_filter p ds i d hd, List.map_append, e1]
   cases p d <;> rfl
  refine hs i x d H' y hd sm _ _ (fun hp => ?_) (fun hp => ?_)
  ·refine ⟨by rw [e2, upd_same], ?_, ?_, ?_⟩
   ·have h1 : acc.length ≤ i := by
     rw [e1, List.length_map]
     exact Nat.le_trans (List.length_filter_le _ _) (by rw [List.length_take]; omega)
    omega
   ·rw [step, hp]; rfl
   ·rw [e2, upd_upd]
  ·refine ⟨?_, e2⟩
   rw [step, hp, if_neg Bool.false_ne_true, List.append_nil]
 ·have e : i = n := by omega
  subst e
  refine .inl ⟨S.stop H sm, ?_⟩
  rw [hlen, List.take_length] at e1
  rw [e2, e1]
  exact hq
end TL
namespace TL
open PySem PySem.Spec PyProof.Rows L2
abbrev Mv := (Str × Int) × List Int
def dMv (m : Mv) : PyData := .tuple [.tuple [.str m.1.1, .int m.1.2], dI m.2]
def fr (l : Int × List (Int × Int)) (ns : List Int) (e : Int) : List Int := (jn l.2 e).filter fun t => !decide (t / 2 ∈ ns.map (· / 2))
def onM (ns : List Int) (e : Int) : Mv := (("on", e), ns.drop 1 ++ [e])
def backM (ns : List Int) (e : Int) : Mv := (("back", e), oth e :: ns.dropLast)
def mvs (l : Int × List (Int × Int)) (ns : List Int) : List Mv := (fr l ns (oth (ns.getLastD 0))).map (onM ns) ++ (fr l ns (ns.headD 0)).map (backM ns)
def Lf (H H2 : Hp) (t : Addr) : Addr → List V → Prop := fun a us => H2 a = some (.lst us) ∧ H a = none ∧ a ≠ t
theorem sqt_upd {K : PySem.W.Frag} {H : Hp} {t b : Addr} {vs xs : List V} {o : HO} (ht : H t = some (.lst vs)) (h : SqT K H b xs) : SqT K (upd H t o) b xs := by
 rcases h with (h | ⟨o, h⟩) | h
 ·exact .inl (.inl (by rw [upd_ne (ne_of h ht (by intro z; cases z))]; exact h))
 ·exact .inl (.inr ⟨o, by rw [upd_ne (ne_of h ht (by intro z; cases z))]; exact h⟩)
 ·exact .inr h
theorem Dgs.grow {K : PySem.W.Frag} {H H2 H5 : Hp} {t : Addr} {o : HO} {vs : List V} {ds : List PyData} {us : List V} (D : Dgs (Lf H H2 t) (SqT K H2) ds us) (S5 : Same H2 H5) (ht : H5 t = some (.lst vs)) :
  Dgs (Lf H (upd H5 t o) t) (SqT K (upd H5 t o)) ds us :=
 Dgs.mono (fun a us ⟨h1, h2, h3⟩ => ⟨by rw [upd_ne h3]; exact S5 _ _ h1, h2, h3⟩) (fun a us h => sqt_upd ht (same_tseq S5 h)) D
theorem push_move {K : PySem.W.Frag} {H H2 H5 : Hp} {t p1 p4 p5 : Addr} {vs : List V} {ms : List Mv} {w : Str} {e : Int} {xs : List Int} (S : Same H H2) (hn : H t = none) (ht : H2 t = some (.lst vs)) (D : Dgs (Lf H H2 t) (SqT K H2) (ms.map dMv) vs)
  (S5 : Same H2 H5) (h1 : H5 p1 = some (.tup [.str w, .int e])) (n4 : H2 p4 = none) (h4 : H5 p4 = some (.lst (xs.map V.int))) (h5 : H5 p5 = some (.tup [.ref p1, .ref p4])) :
  Same H (upd H5 t (.lst (vs ++ [.ref p5]))) ∧ (upd H5 t (.lst (vs ++ [.ref p5]))) t = some (.lst (vs ++ [.ref p5])) ∧
   Dgs (Lf H (upd H5 t (.lst (vs ++ [.ref p5]))) t) (SqT K (upd H5 t (.lst (vs ++ [.ref p5])))) ((ms ++ [((w, e), xs)]).map dMv) (vs ++ [.ref p5]) := by
 have ht5 := S5 _ _ ht
 have q4 : p4 ≠ t := (ne_of_none ht n4).symm
 refine ⟨Same.upd (S.trans S5) hn, upd_same, ?_⟩
 rw [List.map_append]
 refine Dgs.append (D.grow S5 ht5) (Dgs.one ?_)
 refine dg_tuple.mpr ⟨p5, _, rfl, sqt_upd ht5 (SqT.of h5), Dgs.two ?_ ?_⟩
 ·exact dg_tuple.mpr ⟨p1, _, rfl, sqt_upd ht5 (SqT.of h1), Dgs.two (dg_str.mpr rfl) (dg_int.mpr rfl)⟩
 ·exact dg_list.mpr ⟨p4, _, rfl, ⟨by rw [upd_ne q4]; exact h4, Same.free S n4, q4⟩, dgs_ints.mpr rfl⟩
def NewMoves (K : PySem.W.Frag) (H : Hp) (ms : List Mv) (Q : VK) : Prop := ∀ (p : Addr) (vs : List V) (H' : Hp), Same H H' → H p = none → H' p = some (.lst vs) → Dgs (Lf H H' p) (SqT K H') (ms.map dMv) vs → Q (.ref p) H'
theorem cut_tail (ns : List Int) : cutV (ns.map V.int) (some 1) none = (ns.drop 1).map V.int := by
 unfold cutV
 rw [HT.sIx_none]
 have e : HT.sIx (ns.map V.int).length 0 (some 1) = min 1 (ns.map V.int).length := HT.sIx_nat _ _ 1
 rw [e, List.length_map, List.map_drop]
 cases ns with
 | nil => rfl
 | cons a r =>
  have e1 : min 1 (a :: r).length = 1 := by simp
  rw [e1]
  simp
  exact List.take_of_length_le (by simp)
theorem cut_init (ns : List Int) : cutV (ns.map V.int) none (some (-1)) = ns.dropLast.map V.int := by
 unfold cutV
 have e : HT.sIx (ns.map V.int).length (ns.map V.int).length (some (-1)) = ns.length - 1 := by
  have h := HT.clip_eq (-1) (ns.map V.int).length (ns.map V.int).length
  rw [List.length_map] at h ⊢
  rw [if_pos (by decide)] at h
  omega
 rw [e, HT.sIx_none, List.drop_zero, Nat.sub_zero, ← List.map_take, List.dropLast_eq_take]
theorem at_last {ns : List Int} (h : ns ≠ []) : atI (ns.map V.int) (-1) = some (V.int (ns.getLastD 0)) := by
 obtain ⟨r, x, rfl⟩ : ∃ r x, ns = r ++ [x] := ⟨ns.dropLast, ns.getLast h, (List.dropLast_concat_getLast h).symm⟩
 rw [List.map_append]
 show atI (r.map V.int ++ [V.int x]) (-1) = _
 rw [atI_last]
 have e : (r ++ [x]).getLastD 0 = x := by simp [List.getLastD_eq_getLast?]
 rw [e]
theorem at_first {ns : List Int} (h : ns ≠ []) : atI (ns.map V.int) 0 = some (V.int (ns.headD 0)) := by
 cases ns with
 | nil => exact absurd rfl h
 | cons a r => exact atI_nat (j := 0) rfl
end TL
namespace TL
open PySem PySem.Spec PyProof.Rows L2
abbrev NoL : Addr → List V → Prop := fun _ _ => False
abbrev Ps (K : PySem.W.Frag) (H : Hp) (js : List (Int × Int)) (vs : List V) : Prop := Dgs NoL (SqT K H) (js.map dP) vs
theorem Ps.same {K : PySem.W.Frag} {H H' : Hp} {js : List (Int × Int)} {vs : List V} (D : Ps K H js vs) (S : Same H H') : Ps K H' js vs := Dgs.mono (fun _ _ h => h) (fun _ _ h => same_tseq S h) D
theorem Ps.updt {K : PySem.W.Frag} {H : Hp} {js : List (Int × Int)} {vs us : List V} {t : Addr} {o : HO} (D : Ps K H js vs) (ht : H t = some (.lst us)) : Ps K (upd H t o) js vs := Dgs.mono (fun _ _ h => h) (fun _ _ h => sqt_upd ht h) D
theorem Ps.das {K : PySem.W.Frag} {H : Hp} {js : List (Int × Int)} {vs : List V} (D : Ps K H js vs) : Das K H (js.map dP) vs := Dgs.mono (fun _ _ h => h.elim) (fun _ _ h => h) D
theorem Ps.da {K : PySem.W.Frag} {H : Hp} {js : List (Int × Int)} {vs : List V} {t : Addr} (D : Ps K H js vs) (ht : H t = some (.lst vs)) : Da K H (dJ js) (.ref t) := dg_list.mpr ⟨t, vs, rfl, SqL.of ht, D.das⟩
theorem Ps.len {K : PySem.W.Frag} {H : Hp} {js : List (Int × Int)} {vs : List V} (D : Ps K H js vs) : vs.length = js.length := by rw [D.length, List.length_map]
theorem pair_dg {K : PySem.W.Frag} {H : Hp} {p : Addr} {x : Int × Int} (h : H p = some (.tup [.int x.1, .int x.2])) : Dg NoL (SqT K H) (dP x) (.ref p) := dg_tuple.mpr ⟨p, _, rfl, SqT.of h, Dgs.two (dg_int.mpr rfl) (dg_int.mpr rfl)⟩
theorem Ps.push {K : PySem.W.Frag} {H : Hp} {js : List (Int × Int)} {vs : List V} {t p : Addr} {x : Int × Int} {o : HO} (D : Ps K H js vs) (ht : H t = some (.lst vs)) (hp : H p = some (.tup [.int x.1, .int x.2])) : Ps K (upd H t o) (js ++ [x]) (vs ++ [.ref p]) := by
 show Dgs _ _ ((js ++ [x]).map dP) _
 rw [List.map_append]
 exact (D.updt ht).append (.one (Dg.mono (fun _ _ h => h) (fun _ _ h => sqt_upd ht h) (pair_dg hp)))
theorem Ps.ins {K : PySem.W.Frag} {H : Hp} {js : List (Int × Int)} {vs : List V} {t p : Addr} {x : Int × Int} {o : HO} (i : Nat) (D : Ps K H js vs) (ht : H t = some (.lst vs)) (hp : H p = some (.tup [.int x.1, .int x.2])) : Ps K (upd H t o) (js.take i ++ x :: js.drop i) (vs.take i ++ .ref p :: vs.drop i) := by
 show Dgs _ _ ((js.take i ++ x :: js.drop i).map dP) _
 rw [List.map_append, List.map_cons, List.map_take, List.map_drop]
 exact Dgs.insert i (D.updt ht) (Dg.mono (fun _ _ h => h) (fun _ _ h => sqt_upd ht h) (pair_dg hp))
theorem da_mkline {K : PySem.W.Frag} {H : Hp} {l : Int × List (Int × Int)} {p t : Addr} (h : H p = some (.tup [.int l.1, .ref t])) (hd : Da K H (dJ l.2) (.ref t)) : Da K H (dL l) (.ref p) := dg_tuple.mpr ⟨p, _, rfl, SqT.of h, Dgs.two (dg_int.mpr rfl) hd⟩
theorem perm_ins {α : Type} (l : List α) (i : Nat) (x : α) : (l.take i ++ x :: l.drop i).Perm (x :: l) := by
 have h := List.perm_middle (a := x) (l₁ := l.take i) (l₂ := l.drop i)
 rw [List.take_append_drop] at h
 exact h
theorem min_if (i j : Int) : (if j < i then j else i) = min i j := by omega
theorem max_if (i j : Int) : (if j > i then j else i) = max i j := by omega
theorem at_int {ns : List Int} {i : Int} (h0 : 0 ≤ i) (h1 : i < ns.length) : ∃ x, ns[i.toNat]? = some x ∧ x ∈ ns ∧ atI (ns.map V.int) i = some (V.int x) := by
 have hlt : i.toNat < ns.length := by omega
 refine ⟨ns[i.toNat], by simp, List.getElem_mem _, ?_⟩
 have h := atI_nat (xs := ns.map V.int) (j := i.toNat) (v := V.int ns[i.toNat]) (by rw [List.getElem?_map]; simp)
 have e1 : ((i.toNat : Nat) : Int) = i := by omega
 rw [e1] at h
 exact h
end TL
namespace L2
open PySem PySem.Spec PySem.Calls PyProof.Rows PySem.W
section
variable {prog : Program} {w : World} {A : Around} {E : Value → Shared → Prop} {s : Shared} {K : Frag} {a C : Addr} {o : Obj}
structure ExC (K : Frag) (C : Addr) : Prop where
 obj : mroIn K C (.type "object") = some true
 bex : mroIn K C (.type "BaseException") = some true
 cls : findIn K (.ref C) "__class__" = some (some (.builtin "object.__class__"))
 ga : findIn K (.ref C) "__getattribute__" = some (some (.builtin "BaseException.__getattribute__"))
 gn : findIn K (.ref C) "__getattr__" = some none
 isc : (clsIn K C).isSome = true
end
end L2
namespace L2
open PySem PySem.Spec PySem.Calls PyProof.Rows PySem.W
section
variable {P : Program} {w : World} {H H1 : Hp} {h : Heap} {a : Addr} {o : HO}
theorem ObjOk.some (x : ObjOk P w H h a o) : ∃ u, h.get? a = Option.some u := by
 cases o with
 | lst xs => obtain ⟨_, _, _, _, e⟩ := x; exact ⟨_, e⟩
 | tup xs => obtain ⟨_, _, _, p⟩ := x; obtain ⟨u, e, _⟩ := p; exact ⟨u, e⟩
 | dK kvs => obtain ⟨_, _, _, _, o, _, _, e, _⟩ := x; exact ⟨_, e⟩
 | dT kvs => obtain ⟨_, _, _, _, o, _, _, e, _⟩ := x; exact ⟨_, e⟩
 | set S n => obtain ⟨o, _, _, _, e, _⟩ := x; exact ⟨_, e⟩
 | ins C dx fs => obtain ⟨_, _, _, e, _⟩ := x; exact ⟨_, e⟩
 | own y => obtain ⟨_, e⟩ := x; exact ⟨_, e⟩
 | xd fs => obtain ⟨_, ⟨_, _, _, e, _⟩, _⟩ := x; exact ⟨_, e⟩
 | rng lo hi => obtain ⟨_, _, _, e⟩ := x; exact ⟨_, e⟩
 | frz ob u => obtain ⟨e, _⟩ := x; exact ⟨_, e⟩
 | tbl ps => exact ⟨_, (show h.get? a = Option.some _ from x)⟩
 | met f y => exact ⟨_, (show h.get? a = Option.some _ from x)⟩
 | ext φ => obtain ⟨_, ⟨_, e⟩, _⟩ := x; exact ⟨_, e⟩
theorem HOk.none_of (x : HOk P w H h) (e : h.get? a = Option.none) : H a = Option.none := by
 cases q : H a with
 | none => rfl
 | some u => obtain ⟨v, z⟩ := (x a u q).some; rw [e] at z; cases z
end
structure Fl0 (P : Program) (w : World) (base : Heap) (l : List Env) (H H1 : Hp) (h0 B h : Heap) : Prop where
 bas : base.StaysIn B
 hok : HOk P w H1 B
 kp : ∀ b o, h0.get? b = some o → H b = none → b ∉ frs l → B.get? b = some o
 thr : ∀ b o, h0.get? b = some o → b ∉ frs l → ∃ o', B.get? b = some o'
 un : Un (frs l) [] H H1 h0 h
theorem Fl0.step {P : Program} {w : World} {base : Heap} {l : List Env} {H H1 : Hp} {h0 B h h' : Heap} (x : Fl0 P w base l H H1 h0 B h) (st : B.StaysIn h') (ff : h.FunFrames B l) (ff' : h'.FunFrames B l) (sm : h.UpToSlots h') :
  Fl0 P w base l H H1 h0 B h' := by
 refine ⟨x.bas, x.hok, x.kp, x.thr, ⟨fun b o q n hb _ => st b o (x.kp b o q n hb), fun b o q n hb _ => ?_, x.un.free, fun b o q _ => ?_, x.un.tups, x.un.frzs, x.un.tbls⟩⟩
 ·obtain ⟨sl, e⟩ := x.un.slot b o q n hb (by simp)
  obtain ⟨_, o2, e2, nf⟩ := ff.mem hb
  rw [e] at e2; cases e2
  obtain ⟨sl', e'⟩ := sm b _ e nf
  exact ⟨sl', e'⟩
 ·by_cases hb : b ∈ frs l
  ·obtain ⟨_, o2, e2, _⟩ := ff'.mem hb
   exact ⟨o2, e2⟩
  ·obtain ⟨o', e⟩ := x.thr b o q hb
   exact ⟨o', st b o' e⟩
structure Fl (P : Program) (w : World) (base : Heap) (l : List Env) (H H1 : Hp) (h0 : Heap) (e C : Addr) (B h : Heap) : Prop extends Fl0 P w base l H H1 h0 B h where
 fly : ∃ a0, Heap.FlyingW B l e (.ref C) a0 h
def CXr (P : Program) (w : World) (base : Heap) : CXT := fun l H s E ev s' =>
 ∃ e C H1 B, ev = .ref e ∧ s'.os = s.os ∧ AllBare s'.gens ∧ Fl P w base l H H1 s.heap e C B s'.heap ∧ E (.ref C) (some e) H1
section
variable {X : Cx} {pins : List (Addr × Obj)} {σ : St} {H H1 : Hp} {s s' : Shared} {e C : Addr} {B : Heap}
theorem Fl.inv (x : Fl X.prog X.w X.base X.stack H H1 s.heap e C B s'.heap) (I : Inv X pins σ H s) (ho : s'.os = s.os) (hg : AllBare s'.gens) : Inv X pins σ H1 s' := by
 obtain ⟨a0, f⟩ := x.fly
 exact I.call' (ch := []) ho x.un (x.hok.kept f.1) hg (fun b z => absurd z (by simp))
theorem raise_fl {M : Model} {E : Value → Shared → Prop} {Q : Unit → Shared → Prop} {h' : Heap} {vs : List Value} (I : Inv X pins σ H s) (hst : X.stack = X.env :: X.outer) (hf : X.env.frame = some X.env.locals) (hex : X.ex = [])
  (hx : Heap.MadeExcOf s.heap h' e (.ref C) vs) (hQ : ∀ B h'', Fl X.prog X.w X.base X.outer X.H₀ H X.s₀.heap e C B h'' → Q () { s with heap := h'' }) :
  wpAny M X.A (leaving X.env (.ref e)) Q E { s with heap := h' } := by
 have hfr := I.ok.frames
 rw [hst] at hfr
 have hstk := I.stack
 rw [hst] at hstk
 have hin : ∀ env ∈ (X.env :: X.outer), ∀ b, env.frame = some b → b ∈ frs (X.env :: X.outer) := fun env he b hb => List.mem_filterMap.mpr ⟨env, he, hb⟩
 have nb : ∀ b, b ≠ X.env.locals → b ∉ X.fs → b ∉ frs (X.env :: X.outer) := fun b h1 h2 hb => by
  unfold frs at hb
  rw [List.filterMap_cons, hf] at hb
  rcases List.mem_cons.mp hb with z | z
  ·exact h1 z
  ·exact h2 z
 have neL : ∀ b o, X.s₀.heap.get? b = some o → b ≠ X.env.locals := fun b o e => Nat.ne_of_lt (Nat.lt_of_lt_of_le (Heap.lt_size e) I.ok.above)
 refine wpAny_leaves_madeW (base := hideAll s.heap (frs (X.env :: X.outer))) hfr hf (fun b o q => of_hideAll _ q) (funFrames_hide hstk hin) hx fun h'' t x1 x2 x3 x4 => ?_
 have hok : HOk X.prog X.w H (hideAll s.heap (frs (X.env :: X.outer))) := fun b u q => by
  refine (I.hok b u q).stay (fun c v hc z => hideAll_get _ z fun hm => ?_) (fun _ z => z) fun _ _ z => z
  have hn : H c = none := I.stkFree c (by rw [hst]; exact hm)
  rcases hc with rfl | hc
  ·rw [hn] at q; cases q
  ·rw [hn] at hc; cases hc
 have z0 : Fl0 X.prog X.w X.base X.outer X.H₀ H X.s₀.heap (hideAll s.heap (frs (X.env :: X.outer))) h' := by
  have ub : Un X.fs [] X.H₀ H X.s₀.heap s.heap := by have := I.base; rw [hex] at this; exact this
  refine ⟨fun b o q => hideAll_get _ (I.bk b o q) fun hm => ?_, hok, fun b o q n hb => hideAll_get _ (ub.keep b o q n hb (by simp)) (nb b (neL b o q) hb), fun b o q hb => ?_, ub.trans (Un.kept hx.keeps)⟩
  ·have := (hstk.mem hm).1
   rw [q] at this; cases this
  ·obtain ⟨o', e1⟩ := ub.there b o q (by simp)
   exact ⟨o', hideAll_get _ e1 (nb b (neL b o q) hb)⟩
 have ff : h'.FunFrames (hideAll s.heap (frs (X.env :: X.outer))) X.outer := by
  obtain ⟨_, _, z⟩ := (funFrames_hide hstk hin).of_keeps fun b o hb _ => ⟨o, hx.keeps b o hb, rfl⟩
  exact z
 exact hQ _ h'' ⟨z0.step x1.1 ff x1.2.2.1 x4, _, x1⟩
theorem pass_fl {M : Model} {E : Value → Shared → Prop} {Q : Unit → Shared → Prop} (I : Inv X pins σ H s) (hst : X.stack = X.env :: X.outer) (hf : X.env.frame = some X.env.locals) (hex : X.ex = [])
  (ho : s'.os = s.os) (hg : AllBare s'.gens) (x : Fl X.prog X.w X.base X.stack H H1 s.heap e C B s'.heap) (hQ : ∀ B h'', Fl X.prog X.w X.base X.outer X.H₀ H1 X.s₀.heap e C B h'' → Q () { s' with heap := h'' }) :
  wpAny M X.A (leaving X.env (.ref e)) Q E s' := by
 have J := x.inv I ho hg
 have hfr := I.ok.frames
 obtain ⟨a0, f⟩ := x.fly
 have nb : ∀ b, b ≠ X.env.locals → b ∉ X.fs → b ∉ frs X.stack := fun b h1 h2 hb => (List.mem_cons.mp (I.stkSub b hb)).elim h1 h2
 have neL : ∀ b o, X.s₀.heap.get? b = some o → b ≠ X.env.locals := fun b o e => Nat.ne_of_lt (Nat.lt_of_lt_of_le (Heap.lt_size e) I.ok.above)
 rw [hst] at hfr f
 have ub : Un X.fs [] X.H₀ H X.s₀.heap s.heap := by have := I.base; rw [hex] at this; exact this
 have uj : Un X.fs [] X.H₀ H1 X.s₀.heap s'.heap := by have := J.base; rw [hex] at this; exact this
 have z0 : Fl0 X.prog X.w X.base X.outer X.H₀ H1 X.s₀.heap B s'.heap := by
  refine ⟨x.bas, x.hok, fun b o q n hb => x.kp b o (ub.keep b o q n hb (by simp)) (ub.free b o q n (by simp)) (nb b (neL b o q) hb), fun b o q hb => ?_, uj⟩
  obtain ⟨o', e1⟩ := ub.there b o q (by simp)
  exact x.thr b o' e1 (nb b (neL b o q) hb)
 have ff : s'.heap.FunFrames B X.outer := f.2.2.1.2.2
 exact wpAny_leaves_onW hfr hf f fun h'' x1 x2 => hQ B h'' ⟨z0.step x1.1 ff x1.2.2.1 x2, a0, x1⟩
end
section
variable {P : Program} {w : World} {K : PySem.W.Frag} {mg : Str → Option Value} {base : Heap} {N : List Str} {qual : Str} {scope : Scope} {f : Addr} {cd : Value} {A : Around} {outer : List Env} {s₀ : Shared} {H₀ : Hp} {E : XK}
def Raises (X : Cx) (E : XK) : Prop := ∀ (pins : List (Addr × Obj)) (σ : St) (H : Hp) (s : Shared) (h' : Heap) (e C : Addr) (vs : List Value), Inv X pins σ H s → Heap.MadeExcOf s.heap h' e (.ref C) vs → E (.ref C) (some e) H → X.xe (.ref e) { s with heap := h' }
theorem raises_cx : Raises (cxOf (CXr P w base) P w K mg base N qual scope f cd A outer s₀ H₀ E) E := fun pins σ H s h' e C vs I hx q =>
 raise_fl I rfl rfl rfl hx fun B h'' z => ⟨e, C, H, B, rfl, I.os, I.bare, z, q⟩
theorem passes_cx : Passes (CXr P w base) (cxOf (CXr P w base) P w K mg base N qual scope f cd A outer s₀ H₀ E) E := fun pins σ H s e s' I hx => by
 obtain ⟨a, C, H1, B, rfl, ho, hg, z, q⟩ := hx
 exact pass_fl I rfl rfl rfl ho hg z fun B' h'' z' => ⟨a, C, H1, B', rfl, ho.trans I.os, hg, z', q⟩
end
end L2
namespace L2
open PySem PySem.Spec PySem.Calls PyProof.Rows PySem.W
theorem exc_obj {K : Frag} {h : Heap} {C : Addr} {bmB : List Value} {newId : String} (X : K.In h) (q : excIn K C bmB newId = true) :
  ∃ bm N nm qn bs hdct sn sub ab col dd k0 k1 k2 k3 k5 mN, h.get? C = some (excClassObj nm qn C N bs bm hdct sn sub ab col dd k0 k1 k2 k3 k5 newId) ∧ h.Ns N mN ∧ mN "__init__" = none ∧ OwnTail h bmB bm := by
 unfold excIn at q
 split at q
 ·rename_i d1 c1 l1 lk
  split at q
  ·rename_i D1 tl j0 j1 j2 j3 nn j5 e1 e2
   simp only [Bool.and_eq_true, beq_iff_eq, Bool.not_eq_true'] at q
   obtain ⟨⟨⟨⟨⟨q1, q2⟩, q3⟩, q4⟩, q5⟩, q6⟩ := q
   subst q1 q2
   cases c1
   dsimp only at e1 q3 q5 q6
   subst e1 q3
   cases l1
   dsimp only at e2
   subst e2
   exact ⟨tl, _, _, _, _, _, _, _, _, _, d1, j0, j1, j2, j3, j5, _, X _ _ lk, .of_isNs (isNs_of_in X q5), nsMap_none_of_in X q5 q6, tail_of_in X q4⟩
  ·cases q
 ·cases q
section
variable {X : Cx} {E : XK} {x : Str} {np cpos pos : Pos} {C : Addr} {bmB : List Value} {Bn newId initId : String} {e₀ : Expr} {rest : List Expr} {ta : TA}
def tRaise (C : Addr) (E : XK) (ta : TA) : TS := fun _ σ H => ta σ H fun vs H1 => vs.length ≤ sizeLine ∧ ∀ e, H1 e = none → E (.ref C) (some e) H1
theorem ps_raise (hR : Raises X E) (hc : X.calm = true) (hg : Gl X x) (hm : X.mg x = some (.ref C)) (q : excIn X.K C bmB newId = true) (FB : ExcBaseFacts Bn newId initId bmB) (ha : PA X (e₀ :: rest) ta)
  (he : starEach (e₀ :: rest) X.env = (false, eval e₀ X.env) :: starEach rest X.env := by rfl) (hpl : (backTo cpos (starEach rest X.env)).any (·.1) = false := by rfl) (hd : (x == ("__debug__" : Str)) = false := by decide) :
  PS X (.Raise (some (.Call (.Name x np) (e₀ :: rest) [] cpos)) none pos) (tRaise C E ta) := by
 intro pins s σ H D I h
 obtain ⟨tl, N, nm, qn, bs, hdct, sn, sub, ab, col, dd, k0, k1, k2, k3, k5, mN, hC, hN, hni, T⟩ := exc_obj I.mod.kin q
 refine wpAny_Raise_call_subT (C := C) (nm := nm) (q := qn) (N := N) (bs := bs) (bm := tl) (hdct := hdct) (sn := sn) (sub := sub) (ab := ab) (col := col) (dd := dd) (k0 := k0) (k1 := k1) (k2 := k2) (k3 := k3) (k5 := k5)
  FB (mN := mN) (T.hasType FB.hasBase) (I.ok.hd hc) (by rw [he]; show (false || (backTo cpos (starEach rest X.env)).any (·.1)) = false; rw [hpl]; rfl) hni (ld_glob I hg hm ⟨rfl, ?_⟩ hd)
 have h2 := ha cpos pins s σ H _ I h
 rw [he] at h2 ⊢
 exact Calls.evalArgs_plain (wpAny_mono h2 (fun us s1 ⟨vs, H1, I1, r, z1, z2⟩ => ⟨rfl, r.length ▸ z1, I1.bk _ _ hC, hN.keeps I1.bk, T.keeps I1.bk, fun h' e hx => hR pins σ H1 s1 h' e C us I1 hx (z2 e (I1.hok.none_of hx.new))⟩) fun _ _ y => y)
end
section
variable {X : Cx} {pins : List (Addr × Obj)} {σ : St} {H H1 : Hp} {s s' : Shared} {e C : Addr} {B : Heap}
abbrev Cx.caught (X : Cx) (e : Addr) : Cx := { X with A := X.A.mark (some (.ref e)), calm := false, xe := fun _ _ => False }
end
end L2
namespace L2
open PySem PySem.Spec PySem.Calls PyProof.Rows PySem.W
section
variable {X : Cx} {CX : CXT} {k : Nat} {f : Addr} {fd : FuncData} {ps : List Str} {sp : Sp} {dvs : List V} {ds : List Value} {E : St → XK} {x : Str} {p pos : Pos} {e : Expr} {es : List Expr} {t : TA}
end
abbrev Cx.trying (X : Cx) (pn : List (Addr × Obj)) (W : Value → Shared → Prop) : Cx := { X with pn := X.pn ++ pn, xe := W }
section
variable {X : Cx} {pins pn : List (Addr × Obj)} {σ : St} {H : Hp} {s : Shared} {W : Value → Shared → Prop}
end
structure Catches (K : Frag) (D C : Addr) : Prop where
 ty : typeIn K (.ref D) = some (.type "type")
 isc : (clsIn K D).isSome = true
 bex : mroIn K D (.type "BaseException") = some true
 mro : mroIn K C (.ref D) = some true
abbrev Ends.gone (D : Ends) (j : Nat) : Ends := { nx := fun σ H => D.nx (σ.set j none) H, rt := D.rt, bk := fun σ H => D.bk (σ.set j none) H, ct := fun σ H => D.ct (σ.set j none) H }
section
variable {X : Cx} {body suite : List Stmt} {b₀ : Stmt} {x n : Str} {np hpos pos : Pos} {D : Addr} {j : Nat} {tb : (St → XK) → TS} {th : TS}
end
end L2
namespace L2
open PySem PySem.Spec PySem.Calls PyProof.Rows PySem.W TL
section
variable {P : Program} {w : World} {K : PySem.W.Frag} {mg : Str → Option Value} {base : Heap}
theorem Fun.okX {x qual : Str} {st : Stmt} {f : Addr} {fd : FuncData} {N ps : List Str} {k : Nat} {sp : Sp} (F : Fun K x qual st f fd) (S : FnScope N ps (defScope st)) (len : ∀ vs H Q E, sp vs H Q E → vs.length = ps.length)
  (hbody : ∀ (cdv : Value) (A : Around) (outer : List Env) (s : Shared) (H : Hp) (vs : List V) (Q : VK) (E : XK), Room k (A.deeper (envOfC qual (defScope st) s.heap.objs.size f cdv)) → sp vs H Q E →
   ∃ t, PSs (cxOf (CXr P w base) P w K mg base N qual (defScope st) f cdv A outer s H E) (defBody st) t ∧ t { nx := fun _ H' => Q .non H', rt := Q } (start N vs) H) : FnOk P w K mg base (CXr P w base) (k + 1) f fd ps sp := by
 obtain ⟨oc, od, kV, doc, pm, an, cdv, ct, osl, rfl, lk, hcd⟩ := F.ex
 exact fn_of lk hcd S len fun A outer s H vs Q E hr hsp => hbody cdv A outer s H vs Q E hr hsp
end
abbrev bmV : List Value := [.type "ValueError", .type "Exception", .type "BaseException", .type "object"]
structure Xc (K : Frag) (mg : Str → Option Value) (x : Str) (C : Addr) : Prop where
 m : mg x = some (.ref C)
 q : excIn K C bmV "ValueError.__new__" = true
 e : ExC K C
section
variable {X : Cx}
end
end L2
namespace L2
open PySem PySem.Spec PySem.Calls PyProof.Rows PySem.W TL
structure XcIn (K : Frag) (x : Str) (C : Addr) : Prop where
 b : nsIn K mainGlobals x = some (some (.ref C))
 q : excIn K C bmV "ValueError.__new__" = true
 o : mroIn K C (.type "object") = some true
 p : mroIn K C (.type "BaseException") = some true
 r : findIn K (.ref C) "__class__" = some (some (.builtin "object.__class__"))
 g : findIn K (.ref C) "__getattribute__" = some (some (.builtin "BaseException.__getattribute__"))
 h : findIn K (.ref C) "__getattr__" = some none
 i : isClsIn K C = true
 t : typeIn K (.ref C) = some (.type "type")
section
variable {K : Frag} {h : Heap} {mg : Str → Option Value} {x : Str} {C D : Addr}
theorem XcIn.isc (a : XcIn K x C) : (clsIn K C).isSome = true := by
 have := a.i
 unfold isClsIn at this
 exact this
theorem XcIn.ex (a : XcIn K x C) : ExC K C := ⟨a.o, a.p, a.r, a.g, a.h, a.isc⟩
theorem XcIn.xc (a : XcIn K x C) (X : K.In h) (G : h.Ns mainGlobals mg) : Xc K mg x C := ⟨mg_of X G a.b, a.q, a.ex⟩
variable {c1 c2 c3 c4 c5 c6 c7 : Addr}
end
end L2
namespace TL
open PySem PySem.Spec PyProof.Rows L2
structure Bm (mg : Str → Option Value) : Prop extends Bl mg where
 zip : mg "zip" = none
 sum : mg "sum" = none
 all : mg "all" = none
 set : mg "set" = none
 tuple : mg "tuple" = none
 abs : mg "abs" = none
 bool : mg "bool" = none
 dict : mg "dict" = none
 str : mg "str" = none
theorem Inv.turnedN {X : Cx} {pins : List (Addr × Obj)} {σ : St} {H : Hp} {s : Shared} {h' : Heap} {t' : Nat} {ch : List Addr} (I : Inv X pins σ H s) (hf : ∀ b ∈ ch, FpOk X pins H b)
  (keep : ∀ b o, b ∉ ch → s.heap.get? b = some o → h'.get? b = some o) : Inv X pins σ H { s with heap := h', toks := t' } := by
 have nch : ∀ b u, H b = some u → b ∉ ch := fun b u q z => by rw [(hf b z).1] at q; cases q
 refine I.step (g' := s.gens) (d' := s.drawn) (ch := ch) (fun b hb => ?_) (fun b o _ _ hc q _ => keep b o hc q) (fun b o _ _ hc q _ => ⟨o.slots, keep b o hc q⟩) (fun _ _ _ _ n => n)
  (fun b o hc q => ⟨o, keep b o hc q⟩) (fun _ _ e => e) (fun _ _ _ e => e) (fun b ps e => ⟨#[], by rw [e]; simp⟩) (fun m hm => ?_) (fun b u q => ?_) I.bare
 ·obtain ⟨f0, f1, f2, f3, f4, f5⟩ := hf b hb
  exact ⟨f3, f1, f4, f5⟩
 ·obtain ⟨o, es, ep, ho, r⟩ := hm
  exact ⟨o, es, ep, keep _ o (fun z => (hf _ z).2.1 rfl) ho, r⟩
 ·refine (I.hok b u q).stay (fun c v hc q' => keep c v ?_ q') (fun c z => z) fun c ys z => z
  rcases hc with z | z
  ·rw [z]; exact nch b u q
  ·exact nch c _ z
def Itz (K : PySem.W.Frag) (a b : Addr) : It :=
 ⟨fun i H => ∃ xs ys x y, SqL K H a xs ∧ SqL K H b ys ∧ xs[i]? = some x ∧ ys[i]? = some y,
  fun i H v H' => ∃ p, H p = none ∧ v = .ref p ∧ ∀ xs ys x y, SqL K H a xs → SqL K H b ys → xs[i]? = some x → ys[i]? = some y → H' = upd H p (.tup [x, y]),
  fun i H => ∃ xs ys, SqL K H a xs ∧ SqL K H b ys ∧ (xs.length ≤ i ∨ ys.length ≤ i)⟩
theorem turn_zip {P : Program} {w : World} {K : PySem.W.Frag} {es : List Expr} {x1 : Nat} {pt : Pos} {a b z TI TO i1 i2 : Addr} (D : ZipApart z TI TO i1 i2 a b) :
  Turn P w K (.Tuple es x1 pt) (Itz K a b) [z, TI, TO, i1, i2] z (fun i h => IsZip h z TI TO .none ∧ IsPair h TI (.ref i1) (.ref i2) ∧ (∃ u v, IsPair h TO u v) ∧ h.IsListIter i1 a i ∧ h.IsListIter i2 b i) where
 mem := by simp
 obj := fun i h st c hc => by
  obtain ⟨hz, h1, ⟨u, v, h2⟩, h3, h4⟩ := st
  obtain ⟨o3, q3, _, d3⟩ := h3
  obtain ⟨o4, q4, _, d4⟩ := h4
  simp only [List.mem_cons, List.not_mem_nil, or_false] at hc
  rcases hc with rfl | rfl | rfl | rfl | rfl
  ·exact ⟨_, hz, fun v z => by cases z⟩
  ·exact ⟨_, h1, fun v z => by cases z⟩
  ·exact ⟨_, h2, fun v z => by cases z⟩
  ·exact ⟨_, q3, fun v z => by rw [d3] at z; cases z⟩
  ·exact ⟨_, q4, fun v z => by rw [d4] at z; cases z⟩
 keep := fun i h h' ⟨hz, h1, ⟨u, v, h2⟩, h3, h4⟩ k => ⟨k z (by simp) _ hz, k TI (by simp) _ h1, ⟨u, v, k TO (by simp) _ h2⟩, h3.at fun o q => k i1 (by simp) o q, h4.at fun o q => k i2 (by simp) o q⟩
 item := by
  intro X hP hw hK hc i pins s σ H E I hf st hg
  subst hP hw hK
  obtain ⟨hz, h1, ⟨u0, v0, h2⟩, h3, h4⟩ := st
  obtain ⟨xs, ys, x, y, hx, hy, ex, ey⟩ := hg
  obtain ⟨its, rv, p, hzx⟩ := I.list hx
  obtain ⟨jts, rw', p', hzy⟩ := I.list hy
  obtain ⟨u, hu, ru⟩ := rv.get ex
  obtain ⟨v, hv, rv'⟩ := rw'.get ey
  refine wpAny_pyNext_zip_item D hz h1 h2 h3 h4 p.isList p'.isList (x := u) (y := v) (by simpa using hu) (by simpa using hv) fun h' a1 a2 a3 a4 a5 a6 hk => ?_
  refine ⟨_, rfl, ?_⟩
  refine wpAny_letOwnedTupleGo_zip (s := { s with heap := h' }) a1 fun h'' m1 m2 => ?_
  have lt : ∀ {c o}, s.heap.get? c = some o → s.heap.objs.size ≠ c := fun e => Nat.ne_of_gt (Heap.lt_size e)
  have keep : ∀ b o, b ∉ [z, TI, TO, i1, i2] → s.heap.get? b = some o → h''.get? b = some o := fun b o hb q => m2.extBut b o (fun z => hb (by simp [z])) (hk b o (fun z => hb (by simp [z])) (fun z => hb (by simp [z])) (fun z => hb (by simp [z])) (fun z => hb (by simp [z])) q)
  have ht : h''.get? s.heap.objs.size = some { cls := .type "tuple", data := .seq [u, v].toArray } := m2.extBut _ _ (lt hz) a5
  have J1 : Inv X pins σ (upd H s.heap.objs.size (.tup [x, y])) { s with heap := h'', toks := s.toks } := Inv.turnedTup I hf keep (.cons ru (.cons rv' .nil)) (by show 2 ≤ sizeLine; decide) ht
  have hn : H s.heap.objs.size = none := I.fresh
  refine ⟨.ref s.heap.objs.size, _, J1, rfl, ⟨_, hn, rfl, fun xs' ys' x' y' q1 q2 q3 q4 => ?_⟩, ⟨m1, ?_, ⟨_, _, m2.extBut _ _ D.TOz a2⟩, a3.extBut m2.extBut D.i1z, a4.extBut m2.extBut D.i2z⟩, fun c hb => ?_⟩
  ·have e1 := I.list_inj q1 hx
   have e2 := I.list_inj q2 hy
   subst e1 e2
   rw [ex] at q3
   rw [ey] at q4
   cases q3
   cases q4
   rfl
  ·exact m2.extBut _ _ D.TIz (hk _ _ D.TIz D.TITO D.TIi1 D.TIi2 h1)
  ·have q : ∃ o, s.heap.get? c = some o := by
    obtain ⟨o3, q3, _, d3⟩ := h3
    obtain ⟨o4, q4, _, d4⟩ := h4
    have hb' := hb
    simp only [List.mem_cons, List.not_mem_nil, or_false] at hb'
    rcases hb' with rfl | rfl | rfl | rfl | rfl
    ·exact ⟨_, hz⟩
    ·exact ⟨_, h1⟩
    ·exact ⟨_, h2⟩
    ·exact ⟨_, q3⟩
    ·exact ⟨_, q4⟩
   obtain ⟨o, q⟩ := q
   rw [upd_ne (Nat.ne_of_lt (Heap.lt_size q))]
   exact (hf c hb).1
 done := by
  intro X hP hw hK hc i pins s σ H E I hf st hg
  subst hP hw hK
  obtain ⟨hz, h1, ⟨u0, v0, h2⟩, h3, h4⟩ := st
  obtain ⟨xs, ys, hx, hy, e⟩ := hg
  obtain ⟨its, rv, p, hzx⟩ := I.list hx
  obtain ⟨jts, rw', p', hzy⟩ := I.list hy
  have l1 := rv.length
  have l2 := rw'.length
  refine wpAny_pyNext_zip_end (I.ok.hd hc) D hz h1 h2 h3 h4 p.isList p'.isList ?_ fun h' hk => ⟨rfl, Inv.turnedN (t' := s.toks) I hf fun b o hb q => hk b o (fun z => hb (by simp [z])) (fun z => hb (by simp [z])) (fun z => hb (by simp [z])) (fun z => hb (by simp [z])) q⟩
  rcases e with e | e
  ·left; simp; omega
  ·right; simp; omega
 self := fun _ _ _ _ _ ⟨hz, _⟩ h => wpAny_pyIter_zip hz h
section
variable {X : Cx}
def iZip (K : PySem.W.Frag) (ta : TA) : TI := fun σ H R => ta σ H fun vs H1 => ∃ a b, vs = [.ref a, .ref b] ∧ (∃ xs, SqL K H1 a xs) ∧ (∃ ys, SqL K H1 b ys) ∧ R (Itz K a b) H1
theorem pi_zip {a b : Expr} {ta : TA} {p pos : Pos} {es : List Expr} {x1 : Nat} {pt : Pos} (hg : Gl X "zip") (hm : X.mg "zip" = none) (ha : PA X [a, b] ta) (hs : starEach [a, b] X.env = [(false, eval a X.env), (false, eval b X.env)] := by rfl) (hs2 : starEach [b] X.env = [(false, eval b X.env)] := by rfl) :
  PI X (.Tuple es x1 pt) (.Call (.Name "zip" p) [a, b] [] pos) (iZip X.K ta) := by
 intro pins s σ H R I h
 refine Call_ (ld_blt I hg hm boot_zip (PyProof.Rows.callWith_type1 (thn (ha pos pins s σ H _ I h) fun us s1 ⟨vs, H1, I1, r1, q1⟩ => ?_) (by rw [hs, hs2]) (by rw [hs2]; rfl)))
 obtain ⟨a, b, e, ⟨xs, hx⟩, ⟨ys, hy⟩, q⟩ := q1
 subst e
 obtain ⟨u, v, rfl, ru, rv⟩ := vals2 r1
 cases ru
 cases rv
 obtain ⟨its, rv, p, hzx⟩ := I1.list hx
 obtain ⟨jts, rw', p', hzy⟩ := I1.list hy
 have la : a < s1.heap.objs.size := by obtain ⟨o, n, e, _⟩ := p; exact Heap.lt_size e
 have lb : b < s1.heap.objs.size := by obtain ⟨o, n, e, _⟩ := p'; exact Heap.lt_size e
 refine call_zip_2 p.isList p'.isList fun h' k1 k2 k3 k4 k5 k6 k7 => ?_
 refine wpAny_pyIter_zip (s := { s1 with heap := h' }) k1 ?_
 have D : ZipApart (s1.heap.objs.size + 4) (s1.heap.objs.size + 2) (s1.heap.objs.size + 3) s1.heap.objs.size (s1.heap.objs.size + 1) a b := by
  generalize s1.heap.objs.size = z at la lb
  have la' : @LT.lt Nat _ a z := la
  have lb' : @LT.lt Nat _ b z := lb
  constructor <;> first | exact (show @Ne Nat _ _ by omega)
 refine ⟨s1.heap.objs.size + 4, [s1.heap.objs.size + 4, s1.heap.objs.size + 2, s1.heap.objs.size + 3, s1.heap.objs.size, s1.heap.objs.size + 1], _, _, H1, rfl, I1.kept (t' := s1.toks) k7, turn_zip D, ⟨k1, k2, ⟨_, _, k3⟩, k4, k5⟩, fun c hc => ?_, q⟩
 have hb' : s1.heap.objs.size ≤ c := by
  simp only [List.mem_cons, List.not_mem_nil, or_false] at hc
  rcases hc with rfl | rfl | rfl | rfl | rfl
  ·exact Nat.le_add_right _ _
  ·exact Nat.le_add_right _ _
  ·exact Nat.le_add_right _ _
  ·exact Nat.le_refl _
  ·exact Nat.le_add_right _ _
 exact I1.fpOk hb' (I1.hok.fresh hb')
theorem for_zip {K : PySem.W.Frag} {a b : Addr} {xs ys : List V} {g : TG} {tb : TS} {D : Ends} {σ : St} {H : Hp} (n : Nat) (hn : n = min xs.length ys.length) (Pv : Nat → St → Hp → Prop) (h0 : Pv 0 σ H) (hl : ∀ i σ H, i ≤ n → Pv i σ H → SqL K H a xs ∧ SqL K H b ys)
  (hs : ∀ i x y σ H p, xs[i]? = some x → ys[i]? = some y → Pv i σ H → H p = none → g (.ref p) σ (upd H p (.tup [x, y])) fun σ2 H2 => tb { D with nx := Pv (i + 1), ct := Pv (i + 1), bk := D.nx } σ2 H2) (hd : ∀ σ H, Pv n σ H → D.nx σ H) :
  ∃ W : Nat → Nat → St → Hp → Prop, (∃ m, W 0 m σ H) ∧ ∀ i m σ H, W i m σ H →
   ((Itz K a b).stop i H ∧ D.nx σ H) ∨ ((Itz K a b).go i H ∧ ∃ N : St → Hp → Prop, (∀ σ' H', N σ' H' → ∃ m', m' < m ∧ W (i + 1) m' σ' H') ∧ ∀ x H', (Itz K a b).yld i H x H' → g x σ H' fun σ2 H2 => tb { D with nx := N, ct := N, bk := D.nx } σ2 H2) := by
 refine ⟨fun i m σ H => m = n - i ∧ i ≤ n ∧ Pv i σ H, ⟨n, by simp, Nat.zero_le _, h0⟩, ?_⟩
 rintro i m σ H ⟨rfl, hi, p⟩
 obtain ⟨q1, q2⟩ := hl i σ H hi p
 by_cases hlt : i < n
 ·have h1 : i < xs.length := by omega
  have h2 : i < ys.length := by omega
  refine .inr ⟨⟨xs, ys, xs[i], ys[i], q1, q2, by simp [h1], by simp [h2]⟩, Pv (i + 1), fun σ' H' p' => ⟨n - (i + 1), by omega, rfl, hlt, p'⟩, fun x H' y => ?_⟩
  obtain ⟨pa, hp, e, y⟩ := y
  subst e
  have hx : xs[i]? = some xs[i] := by simp [h1]
  have hy : ys[i]? = some ys[i] := by simp [h2]
  rw [y xs ys _ _ q1 q2 hx hy]
  exact hs i _ _ σ H pa hx hy p hp
 ·have e : i = n := by omega
  subst e
  exact .inl ⟨⟨xs, ys, q1, q2, by omega⟩, hd σ H p⟩
end
section
variable {K : PySem.W.Frag} {l : Addr} {g : TG} {tt : TT} {te : TE} {cap : List (Option Nat)} {σ : St} {Q : VK} {H1 : Hp} {J : It}
theorem lc_any (n : Nat) (Pv : Nat → List V → Hp → Prop) (h0 : Pv 0 [] (upd H1 l (.lst []))) (go : ∀ i acc H, i < n → Pv i acc H → J.go i H) (st : ∀ acc H, Pv n acc H → J.stop n H)
  (hs : ∀ i x acc H H', i < n → Pv i acc H → J.yld i H x H' → g x (capSt cap σ) H' fun σ2 H2 => tt σ2 H2 fun b H3 =>
    if b = true then te σ2 H3 fun y H4 => H4 l = some (.lst acc) ∧ acc.length < sizeLine ∧ Pv (i + 1) (acc ++ [y]) (upd H4 l (.lst (acc ++ [y])))
    else Pv (i + 1) acc H3) (hd : ∀ acc H, Pv n acc H → Q (.ref l) H) : LcW J g tt te cap σ Q l H1 := by
 refine ⟨fun i m acc H => m = n - i ∧ i ≤ n ∧ Pv i acc H, ⟨n, by simp, Nat.zero_le _, h0⟩, ?_⟩
 rintro i m acc H ⟨rfl, hi, p⟩
 by_cases hlt : i < n
 ·exact .inr ⟨go i acc H hlt p, fun acc' H' => Pv (i + 1) acc' H', fun acc' H' p' => ⟨n - (i + 1), by omega, rfl, hlt, p'⟩, fun x H' y => hs i x acc H H' hlt p y⟩
 ·have e : i = n := by omega
  subst e
  exact .inl ⟨st acc H p, hd acc H p⟩
end
end TL
namespace TL
open PySem PySem.Spec PyProof.Rows L2
def sPut (S : Int → Bool) (k : Int) : Int → Bool := fun k' => S k' || decide (k' = k)
def nPut (S : Int → Bool) (n : Nat) (k : Int) : Nat := if S k = true then n else n + 1
section
variable {X : Cx} {pins : List (Addr × Obj)} {σ : St} {H : Hp} {s : Shared}
theorem Inv.setM {l : Addr} {S : Int → Bool} {n : Nat} (I : Inv X pins σ H s) (h : H l = some (.set S n)) : s.heap.SetOf (intKind X.prog X.w) l S n := I.hok l _ h
theorem isInt_self (k : Int) (t : Tok) : Value.isInt k (.int k t) = true := by simp [Value.isInt]
def rSAdd : V → List V → Hp → VK → Prop := fun x vs H Q => ∃ l S n k, x = .ref l ∧ vs = [.int k] ∧ H l = some (.set S n) ∧ n + 1 < scanBound ∧ Q .non (upd H l (.set (sPut S k) (nPut S n k)))
theorem mt_sadd : MtR X "set.add" rSAdd := by
 intro pins s σ H x vs v us Q I rx rv h
 obtain ⟨l, S, n, k, rfl, rfl, hH, hb, q⟩ := h
 cases rx
 obtain ⟨u, rfl, t, rfl⟩ := rv.one
 have hS := Inv.setM I hH
 refine call_set_add (knd := intKind X.prog X.w) (k := k) (isInt_self k t) rfl hS hb fun h' sb hS' => ?_
 refine ⟨.non, _, I.write (t' := s.toks + 1) (o := .set (sPut S k) (nPut S n k)) (x := l) (e := l) (by rw [hH]; exact trivial) (.inl rfl) (fun b u hb e => sb.extBut b u hb e) ?_ ?_, rfl, q⟩
 ·obtain ⟨o, _, _, _, e, _⟩ := hS'; exact ⟨o, e⟩
 ·exact hS'
theorem call_lenS : CallR X (.builtin "len") (fun xs H Q => ∃ p S n, xs = [.ref p] ∧ H p = some (.set S n) ∧ Q (.int n) H) := by
 intro pins s σ H xs us Q I r h
 obtain ⟨p, S, n, rfl, hH, q⟩ := h
 obtain ⟨u, rfl, rx⟩ := vals1 r
 cases rx
 obtain ⟨o, es, ep, t, e, hex, hd, hel, hm, hb, hf, hn⟩ := Inv.setM I hH
 refine call_len_set e hex hd hf ?_ ⟨.int n, H, I.tok _, ⟨_, by rw [hn]⟩, q⟩
 have : scanBound = 4096 := rfl
 omega
end
section
variable {X : Cx} {pins : List (Addr × Obj)} {σ : St} {H1 : Hp} {s2 : Shared} {scope : Scope} {N : List Str} {own : Nat} {cap : List (Option Nat)} {cl : List (Str × Addr)} {fp : List Addr}
 {tg iter elt : Expr} {ifs : List Expr} {pos : Pos} {g : TG} {tt : TT} {te : TE} {wi : TI}
def ScW (J : It) (g : TG) (tt : TT) (te : TE) (cap : List (Option Nat)) (σ : St) (Q : VK) (l : Addr) (H1 : Hp) : Prop :=
 ∃ W : Nat → Nat → Hp → Prop, (∃ m, W 0 m (upd H1 l (.set (fun _ => false) 0))) ∧ ∀ i m H, W i m H →
  (J.stop i H ∧ Q (.ref l) H) ∨ (J.go i H ∧ ∃ N : Hp → Prop, (∀ H', N H' → ∃ m', m' < m ∧ W (i + 1) m' H') ∧
   ∀ x H', J.yld i H x H' → g x (capSt cap σ) H' fun σ2 H2 => tt σ2 H2 fun b H3 =>
    if b = true then te σ2 H3 fun y H4 => ∃ S n k, y = .int k ∧ H4 l = some (.set S n) ∧ n + 1 < scanBound ∧ N (upd H4 l (.set (sPut S k) (nPut S n k)))
    else N H3)
def tSC (wi : TI) (cap : List (Option Nat)) (g : TG) (tt : TT) (te : TE) : TE := fun σ H Q => wi σ H fun J H1 => ∀ l, H1 l = none →
 ScW J g tt te cap σ Q l H1
theorem comp_runS {it : Addr} {tn : Nat → Heap → Prop} {J : It} {Q : VK} {RR : Value → Addr → Result → Shared → Prop} {E : Value → Shared → Prop} (I : Inv X pins σ H1 s2) (T : Turn X.prog X.w X.K tg J fp it tn) (t0 : tn 0 s2.heap)
  (f : ∀ b ∈ fp, FpOk X pins H1 b) (hc : X.calm = true) (C : CompOk X.env.scope X.N scope N own cap) (ho : GOwn own g)
  (hcl1 : ∀ x c, cl.lookup x = some c → X.env.cells.lookup x = some c) (hcl2 : ∀ y ∈ scope.names, y.2 = .free → ∃ c, cl.lookup y.1 = some c)
  (hg : ∀ s3 H3, PG (cxComp X scope cl N fp s3 H3) tg g) (ht : ∀ s3 H3, PIfs (cxComp X scope cl N fp s3 H3) ifs tt) (he : ∀ s3 H3, PE (cxComp X scope cl N fp s3 H3) elt te)
  (hw : ∀ l, H1 l = none → ScW J g tt te cap σ Q l H1)
  (fin : ∀ l C s' H' m', Inv X pins σ H' s' → s'.heap.Ns C m' → H' C = none → Apart X pins C → Q (.ref l) H' → RR (.ref l) C (.ok .next) s') :
  wpAny (model X.prog X.w) X.A (newSet (.type "set")) (fun acc s₃ => wpAny (model X.prog X.w) X.A (newFunctionEnv scope X.env.globals cl [] X.env.qual none .none (some X.env)) (fun cenv s₄ =>
   codeAny (model X.prog X.w) X.A (.compStart (.SetComp elt [⟨tg, iter, ifs, 0⟩] scope pos) 0 (.ref it) acc { cenv with scope := relabel scope X.env }) (RR acc cenv.locals) s₄) E s₃) E s2 := by
 refine wpAny_newSet_of (knd := intKind X.prog X.w) fun led hset => ?_
 refine wpAny_newFunctionEnv C.nocell (by intro y hy; simp at hy) (fun h₁ hns₁ hsb₁ => ?_) C.kind
 dsimp only at hns₁ hsb₁ ⊢
 obtain ⟨W, ⟨m0, w0⟩, turn⟩ := hw s2.heap.objs.size I.fresh
 have I3 : Inv X pins σ (upd H1 s2.heap.objs.size (.set (fun _ => false) 0)) { s2 with heap := s2.heap.push { cls := .type "set", dict := none, data := .set #[] 0 (.fresh 0 0 led) } } :=
  I.laid (t' := s2.toks) (fun b u e => Heap.get?_push_of_some _ e) (Nat.le_refl _) hset
 generalize hs3 : ({ s2 with heap := s2.heap.push { cls := .type "set", dict := none, data := .set #[] 0 (.fresh 0 0 led) } } : Shared) = s3 at I3
 have hh3 : s3.heap = s2.heap.push { cls := .type "set", dict := none, data := .set #[] 0 (.fresh 0 0 led) } := by rw [← hs3]
 rw [← hh3] at hns₁ hsb₁ ⊢
 have e4 : ({ s2 with heap := h₁, toks := s2.toks + ([] : List (Str × Value)).length } : Shared) = { s3 with heap := h₁, toks := s2.toks } := by rw [← hs3]; rfl
 rw [e4]
 have k4 : ∀ b u, s3.heap.get? b = some u → h₁.get? b = some u := fun b u e => hsb₁.extBut b u (Nat.ne_of_lt (Heap.lt_size e)) (Heap.get?_push_of_some _ e)
 have k3 : ∀ b u, s2.heap.get? b = some u → s3.heap.get? b = some u := fun b u e => by rw [hh3]; exact Heap.get?_push_of_some _ e
 have hb2 : ∀ b ∈ fp, b < s2.heap.objs.size := fun b hb => by obtain ⟨o, e, _⟩ := T.obj _ _ t0 b hb; exact Heap.lt_size e
 have f3 : ∀ b ∈ fp, FpOk X pins (upd H1 s2.heap.objs.size (.set (fun _ => false) 0)) b := fun b hb => by
  obtain ⟨f0, fr⟩ := f b hb
  exact ⟨by rw [upd_ne (Nat.ne_of_lt (hb2 b hb))]; exact f0, fr⟩
 have hb3 : ∀ b ∈ fp, b < s3.heap.objs.size := fun b hb => by obtain ⟨o, e, _⟩ := T.obj _ _ t0 b hb; exact Heap.lt_size (k3 b o e)
 have I4 := inv_comp (tk := s2.toks) I3 C hcl1 hcl2 (fun b hb => ⟨f3 b hb, hb3 b hb⟩) hns₁ k4
 generalize hH3 : upd H1 s2.heap.objs.size (.set (fun _ => false) 0) = H3 at *
 have st4 : tn 0 h₁ := T.keep _ _ _ t0 fun b hb o e => k4 b o (k3 b o e)
 have fpX : ∀ {H' : Hp}, (∀ b ∈ fp, H' b = none) → ∀ b ∈ fp, FpOk (cxComp X scope cl N fp s3 H3) [] H' b := fun {H'} hn b hb => by
  obtain ⟨f0, f1, f2, f3', f4, f5⟩ := f3 b hb
  refine ⟨hn b hb, Nat.ne_of_lt (hb3 b hb), fun hz => ?_, .inl hb, fun x c e => f4 x c (hcl1 x c e), fun p hp => absurd (show p ∈ ([] : List (Addr × Obj)) from hp) (by simp)⟩
  rcases List.mem_cons.mp (I3.stkSub b hz) with z | z
  ·exact f1 z
  ·exact f2 z
 have loop : codeAny (model X.prog X.w) X.A (.compLoop (.SetComp elt [⟨tg, iter, ifs, 0⟩] scope pos) 0 (.ref it) (.ref s2.heap.objs.size) (compEnvC scope cl s3.heap.objs.size X.env)) (RR (.ref s2.heap.objs.size) s3.heap.objs.size) { s3 with heap := h₁, toks := s2.toks } := by
  refine compLoop_goS (fun n s' => ∃ i H', Inv (cxComp X scope cl N fp s3 H3) [] (capSt cap σ) H' s' ∧ tn i s'.heap ∧ (∀ b ∈ fp, H' b = none) ∧ W i n H') ?_ m0 ⟨0, H3, I4, st4, fun b hb => (f3 b hb).1, w0⟩
  rintro n s' ⟨i, H', I', st, fr, w⟩
  rcases turn i n H' w with ⟨stop, q⟩ | ⟨go, NN, hNN, step⟩
  ·refine thn (T.done (cxComp X scope cl N fp s3 H3) rfl rfl rfl hc i [] s' _ H' (fun _ _ => False) I' (fpX fr) st stop) fun r s5 ⟨hr, I5⟩ => ?_
   subst hr
   obtain ⟨m5, hn5, _⟩ := id I5.loc
   exact fin _ _ s5 H' m5 (comp_back I3 f3 I5) hn5 I5.free (TL.Inv.apart I3) q
  ·refine thn (T.item (cxComp X scope cl N fp s3 H3) rfl rfl rfl hc i [] s' _ H' (fun _ _ => False) I' (fpX fr) st go) fun r s5 ⟨u, hr, h5⟩ => ?_
   subst hr
   refine thn h5 fun _ s6 ⟨x, H6, I6, r6, y6, st6, fr6⟩ => ?_
   have I6' := I6.pinned (fpX fr6) (T.obj _ _ st6)
   refine thn (hg s3 H3 _ s6 _ H6 x u _ I6' r6 (ho.own _ _ _ _ (step x H6 y6))) fun _ s7 ⟨σ7, H7, I7, q7, l7, o7⟩ => ?_
   have cov : ∀ (i : Nat) v, (capSt cap σ)[i]? = some (some v) → σ7[i]? = some (some v) := fun i v e => by
    obtain ⟨j, c1, c2⟩ := capSt_get e
    by_cases hi : i < own
    ·exact (C.own_none hi c1).elim
    ·rw [o7 i (by omega)]; exact e
   have back : ∀ {H8 : Hp} {s8 : Shared}, Inv (cxComp X scope cl N fp s3 H3) ([] ++ pinsAt fp s6.heap) σ7 H8 s8 → Inv (cxComp X scope cl N fp s3 H3) [] (capSt cap σ) H8 s8 ∧ tn (i + 1) s8.heap ∧ ∀ b ∈ fp, H8 b = none := fun {H8 s8} I8 => by
    refine ⟨(Inv.unpinned (pins := []) I8).weak l7.symm cov, T.keep _ _ _ st6 fun b hb o e => (I8.pin (b, o) (List.mem_append_right _ (List.mem_append_right _ (mem_pinsAt hb e)))).1, fun b hb => ?_⟩
    obtain ⟨o, e, d⟩ := T.obj _ _ st6 b hb
    exact (I8.pin (b, o) (List.mem_append_right _ (List.mem_append_right _ (mem_pinsAt hb e)))).2.1
   refine thn (ht s3 H3 _ s7 σ7 H7 _ I7 q7) fun b s8 ⟨H8, I8, q8⟩ => ?_
   cases b with
   | false =>
    rw [if_neg Bool.false_ne_true] at q8 ⊢
    obtain ⟨m', hm, w8⟩ := hNN _ q8
    obtain ⟨J1, J2, J3⟩ := back I8
    exact ⟨m', hm, i + 1, H8, J1, J2, J3, w8⟩
   | true =>
    rw [if_pos rfl] at q8 ⊢
    refine thn (he s3 H3 _ s8 σ7 H8 _ I8 q8) fun v s9 ⟨y, H9, I9, r9, S, nn, k, ey, ha, hz, n9⟩ => ?_
    obtain ⟨m', hm, w9⟩ := hNN _ n9
    subst ey
    refine thn (mt_sadd _ s9 σ7 H9 (.ref s2.heap.objs.size) [.int k] (.ref s2.heap.objs.size) [v] (fun _ H10 => W (i + 1) m' H10) I9 rfl (.cons r9 .nil) ⟨_, S, nn, k, rfl, rfl, ha, hz, w9⟩) fun _ s10 ⟨_, H10, I10, _, w10⟩ => ?_
    obtain ⟨J1, J2, J3⟩ := back I10
    exact ⟨m', hm, i + 1, H10, J1, J2, J3, w10⟩
 exact compStart_set loop (T.self X.A 0 _ _ _ st4 loop)
theorem pe_sc (hi : PI X tg iter wi) (hc : X.calm = true) (C : CompOk X.env.scope X.N scope N own cap) (ho : GOwn own g)
  (hg : ∀ cl fp s3 H3, PG (cxComp X scope cl N fp s3 H3) tg g) (ht : ∀ cl fp s3 H3, PIfs (cxComp X scope cl N fp s3 H3) ifs tt) (he : ∀ cl fp s3 H3, PE (cxComp X scope cl N fp s3 H3) elt te)
  (hs : ∀ x, foldedSetIterable iter X.env x = pure x := by intro _; rfl) : PE X (.SetComp elt [⟨tg, iter, ifs, 0⟩] scope pos) (tSC wi cap g tt te) := by
 intro pins s σ H Q I h
 obtain ⟨cl, ecl, hcl1, hcl2⟩ := closure_ok (scope := scope) (env := X.env) fun y hy hf => I.ok.has y.1 (C.fre y hy hf)
 rw [arm_eval_SetComp]
 refine wpAny_comprehension_free (use := none) rfl hs ecl C.kind C.loc (thn (hi pins s σ H _ I h) fun xv s1 h1 => thn h1 fun itv s2 h2 => ?_)
 obtain ⟨it, fp, tn, J, H2, e, I2, T, st2, f2, hw⟩ := h2
 subst e
 refine comp_runS (RR := fun acc C => compPost (model X.prog X.w) X.A X.xe none (EP X pins σ Q) acc C) I2 T st2 f2 hc C ho hcl1 hcl2 (hg cl fp) (ht cl fp) (he cl fp) hw fun l Ca s' H' m' I' hn hfree hP q => ?_
 exact ⟨m', hn, fun h'' hs'' => ⟨.ref l, H', comp_gone I' hP hfree hs'', rfl, q⟩⟩
end
def dn (ks : List Int) : Nat → Nat
 | 0 => 0
 | i + 1 => if ks.getD i 0 ∈ ks.take i then dn ks i else dn ks i + 1
theorem dn_le (ks : List Int) : ∀ i, dn ks i ≤ i
 | 0 => Nat.le_refl _
 | i + 1 => by
  have := dn_le ks i
  unfold dn
  split <;> omega
theorem dn_eq {ks : List Int} : ∀ {i}, dn ks i = i ↔ ∀ j, j < i → ks.getD j 0 ∉ ks.take j
 | 0 => ⟨fun _ j h => absurd h (Nat.not_lt_zero j), fun _ => rfl⟩
 | i + 1 => by
  have h1 := dn_le ks i
  have h2 := @dn_eq ks i
  unfold dn
  constructor
  ·intro h j hj
   split at h
   ·omega
   ·rcases Nat.lt_succ_iff_lt_or_eq.mp hj with z | z
    ·exact h2.mp (by omega) j z
    ·subst z; assumption
  ·intro h
   rw [if_neg (h i (by omega)), h2.mpr fun j hj => h j (by omega)]
theorem nodup_take (ks : List Int) : ks.Nodup ↔ ∀ j, j < ks.length → ks.getD j 0 ∉ ks.take j := by
 constructor
 ·intro h j hj hm
  obtain ⟨i, hi, e⟩ := List.mem_iff_getElem.mp hm
  rw [List.length_take] at hi
  rw [List.getElem_take] at e
  have e2 : ks.getD j 0 = ks[j] := by rw [List.getD_eq_getElem?_getD, List.getElem?_eq_getElem hj]; rfl
  rw [e2] at e
  have := (List.getElem_inj h).mp e
  omega
 ·intro h
  rw [List.Nodup, List.pairwise_iff_getElem]
  intro i j hi hj hij e
  refine h j hj ?_
  have e2 : ks.getD j 0 = ks[j] := by rw [List.getD_eq_getElem?_getD, List.getElem?_eq_getElem hj]; rfl
  rw [e2, ← e]
  exact List.mem_iff_getElem.mpr ⟨i, by rw [List.length_take]; omega, by rw [List.getElem_take]⟩
theorem dn_nodup (ks : List Int) : dn ks ks.length = ks.length ↔ ks.Nodup := dn_eq.trans (nodup_take ks).symm
theorem dn_lt (ks : List Int) : dn ks ks.length < ks.length ↔ ¬ ks.Nodup := by
 rw [← dn_nodup]
 have := dn_le ks ks.length
 omega
theorem take_snoc {ks : List Int} {i : Nat} (hi : i < ks.length) : ks.take (i + 1) = ks.take i ++ [ks.getD i 0] := by
 rw [List.take_add_one, List.getD_eq_getElem?_getD, List.getElem?_eq_getElem hi]; rfl
theorem sPut_take {ks : List Int} {i : Nat} (hi : i < ks.length) : sPut (fun k => decide (k ∈ ks.take i)) (ks.getD i 0) = fun k => decide (k ∈ ks.take (i + 1)) := by
 funext k
 rw [take_snoc hi]
 simp [sPut]
theorem nPut_take (ks : List Int) (i : Nat) : nPut (fun k => decide (k ∈ ks.take i)) (dn ks i) (ks.getD i 0) = dn ks (i + 1) := by
 unfold nPut
 rw [dn]
 by_cases h : ks.getD i 0 ∈ ks.take i
 ·rw [if_pos h, if_pos (by simpa using h)]
 ·rw [if_neg h, if_neg (by simpa using h)]
section
variable {X : Cx}
end
section
variable {l : Addr} {g : TG} {tt : TT} {te : TE} {cap : List (Option Nat)} {σ : St} {Q : VK} {H1 : Hp} {J : It}
theorem sc_pureJ {α : Type} {n : Nat} {it : Nat → V → Prop} (S : JS J n H1 it) (ds : List α) (f : α → Int) (hn : H1 l = none) (hlen : n = ds.length) (hz : n + 1 < scanBound)
  (hs : ∀ (i : Nat) x d H, it i x → ds[i]? = some d → Same H1 H → ∀ (P1 : VK) (P0 : Hp → Prop), P1 (.int (f d)) H →
   g x (capSt cap σ) H fun σ2 H2 => tt σ2 H2 fun b H3 => if b = true then te σ2 H3 P1 else P0 H3)
  (hq : Q (.ref l) (upd H1 l (.set (fun k => decide (k ∈ ds.map f)) (dn (ds.map f) n)))) : ScW J g tt te cap σ Q l H1 := by
 refine ⟨fun i m H => m = n - i ∧ i ≤ n ∧ H = upd H1 l (.set (fun k => decide (k ∈ (ds.map f).take i)) (dn (ds.map f) i)), ⟨n, by simp, Nat.zero_le _, ?_⟩, ?_⟩
 ·congr 2
 rintro i m H ⟨rfl, hi, e2⟩
 have sm : Same H1 H := by rw [e2]; exact same_upd hn
 by_cases hlt : i < n
 ·refine .inr ⟨S.go i H sm hlt, fun H' => H' = upd H1 l (.set (fun k => decide (k ∈ (ds.map f).take (i + 1))) (dn (ds.map f) (i + 1))), fun H' p2 => ⟨n - (i + 1), by omega, rfl, hlt, p2⟩, fun x H' y0 => ?_⟩
  obtain ⟨e, y⟩ := S.yld i H x H' sm hlt y0
  clear y0
  subst e
  have hd : ds[i]? = some (ds[i]'(by omega)) := by simp
  generalize ds[i]'(by omega) = d at hd
  refine hs i x d H' y hd sm _ _ ⟨_, _, f d, rfl, by rw [e2]; exact upd_same, ?_, ?_⟩
  ·have := dn_le (ds.map f) i
   omega
  ·have e3 : (ds.map f).getD i 0 = f d := by rw [List.getD_eq_getElem?_getD, List.getElem?_map, hd]; rfl
   have h1 := sPut_take (ks := ds.map f) (i := i) (by rw [List.length_map]; omega)
   have h2 := nPut_take (ds.map f) i
   rw [e3] at h1 h2
   rw [h1, h2, e2, upd_upd]
 ·have e : i = n := by omega
  subst e
  refine .inl ⟨S.stop H sm, ?_⟩
  rw [e2, List.take_of_length_le (by rw [List.length_map]; omega)]
  exact hq
end
end TL
namespace TL
open PySem PySem.Spec PyProof.Rows L2
def hid (p : Addr) (H : Hp) : Hp := fun b => if b = p then none else H b
theorem hid_same {p : Addr} {H : Hp} : Same (hid p H) H := fun b o h => by
 unfold hid at h
 by_cases e : b = p
 ·rw [if_pos e] at h; cases h
 ·rw [if_neg e] at h; exact h
theorem hid_ne {p b : Addr} {H : Hp} (h : b ≠ p) : hid p H b = H b := by unfold hid; rw [if_neg h]
theorem hid_self {p : Addr} {H : Hp} : hid p H p = none := by unfold hid; rw [if_pos rfl]
theorem hid_mono {p : Addr} {H H' : Hp} (s : Same H H') : Same (hid p H) (hid p H') := fun b o h => by
 by_cases e : b = p
 ·subst e; rw [hid_self] at h; cases h
 ·rw [hid_ne e] at h ⊢; exact s _ _ h
theorem hid_upd {p : Addr} {H : Hp} {o : HO} : hid p (upd H p o) = hid p H := by
 funext b
 by_cases e : b = p
 ·subst e; rw [hid_self, hid_self]
 ·rw [hid_ne e, hid_ne e, upd_ne e]
theorem hid_tup {K : PySem.W.Frag} {p a : Addr} {H : Hp} {vs xs : List V} (hp : H p = some (.lst vs)) (h : SqT K H a xs) : SqT K (hid p H) a xs := by
 rcases h with (h | ⟨o, h⟩) | h
 ·exact .inl (.inl (by rw [hid_ne (ne_of h hp (by intro z; cases z))]; exact h))
 ·exact .inl (.inr ⟨o, by rw [hid_ne (ne_of h hp (by intro z; cases z))]; exact h⟩)
 ·exact .inr h
theorem cut_drop (xs : List V) {i : Int} (h : 0 ≤ i) : cutV xs (some i) none = xs.drop i.toNat := by
 unfold cutV
 rw [HT.sIx_none]
 have e : HT.sIx xs.length 0 (some i) = min i.toNat xs.length := by
  have := HT.sIx_nat xs.length 0 i.toNat
  rw [show ((i.toNat : Nat) : Int) = i by omega] at this
  exact this
 rw [e]
 by_cases h2 : i.toNat ≤ xs.length
 ·rw [Nat.min_eq_left h2, List.take_of_length_le (by rw [List.length_drop]; omega)]
 ·rw [Nat.min_eq_right (by omega), List.drop_of_length_le (Nat.le_refl _), List.drop_of_length_le (by omega), List.take_nil]
section
variable {L T : Addr → List V → Prop}
end
theorem at_neg1 {xs : List V} {v : V} (h : xs[xs.length - 1]? = some v) : atI xs (-1) = some v := by
 have h1 := (List.getElem?_eq_some_iff.mp h).1
 have hne : xs ≠ [] := fun e => by rw [e] at h1; simp at h1
 have e : xs.getLast hne = v := by
  rw [List.getLast_eq_getElem]
  exact (List.getElem?_eq_some_iff.mp h).2
 rw [← List.dropLast_concat_getLast hne, e]
 exact atI_last _ _
theorem at_nat {xs : List V} {v : V} {i : Int} (h0 : 0 ≤ i) (h : xs[i.toNat]? = some v) : atI xs i = some v := by
 have := atI_nat h
 rw [show ((i.toNat : Nat) : Int) = i by omega] at this
 exact this
section
variable {K : PySem.W.Frag} {l : Addr} {g : TG} {tt : TT} {te : TE} {cap : List (Option Nat)} {σ : St} {Q : VK} {H1 : Hp} {J : It}
end
end TL
namespace TL
open PySem PySem.Spec PyProof.Rows PySem.W L2
section
variable {X : Cx} {pins : List (Addr × Obj)} {σ : St} {H H1 : Hp} {s s' : Shared} {e C : Addr} {B : Heap}
end
section
variable {prog : Program} {w : World} {A : Around} {R : Result → Shared → Prop} {s : Shared} {XE : Value → Shared → Prop}
end
section
variable {M : Model} {A : Around} {E : Value → Shared → Prop} {s : Shared} {env : Env}
end
end TL
namespace TL
open PySem PySem.Spec PyProof.Rows PySem.W L2
section
variable {X : Cx} {pins : List (Addr × Obj)} {σ : St} {H H3 : Hp} {s s3 : Shared} {scope : Scope} {N : List Str} {own : Nat} {cap : List (Option Nat)} {cl : List (Str × Addr)} {fp : List Addr} {E : XK}
def XC (X : Cx) (scope : Scope) (cl : List (Str × Addr)) (N : List Str) (fp : List Addr) (s3 : Shared) (H3 : Hp) (E : XK) : Value → Shared → Prop := fun ev s' => ∃ (pins' : List (Addr × Obj)) (σ' : St) (H' : Hp) (s0 : Shared), Inv (cxComp X scope cl N fp s3 H3) pins' σ' H' s0 ∧ CXr X.prog X.w X.base X.stack H' s0 E ev s'
abbrev cxCompX (X : Cx) (scope : Scope) (cl : List (Str × Addr)) (N : List Str) (fp : List Addr) (s3 : Shared) (H3 : Hp) (E : XK) : Cx := (cxComp X scope cl N fp s3 H3).wish (XC X scope cl N fp s3 H3 E)
end
end TL
namespace TL
open PySem PySem.Spec PyProof.Rows PySem.W L2
section
variable {X : Cx} {pins : List (Addr × Obj)} {σ : St} {H1 : Hp} {s2 : Shared} {scope : Scope} {N : List Str} {own : Nat} {cap : List (Option Nat)} {cl : List (Str × Addr)} {fp : List Addr}
 {tg iter elt : Expr} {ifs : List Expr} {pos : Pos} {g : TG} {tt : TT} {te : TE} {wi : TI} {E : XK}
end
end TL
namespace TL
open PySem PySem.Spec PyProof.Rows L2
theorem passes_no {P : Program} {w : World} {base : Heap} {X : Cx} : Passes (CXr P w base) X E0 := fun _ _ _ _ _ _ _ hx => by
 obtain ⟨_, _, _, _, _, _, _, _, q⟩ := hx
 exact q.elim
section
variable {X : Cx} {pins : List (Addr × Obj)} {σ : St} {H : Hp} {s : Shared} {a : Addr} {kvs : List (List Key × V)}
theorem Inv.freeze (I : Inv X pins σ H s) (ha : H a = some (.dT kvs)) : ∃ o, Inv X pins σ (upd H a (.frz o (.dT kvs))) s := by
 obtain ⟨z, hm, xs, r, o, es, ep, e, c⟩ := I.hok a _ ha
 refine ⟨o, ?_⟩
 have h0 : Inv X pins σ (upd H a (.frz o (.dT kvs))) { s with heap := s.heap, toks := s.toks } := by
  refine I.un (t' := s.toks) ⟨fun b o q _ _ _ => q, fun b o q _ _ _ => ⟨o.slots, q⟩, fun b u q n _ => ?_, fun b o q _ => ⟨o, q⟩, fun b xs q => ?_, fun b u x q => ?_, fun b ps q => ⟨#[], ?_⟩⟩ fun b u q => ?_
  ·rw [upd_ne (Ne.symm (ne_of_none ha n))]; exact n
  ·rw [upd_ne (ne_of q ha (by intro z; cases z))]; exact q
  ·rw [upd_ne (ne_of q ha (by intro z; cases z))]; exact q
  ·rw [upd_ne (ne_of q ha (by intro z; cases z)), q]; simp
  ·have ho : ∀ c b', H c = some (.own b') → upd H a (.frz o (.dT kvs)) c = some (.own b') := fun c b' q => by rw [upd_ne (ne_of q ha (by intro z; cases z))]; exact q
   have ht : ∀ c xs, H c = some (.tup xs) → upd H a (.frz o (.dT kvs)) c = some (.tup xs) := fun c xs q => by rw [upd_ne (ne_of q ha (by intro z; cases z))]; exact q
   by_cases hb : b = a
   ·subst hb
    rw [upd_same] at q
    cases q
    exact ⟨e, (I.hok b _ ha).stay (fun _ _ _ q => q) (fun c q => ho c _ q) ht⟩
   ·rw [upd_ne hb] at q
    exact (I.hok b u q).stay (fun _ _ _ q => q) (fun c q => ho c _ q) ht
 exact h0
theorem Inv.melt {o : Obj} (I : Inv X pins σ H s) (ha : H a = some (.frz o (.dT kvs))) (h0 : ∀ o u, X.H₀ a ≠ some (.frz o u)) : Inv X pins σ (upd H a (.dT kvs)) s := by
 have ne : ∀ b, H b = none → b ≠ a := fun b n => Ne.symm (ne_of_none ha n)
 have hu : Un X.fs X.ex X.H₀ (upd H a (.dT kvs)) X.s₀.heap s.heap := by
  refine ⟨I.base.keep, I.base.slot, fun b u q n hx => ?_, I.base.there, fun b xs q => ?_, fun b u x q => ?_, fun b ps q => ?_⟩
  ·have := I.base.free b u q n hx
   rw [upd_ne (ne b this)]; exact this
  ·have := I.base.tups b xs q
   rw [upd_ne (ne_of this ha (by intro z; cases z))]; exact this
  ·have hb : b ≠ a := fun z => by subst z; exact h0 _ _ q
   rw [upd_ne hb]; exact I.base.frzs b u x q
  ·obtain ⟨m, e⟩ := I.base.tbls b ps q
   exact ⟨m, by rw [upd_ne (ne_of e ha (by intro z; cases z))]; exact e⟩
 refine ⟨I.ok, I.os, I.bare, hu, I.loc, I.cell, by rw [upd_ne (ne _ I.free)]; exact I.free, fun x c e => by rw [upd_ne (ne _ (I.freeC x c e))]; exact I.freeC x c e, fun p hp => ?_, fun b u q => ?_, I.len⟩
 ·obtain ⟨p1, p2, p3⟩ := I.pin p hp
  exact ⟨p1, by rw [upd_ne (ne _ p2)]; exact p2, p3⟩
 ·have ho : ∀ c b', H c = some (.own b') → upd H a (.dT kvs) c = some (.own b') := fun c b' q => by rw [upd_ne (ne_of q ha (by intro z; cases z))]; exact q
  have ht : ∀ c xs, H c = some (.tup xs) → upd H a (.dT kvs) c = some (.tup xs) := fun c xs q => by rw [upd_ne (ne_of q ha (by intro z; cases z))]; exact q
  by_cases hb : b = a
  ·subst hb
   rw [upd_same] at q
   cases q
   exact (I.hok b _ ha).2.stay (fun _ _ _ q => q) (fun c q => ho c _ q) ht
  ·rw [upd_ne hb] at q
   exact (I.hok b u q).stay (fun _ _ _ q => q) (fun c q => ho c _ q) ht
def tFrz (t : TE) : TE := fun σ H Q => ∃ a kvs, H a = some (.dT kvs) ∧ ∀ o, t σ (upd H a (.frz o (.dT kvs))) fun v H' => H' a = some (.frz o (.dT kvs)) ∧ Q v (upd H' a (.dT kvs))
theorem pe_frz {e : Expr} {t : TE} (h : PE X e t) : PE X e (tFrz t) := by
 intro pins s σ H Q I q
 obtain ⟨a, kvs, ha, q⟩ := q
 have h0 : ∀ o u, X.H₀ a ≠ some (.frz o u) := fun o u z => by have := I.base.frzs a o u z; rw [ha] at this; cases this
 obtain ⟨o, I1⟩ := Inv.freeze I ha
 refine thn (h pins s σ _ _ I1 (q o)) fun u s1 ⟨v, H1, I2, r, e1, q1⟩ => ⟨v, _, Inv.melt I2 e1 h0, r, q1⟩
def sFrz (t : TS) : TS := fun D σ H => ∃ a kvs, H a = some (.dT kvs) ∧ ∀ o, t ⟨fun σ' H' => H' a = some (.frz o (.dT kvs)) ∧ D.nx σ' (upd H' a (.dT kvs)), fun v H' => H' a = some (.frz o (.dT kvs)) ∧ D.rt v (upd H' a (.dT kvs)), fun _ _ => False, fun _ _ => False⟩ σ (upd H a (.frz o (.dT kvs)))
theorem ps_frz {st : Stmt} {t : TS} (h : PS X st t) : PS X st (sFrz t) := by
 intro pins s σ H D I q
 obtain ⟨a, kvs, ha, q⟩ := q
 have h0 : ∀ o u, X.H₀ a ≠ some (.frz o u) := fun o u z => by have := I.base.frzs a o u z; rw [ha] at this; cases this
 obtain ⟨o, I1⟩ := Inv.freeze I ha
 refine thn (h pins s σ _ _ I1 (q o)) fun f s1 hf => ?_
 match f, hf with
 | .next, ⟨σ', H', I2, e1, q1⟩ => exact ⟨σ', _, Inv.melt I2 e1 h0, q1⟩
 | .brk, ⟨_, _, _, q1⟩ => exact q1.elim
 | .cont, ⟨_, _, _, q1⟩ => exact q1.elim
 | .ret u, ⟨v, σ', H', I2, r, e1, q1⟩ => exact ⟨v, σ', _, Inv.melt I2 e1 h0, r, q1⟩
end
section
variable {prog : Program} {w : World} {A : Around} {E : Value → Shared → Prop} {s : Shared} {d it : Addr} {o : Obj} {es : Array DictEntry} {ep i : Nat}
theorem rawD_type (ho : s.heap.get? d = some o) (hx : o.ExactDict) : s.TypeIs (.ref d) "dict" := ⟨o, ho, hx.1⟩
theorem rawD_iter {Q : Value → Shared → Prop} (hn : (d == sysModules) = false) (ho : s.heap.get? d = some o) (hx : o.ExactDict) (hd : o.data = .dict es ep)
  (hQ : Q (.ref s.heap.objs.size) { s with heap := s.heap.push { cls := .type "dict_keyiterator", data := .fields #[.ref d, .int 0 0, .int es.size 0, .int ep 0] } }) : wpAny (model prog w) A (pyIter (.ref d)) Q E s := by
 have hT := rawD_type ho hx
 refine wpAny_pyIter_slot hT F.slot_dict_iter (wpAny_call_entry F.slot_dict_iter hT F.entry_dict_iter ?_ (F.args_dict_iter_1 _))
 unfold Builtin.«dict.__iter__»
 refine wpAny_bind ?_
 unfold Builtin.Dict.dictSlotNone
 refine wpAny_bind (wpAny_notOrdered_dict hT (wpAny_pure ?_))
 show wpAny _ _ (Builtin.Dict.showsAll d >>= _) _ _ s
 unfold Builtin.Dict.showsAll
 rw [if_neg (by rw [hn]; exact Bool.false_ne_true)]
 refine wpAny_bind (wpAny_pure (wpAny_bind (wpAny_dictEntries ho hd (wpAny_bind (wpAny_dictEpoch ho hd ?_)))))
 refine wpAny_bind (wpAny_newObj_type (wpAny_pure ⟨_, rfl, "dict_keyiterator", _, ⟨_, Heap.get?_push_size _ rfl, rfl⟩, F.slot_dict_keyiterator_next.lookup, ?_⟩))
 simpa [rawInt] using hQ
theorem rawD_next {Q : Option Value → Shared → Prop} {e : DictEntry} (hit : s.heap.IsKeyIter it d i es.size ep) (ho : s.heap.get? d = some o) (hd : o.data = .dict es ep) (hx : es[i]? = some e)
  (hQ : ∀ h', h'.IsKeyIter it d (i + 1) es.size ep → Heap.SameBut it s.heap h' → Q (some e.key) { s with heap := h' }) : wpAny (model prog w) A (pyNext (.ref it)) Q E s := by
 obtain ⟨oi, hoi, hc, hdi⟩ := id hit
 have hT := hit.typeIs
 unfold pyNext
 refine wpAny_bind (wpAny_attempt (wpAny_callSpecial?_slot (name := Str.ofString "__next__") hT F.slot_dict_keyiterator_next
  (wpAny_call_entry F.slot_dict_keyiterator_next hT F.entry_dict_keyiterator_next ?_ (F.args_dict_keyiterator_next_1 _))))
 refine wpAny_bind (wpAny_pure (wpAny_bind (wpAny_bind ?_)))
 first | refine wpAny_bind (wpAny_typeNameOfWhole_keyiter hT (wpAny_pure ?_)) | refine wpAny_bind (wpAny_typeNameOf_keyiter hT (wpAny_pure ?_))
 refine wpAny_bind (wpAny_fieldsOf hoi hdi ?_)
 have hown : Builtin.Dict_items.ownsTuple "dict_keyiterator" = false := by decide
 simp only [hown, Bool.false_eq_true, if_false]
 show wpAny _ _ (if (Value.ref d == Value.none) = true then _ else _) _ _ s
 rw [if_neg (show ¬ ((Value.ref d == Value.none) = true) from Bool.false_ne_true)]
 refine wpAny_bind (wpAny_pure (wpAny_bind (wpAny_dictEntries ho hd ?_)))
 rw [if_neg (by simp)]
 refine wpAny_bind (wpAny_pure (wpAny_bind (wpAny_dictEpoch ho hd ?_)))
 rw [if_neg (by simp)]
 refine wpAny_pure ?_
 obtain ⟨hlt, he⟩ := Array.getElem?_eq_some_iff.mp hx
 simp only [show ¬ ((i : Int) < 0) from by omega, if_false, Int.toNat_natCast, Array.getElem?_eq_getElem hlt]
 refine wpAny_bind ?_
 first | refine wpAny_bind (wpAny_typeNameOfWhole_keyiter hT (wpAny_pure ?_)) | refine wpAny_bind (wpAny_typeNameOf_keyiter hT (wpAny_pure ?_))
 refine wpAny_bind (wpAny_isOneOf_keyiter hT ?_)
 show wpAny _ _ (setField (.ref it) 1 (rawInt ((i : Int) + 1)) >>= _) _ _ s
 refine wpAny_bind (wpAny_setField hoi hdi (by simp) ?_)
 have hit' : (s.heap.update it (Obj.mapFields (·.setIfInBounds 1 (rawInt ((i : Int) + 1))))).IsKeyIter it d (i + 1) es.size ep :=
  ⟨_, Heap.get?_update_self _ hoi (Obj.isFreed_of_fields (Obj.data_mapFields hdi _)), (Obj.cls_mapFields ..).trans hc, by rw [Obj.data_mapFields hdi]; simp [rawInt]⟩
 refine wpAny_bind (wpAny_holding ?_)
 refine wpAny_bind (wpAny_isOneOf_keyiter (s := { s with heap := s.heap.update it (Obj.mapFields (·.setIfInBounds 1 (rawInt ((i : Int) + 1)))) }) hit'.typeIs ?_)
 show wpAny _ _ (pure es[i].key) _ _ _
 rw [he]
 exact wpAny_pure (wpAny_pure ⟨_, rfl, wpAny_pure (hQ _ hit' (Heap.SameBut.update ..))⟩)
theorem rawD_end {Q : Option Value → Shared → Prop} (hh : A.handled = none) (hit : s.heap.IsKeyIter it d i es.size ep) (ho : s.heap.get? d = some o) (hd : o.data = .dict es ep) (hx : es.size ≤ i)
  (hQ : ∀ h', Heap.ExtBut it s.heap h' → Q none { s with heap := h' }) : wpAny (model prog w) A (pyNext (.ref it)) Q E s := by
 obtain ⟨oi, hoi, hc, hdi⟩ := id hit
 have hT := hit.typeIs
 unfold pyNext
 refine wpAny_bind (wpAny_attempt (wpAny_callSpecial?_slot (name := Str.ofString "__next__") hT F.slot_dict_keyiterator_next
  (wpAny_call_entry F.slot_dict_keyiterator_next hT F.entry_dict_keyiterator_next ?_ (F.args_dict_keyiterator_next_1 _))))
 refine wpAny_bind (wpAny_pure (wpAny_bind (wpAny_bind ?_)))
 first | refine wpAny_bind (wpAny_typeNameOfWhole_keyiter hT (wpAny_pure ?_)) | refine wpAny_bind (wpAny_typeNameOf_keyiter hT (wpAny_pure ?_))
 refine wpAny_bind (wpAny_fieldsOf hoi hdi ?_)
 have hown : Builtin.Dict_items.ownsTuple "dict_keyiterator" = false := by decide
 simp only [hown, Bool.false_eq_true, if_false]
 show wpAny _ _ (if (Value.ref d == Value.none) = true then _ else _) _ _ s
 rw [if_neg (show ¬ ((Value.ref d == Value.none) = true) from Bool.false_ne_true)]
 refine wpAny_bind (wpAny_pure (wpAny_bind (wpAny_dictEntries ho hd ?_)))
 rw [if_neg (by simp)]
 refine wpAny_bind (wpAny_pure (wpAny_bind (wpAny_dictEpoch ho hd ?_)))
 rw [if_neg (by simp)]
 refine wpAny_pure ?_
 simp only [show ¬ ((i : Int) < 0) from by omega, if_false, Int.toNat_natCast, Array.getElem?_eq_none hx]
 refine wpAny_bind ?_
 first | refine wpAny_bind (wpAny_typeNameOfWhole_keyiter hT (wpAny_pure ?_)) | refine wpAny_bind (wpAny_typeNameOf_keyiter hT (wpAny_pure ?_))
 show wpAny _ _ (setField (.ref it) 0 .none >>= _) _ _ s
 refine wpAny_bind (wpAny_setField hoi hdi (by simp) ?_)
 show wpAny _ _ (newExc (.type "StopIteration") [] >>= _) _ _ _
 refine wpAny_bind ?_
 simp only [newExc, newTuple]
 refine wpAny_bind (wpAny_newObj_type ?_ (by size_fits))
 refine wpAny_bind (m := firstArgMember _ _) (wpAny_of_eq (a := Value.none) (by first | rfl | (simp only [firstArgMember]; rfl)) ?_)
 refine wpAny_newObj_type ?_ (by size_fits)
 simp only [raiseNew]
 refine wpAny_bind (wpAny_handled ?_)
 rw [show A.in1.handled = none from hh]
 refine wpAny_bind (wpAny_pure (wpAny_throw ?_))
 refine wpAny_bind (wpAny_isInstance (T := "StopIteration") (b := true) ⟨_, Heap.get?_push_size _ rfl, rfl⟩ isSubtype_stop ?_)
 exact wpAny_pure (hQ _ (((Heap.SameBut.update ..).extBut.push _).push _))
theorem rawD_self {Q : Value → Shared → Prop} {n : Nat} (hit : s.heap.IsKeyIter it d i n ep) (h : Q (.ref it) s) : wpAny (model prog w) A (pyIter (.ref it)) Q E s := by
 have hT := hit.typeIs
 refine wpAny_pyIter_slot hT F.slot_dict_keyiterator_iter (wpAny_call_entry F.slot_dict_keyiterator_iter hT F.entry_dict_keyiterator_iter ?_ (F.args_dict_keyiterator_iter_1 _))
 show wpAny _ _ (ret (.ref it)) _ _ s
 exact wpAny_pure ⟨_, rfl, "dict_keyiterator", _, hT, F.slot_dict_keyiterator_next.lookup, h⟩
end
theorem paired_at {α β : Type} {R : α → β → Prop} : ∀ {l₁ : List α} {l₂ : List β} {i : Nat} {p : α}, Paired R l₁ l₂ → l₁[i]? = some p → ∃ q, l₂[i]? = some q ∧ R p q
 | _, _, 0, _, .cons r _, e => by cases e; exact ⟨_, rfl, r⟩
 | _, _, i + 1, p, .cons _ t, e => paired_at (i := i) t e
def Itk (a : Addr) (o : Obj) (kvs : List (List Key × V)) : It :=
 ⟨fun i H => H a = some (.frz o (.dT kvs)) ∧ i < kvs.length, fun i H x H' => H' = H ∧ ∃ b p, kvs[i]? = some p ∧ x = .ref b ∧ H b = some (.tup (p.1.map kV)), fun i H => H a = some (.frz o (.dT kvs)) ∧ kvs.length ≤ i⟩
theorem turn_keys {P : Program} {w : World} {K : PySem.W.Frag} {tg : Expr} {hx : Heap} (htg : ∀ it u, letOwnedTupleGo tg it u = pure ()) (a it : Addr) (o : Obj) (kvs : List (List Key × V)) (es : Array DictEntry) (ep : Nat) (hd : o.data = .dict es ep) (hl : es.size = kvs.length) :
  Turn P w K tg (Itk a o kvs) [it] it (fun i h => h.IsKeyIter it a i es.size ep) where
 mem := by simp
 obj := fun i h st b hb => by
  have e : b = it := by simpa using hb
  subst e
  obtain ⟨oi, hoi, _, hdi⟩ := st
  exact ⟨oi, hoi, fun v z => by rw [hdi] at z; cases z⟩
 keep := fun i h h' st k => by
  obtain ⟨oi, hoi, r⟩ := st
  exact ⟨oi, k it (by simp) oi hoi, r⟩
 item := by
  intro X hP hw hK hc i pins s σ H E I hf st hg
  subst hP hw hK
  obtain ⟨ha, hi⟩ := hg
  obtain ⟨ho, z, hm, xs, r, o', es', ep', e', _, hd', hes, _⟩ := I.hok a _ ha
  rw [ho] at e'
  cases e'
  rw [hd] at hd'
  cases hd'
  have hp : kvs[i]? = some kvs[i] := by simp [hi]
  obtain ⟨q, hq, q1, q2, q3⟩ := paired_at r hp
  have he : es[i]? = some (entryOfKey (tupleKind (mixKind X.prog X.w)) q) := by
   rw [← Array.getElem?_toList, hes, List.getElem?_map, hq]; rfl
  obtain ⟨g0, g1, g2, g3, g4, g5⟩ := hf it (by simp)
  refine rawD_next st ho hd he fun h' k1 k2 => ?_
  refine ⟨_, rfl, ?_⟩
  rw [htg]
  refine wpAny_pure ⟨.ref q.2.1, H, I.turned (t' := s.toks) (fun b u hb e => k2.extBut b u hb e) g0 g1 g3 g4 g5, rfl, ⟨rfl, q.2.1, _, hp, rfl, q2⟩, k1, fun b hb => ?_⟩
  have e : b = it := by simpa using hb
  subst e; exact g0
 done := by
  intro X hP hw hK hc i pins s σ H E I hf st hg
  subst hP hw hK
  obtain ⟨ha, hi⟩ := hg
  obtain ⟨ho, _⟩ := I.hok a _ ha
  obtain ⟨g0, g1, g2, g3, g4, g5⟩ := hf it (by simp)
  exact rawD_end (I.ok.hd hc) st ho hd (by rw [hl]; exact hi) fun h' eb => ⟨rfl, I.turned (t' := s.toks) (fun b u hb e => eb b u hb e) g0 g1 g3 g4 g5⟩
 self := fun _ _ _ _ _ st h => rawD_self st h
section
variable {X : Cx}
def iKeys (tl : TE) : TI := fun σ H R => tl σ H fun x H1 => ∃ a o kvs, x = .ref a ∧ H1 a = some (.frz o (.dT kvs)) ∧ R (Itk a o kvs) H1
theorem pi_keys {tg e : Expr} {tl : TE} (hl : PE X e tl) (htg : ∀ it u, letOwnedTupleGo tg it u = pure () := by intro _ _; rfl) : PI X tg e (iKeys tl) := by
 intro pins s σ H R I h
 refine thn (hl pins s σ H _ I h) fun u s1 ⟨x, H1, I1, r1, a, o, kvs, ex, ha, q⟩ => ?_
 subst ex
 cases (show u = Value.ref a from r1)
 obtain ⟨ho, z, hm, xs, r, o', es, ep, e', hxd, hd, hes, _⟩ := I1.hok a _ ha
 rw [ho] at e'
 cases e'
 have hsz : es.size = kvs.length := by
  have h1 := congrArg List.length hes
  rw [Array.length_toList, List.length_map, ← Paired.length r] at h1
  exact h1
 refine rawD_iter hm ho hxd hd ?_
 refine ⟨s1.heap.objs.size, [s1.heap.objs.size], _, _, H1, rfl, I1.kept (t' := s1.toks) (fun b u e => Heap.get?_push_of_some _ e), turn_keys (hx := s1.heap) htg a _ o kvs es ep hd hsz, ⟨_, Heap.get?_push_size _ rfl, rfl, rfl⟩, fun b hb => ?_, q⟩
 have e : b = s1.heap.objs.size := by simpa using hb
 subst e
 exact I1.fpOk (Nat.le_refl _) (I1.hok.fresh (Nat.le_refl _))
end
end TL
namespace TL
open PySem PySem.Spec PyProof.Rows L2
section
variable {X : Cx} {pins : List (Addr × Obj)} {σ : St} {H : Hp} {s : Shared} {a b : Addr} {kvs : List (List Key × V)} {k : List Key} {v : V} {r : Value} {A : Around} {E : Value → Shared → Prop}
theorem dT_set {Q : Unit → Shared → Prop} (hu : A.units < cLine) (I : Inv X pins σ H s) (e : H a = some (.dT kvs)) (eb : H b = some (.tup (k.map kV))) (l : kvs.length < sizeLine) (rv : RelV v r)
  (h : ∀ s', Inv X pins σ (upd H a (.dT (putK kvs k v))) s' → Q () s') : wpAny (model X.prog X.w) A (dictSet a (.ref b) r) Q E s := by
 obtain ⟨z, hd, xs, rel, dd⟩ := dt_of I.hok e
 have hz : xs.length ≤ sizeLine := by rw [← Paired.length rel]; exact z
 have hl : (putK kvs k v).length ≤ sizeLine := by have := length_putK kvs k v; omega
 refine wpAny_dictSet_heap (hsz := hz) hu (key_of I.hok eb) dd fun h' dd' hs => h _ ?_
 obtain ⟨q, es, ep, hq, h2, h3, h4, _, h5⟩ := dd'
 refine d_write I (by rw [e]; exact True.intro) hs ⟨q, hq⟩ ⟨hl, hd, _, (rel.put k eb rv).keeps fun c ys ec => ?_, q, es, ep, hq, h2, h3, h4, h5⟩
 rw [upd_ne (ne_of ec e (fun z => nomatch z))]
 exact ec
def tDisp1 (tk tv : TE) : TE := fun σ H Q => ∀ p, H p = none → tPairs [(tk, tv)] σ (upd H p (.dT [])) fun ps H2 => ∃ (x y : V) (b : Addr) (ks : List Key), ps = [(x, y)] ∧ x = V.ref b ∧ H2 b = some (.tup (ks.map kV)) ∧ H2 p = some (.dT []) ∧ Q (.ref p) (upd H2 p (.dT [(ks, y)]))
theorem pe_disp1 {pos : Pos} {k v : Expr} {tk tv : TE} (hu : X.A.units + 1 < cLine) (hk : PE X k tk) (hv : PE X v tv) : PE X (.Dict [some k] [v] pos) (tDisp1 tk tv) := by
 intro pins s σ H Q I q
 have hn := I.hok.fresh (Nat.le_refl s.heap.objs.size)
 have I1 := I.laid (a := s.heap.objs.size) (o := .dT []) (h' := s.heap.push { cls := .type "dict", data := .dict #[] }) (t' := s.toks) (fun _ _ q => Heap.get?_push_of_some _ q) (Nat.le_refl _) (dt_empty s.heap I.big)
 refine wpAny_Dict_any rfl rfl (by simp) (by simp) (thn (pps_cons hk hv pps_nil pins _ σ _ _ I1 (q _ hn)) fun ws s2 ⟨ps, H2, I2, rel, x, y, b, ks, ep, ex, hb, hp, q2⟩ => ?_)
 subst ep ex
 cases rel with
 | @cons p w' ps ws r t =>
   cases t
   obtain ⟨w1, w2⟩ := w'
   obtain ⟨r1, r2⟩ := r
   cases (show w1 = Value.ref b from r1)
   unfold storeAll
   rw [List.forIn_cons]
   refine wpAny_bind (wpAny_bind (dT_set (by omega) I2 hp hb (by rw [List.length_nil]; decide) r2 fun s3 I3 => wpAny_pure ?_))
   refine wpAny_pure ⟨.ref s.heap.objs.size, _, I3, rfl, ?_⟩
   exact q2
theorem pe_fstr3 {x y n : Str} {i : Int} {u : Value} {k1 k2 : Nat} {p1 p2 p3 p4 pos : Pos} (hg : Gl X n) (hm : X.mg n = some u) (r : RelV (.int i) u) (hi : i.natAbs.log2 < 1920) (hz : x.length ≤ 1000 ∧ y.length ≤ 1000 ∧ (Str.ofString (toString i)).length ≤ 1000)
  (hd : (n == ("__debug__" : Str)) = false := by decide) : PE X (.JoinedStr [.Constant (.str x) k1 p1, .FormattedValue (.Name n p2) (-1) none p3, .Constant (.str y) k2 p4] pos) (fun _ H Q => ∀ z, Q (.str z) H) := by
 intro pins s σ H Q I q
 obtain ⟨t, rfl⟩ := r
 have hl : ∀ a b : Str, (a ++ b).length = a.length + b.length := strLen_append
 have he : Str.empty.length = 0 := rfl
 refine wpAny_JoinedStr ?_
 refine PySem.wpAny_Constant_str ⟨x, _, rfl, by rw [hl, he, sizeLine_eq]; omega, ?_⟩
 refine wpAny_FormattedValue_plain (ld_glob (I.tok _) hg hm (wpAny_formatField_int hi ⟨_, _, rfl, by rw [hl, hl, he, sizeLine_eq]; omega, ?_⟩) hd)
 refine PySem.wpAny_Constant_str ⟨y, _, rfl, by rw [hl, hl, hl, he, sizeLine_eq]; omega, ?_⟩
 refine ⟨by rw [hl, hl, hl, he, sizeLine_eq]; omega, ⟨.str _, H, ?_, ⟨_, rfl⟩, q _⟩⟩
 exact I.tok _
end
section
variable {X : Cx} {K : PySem.W.Frag}
theorem call_list_ofk (e : X.K = K) : CallR X (.type "list") (fun xs H Q => ∃ p ys, xs = [.ref p] ∧ (SqL K H p ys ∨ SqT K H p ys) ∧ ∀ l, H l = none → Q (.ref l) (upd H l (.lst ys))) := by subst e; exact call_list_of
end
end TL
namespace TL
open PySem PySem.Spec PyProof.Rows L2
abbrev Ln := Int × List (Int × Int)
structure TrOk (l : Ln) (ns : List Int) : Prop where
 ends : ∀ e ∈ ns, 0 ≤ e ∧ e < 2 * l.1
 nd : (ns.map (· / 2)).Nodup
 ch : ∀ (i : Nat) x y, ns[i]? = some x → ns[i + 1]? = some y → y ∈ jn l.2 (oth x)
theorem jn_iff {l : Ln} (ok : LineOk l) {e x : Int} : x ∈ jn l.2 e ↔ (min e x, max e x) ∈ l.2 := by
 unfold jn
 rw [srt_mem, List.mem_append]
 constructor
 ·rintro (z | z)
  ·obtain ⟨p, hp, rfl⟩ := List.mem_map.mp z
   obtain ⟨h1, h2⟩ := List.mem_filter.mp hp
   have h2 : p.2 = e := by simpa using h2
   have := ok.ends p h1
   have e1 : (min e p.1, max e p.1) = p := Prod.ext (by show min e p.1 = p.1; omega) (by show max e p.1 = p.2; omega)
   rw [e1]; exact h1
  ·obtain ⟨p, hp, rfl⟩ := List.mem_map.mp z
   obtain ⟨h1, h2⟩ := List.mem_filter.mp hp
   have h2 : p.1 = e := by simpa using h2
   have := ok.ends p h1
   have e1 : (min e p.2, max e p.2) = p := Prod.ext (by show min e p.2 = p.1; omega) (by show max e p.2 = p.2; omega)
   rw [e1]; exact h1
 ·intro h
  by_cases hx : e ≤ x
  ·have e1 : (min e x, max e x) = (e, x) := Prod.ext (by show min e x = e; omega) (by show max e x = x; omega)
   rw [e1] at h
   exact .inr (List.mem_map.mpr ⟨(e, x), List.mem_filter.mpr ⟨h, by simp⟩, rfl⟩)
  ·have e1 : (min e x, max e x) = (x, e) := Prod.ext (by show min e x = x; omega) (by show max e x = e; omega)
   rw [e1] at h
   exact .inl (List.mem_map.mpr ⟨(x, e), List.mem_filter.mpr ⟨h, by simp⟩, rfl⟩)
theorem jn_symm {l : Ln} (ok : LineOk l) {e x : Int} (h : x ∈ jn l.2 e) : e ∈ jn l.2 x := by
 rw [jn_iff ok] at h ⊢
 rw [show min x e = min e x by omega, show max x e = max e x by omega]; exact h
theorem jn_end {l : Ln} (ok : LineOk l) {e x : Int} (h : x ∈ jn l.2 e) : 0 ≤ x ∧ x < 2 * l.1 := by
 have := ok.ends _ ((jn_iff ok).mp h)
 dsimp only at this
 omega
theorem fr_mem {l : Ln} {ns : List Int} {e x : Int} (h : x ∈ fr l ns e) : x ∈ jn l.2 e ∧ x / 2 ∉ ns.map (· / 2) := by
 obtain ⟨h1, h2⟩ := List.mem_filter.mp h
 exact ⟨h1, by simpa using h2⟩
theorem TrOk.on {l : Ln} {ns : List Int} {e : Int} (ok : LineOk l) (T : TrOk l ns) (hne : ns ≠ []) (he : e ∈ fr l ns (oth (ns.getLastD 0))) : TrOk l (ns.drop 1 ++ [e]) := by
 obtain ⟨h1, h2⟩ := fr_mem he
 have hl : 1 ≤ ns.length := by cases ns with | nil => exact absurd rfl hne | cons x r => simp
 refine ⟨fun x hx => ?_, ?_, fun i x y hx hy => ?_⟩
 ·rcases List.mem_append.mp hx with z | z
  ·exact T.ends x (List.mem_of_mem_drop z)
  ·have z : x = e := by simpa using z
   rw [z]; exact jn_end ok h1
 ·rw [List.map_append, List.nodup_append]
  refine ⟨by rw [List.map_drop]; exact T.nd.sublist (List.drop_sublist _ _), by simp, fun a ha b hb z => ?_⟩
  have hb : b = e / 2 := by simpa using hb
  rw [List.map_drop] at ha
  exact h2 (by rw [← hb, ← z]; exact List.mem_of_mem_drop ha)
 ·have ld : (ns.drop 1).length = ns.length - 1 := List.length_drop
  by_cases hi : i + 1 < (ns.drop 1).length
  ·rw [List.getElem?_append_left hi, List.getElem?_drop] at hy
   rw [List.getElem?_append_left (by omega), List.getElem?_drop] at hx
   exact T.ch (1 + i) x y hx (by rw [← hy]; congr 1)
  ·have hlt := (List.getElem?_eq_some_iff.mp hy).1
   rw [List.length_append, List.length_singleton] at hlt
   have e1 : i + 1 = (ns.drop 1).length := by omega
   rw [e1, List.getElem?_append_right (Nat.le_refl _), Nat.sub_self] at hy
   cases hy
   rw [List.getElem?_append_left (by omega), List.getElem?_drop] at hx
   have e2 : ns.getLastD 0 = x := by
    rw [List.getLastD_eq_getLast?, List.getLast?_eq_getElem?, show ns.length - 1 = 1 + i by omega, hx]; rfl
   rw [e2] at h1
   exact h1
theorem TrOk.back {l : Ln} {ns : List Int} {e : Int} (ok : LineOk l) (T : TrOk l ns) (hne : ns ≠ []) (he : e ∈ fr l ns (ns.headD 0)) : TrOk l (oth e :: ns.dropLast) := by
 obtain ⟨h1, h2⟩ := fr_mem he
 have hl : 1 ≤ ns.length := by cases ns with | nil => exact absurd rfl hne | cons x r => simp
 refine ⟨fun x hx => ?_, ?_, fun i x y hx hy => ?_⟩
 ·rcases List.mem_cons.mp hx with z | z
  ·rw [z]
   have := jn_end ok h1
   unfold oth
   omega
  ·exact T.ends x ((List.dropLast_sublist ns).subset z)
 ·rw [List.map_cons, List.nodup_cons]
  refine ⟨fun z => h2 ?_, ?_⟩
  ·rw [oth_half] at z
   have := (List.dropLast_sublist ns).map (· / 2)
   exact this.subset z
  ·exact T.nd.sublist ((List.dropLast_sublist ns).map _)
 ·cases i with
  | zero =>
   cases hx
   have hy : ns.dropLast[0]? = some y := hy
   rw [oth_oth]
   have hy2 : ns[0]? = some y := by
    have := (List.getElem?_eq_some_iff.mp hy).1
    rw [List.getElem?_dropLast] at hy
    split at hy
    ·exact hy
    ·cases hy
   have e2 : ns.headD 0 = y := by cases ns with | nil => cases hy2 | cons a r => cases hy2; rfl
   rw [e2] at h1
   exact jn_symm ok h1
  | succ j =>
   have hx : ns.dropLast[j]? = some x := hx
   have hy : ns.dropLast[j + 1]? = some y := hy
   rw [List.getElem?_dropLast] at hx hy
   split at hx
   ·split at hy
    ·exact T.ch j x y hx hy
    ·cases hy
   ·cases hx
theorem mvs_ok {l : Ln} {ns : List Int} {m : Mv} (ok : LineOk l) (T : TrOk l ns) (hne : ns ≠ []) (hm : m ∈ mvs l ns) : TrOk l m.2 ∧ m.2.length = ns.length ∧ m.2 ≠ [] := by
 have hl : 1 ≤ ns.length := by cases ns with | nil => exact absurd rfl hne | cons x r => simp
 rcases List.mem_append.mp hm with z | z
 ·obtain ⟨e, he, rfl⟩ := List.mem_map.mp z
  refine ⟨T.on ok hne he, ?_, fun e => ?_⟩
  ·simp only [onM, List.length_append, List.length_drop, List.length_cons, List.length_nil]; omega
  ·simp [onM] at e
 ·obtain ⟨e, he, rfl⟩ := List.mem_map.mp z
  refine ⟨T.back ok hne he, ?_, fun e => ?_⟩
  ·simp only [backM, List.length_cons, List.length_dropLast]; omega
  ·simp [backM] at e
theorem len_subset {α : Type} [DecidableEq α] : ∀ {l1 l2 : List α}, l1.Nodup → (∀ x ∈ l1, x ∈ l2) → l1.length ≤ l2.length
 | [], _, _, _ => Nat.zero_le _
 | x :: r, l2, nd, h => by
  rw [List.nodup_cons] at nd
  have hx := h x List.mem_cons_self
  have := len_subset (l1 := r) (l2 := l2.erase x) nd.2 fun y hy => by
   have : y ≠ x := fun z => nd.1 (by rw [← z]; exact hy)
   exact (List.mem_erase_of_ne this).mpr (h y (List.mem_cons_of_mem _ hy))
  rw [List.length_erase_of_mem hx] at this
  have h1 : 1 ≤ l2.length := by cases l2 with | nil => cases hx | cons a b => simp
  rw [List.length_cons]
  omega
def arcs (l : Ln) : List (Int × Int) := l.2.map (fun p => (oth p.1, p.2)) ++ l.2.map fun p => (oth p.2, p.1)
def endsOf (l : Ln) : List Int := (List.range (2 * l.1).toNat).map fun i : Nat => (i : Int)
def cand (l : Ln) : Nat → List (List Int)
 | 0 => [[]]
 | 1 => (endsOf l).map fun e => [e]
 | n + 2 => (arcs l).flatMap fun p => (cand l n).map fun r => p.1 :: p.2 :: r
theorem arc_mem {l : Ln} (ok : LineOk l) {x y : Int} (h : y ∈ jn l.2 (oth x)) : (x, y) ∈ arcs l := by
 have h := (jn_iff ok).mp h
 unfold arcs
 rw [List.mem_append]
 by_cases hc : oth x ≤ y
 ·rw [show min (oth x) y = oth x by omega, show max (oth x) y = y by omega] at h
  exact .inl (List.mem_map.mpr ⟨_, h, by rw [oth_oth]⟩)
 ·rw [show min (oth x) y = y by omega, show max (oth x) y = oth x by omega] at h
  exact .inr (List.mem_map.mpr ⟨_, h, by rw [oth_oth]⟩)
theorem cand_mem {l : Ln} (ok : LineOk l) : ∀ (n : Nat) (ns : List Int), ns.length = n → (∀ e ∈ ns, 0 ≤ e ∧ e < 2 * l.1) → (∀ (i : Nat) x y, ns[i]? = some x → ns[i + 1]? = some y → y ∈ jn l.2 (oth x)) → ns ∈ cand l n
 | 0, ns, hl, _, _ => by rw [List.eq_nil_of_length_eq_zero hl]; exact List.mem_cons_self
 | 1, [e], _, he, _ => by
  have := he e List.mem_cons_self
  refine List.mem_map.mpr ⟨e, List.mem_map.mpr ⟨e.toNat, by rw [List.mem_range]; omega, by omega⟩, rfl⟩
 | n + 2, x :: y :: r, hl, he, hc => by
  refine List.mem_flatMap.mpr ⟨(x, y), arc_mem ok (hc 0 x y rfl rfl), List.mem_map.mpr ⟨r, cand_mem ok n r (by simpa using hl) (fun e h => he e (List.mem_cons_of_mem _ (List.mem_cons_of_mem _ h))) (fun i a b ha hb => hc (i + 2) a b ha hb), rfl⟩⟩
theorem cand_len {l : Ln} (ok : LineOk l) : ∀ n, (cand l n).length ≤ 160 ^ ((n + 1) / 2)
 | 0 => by simp [cand]
 | 1 => by
  simp only [cand, endsOf, List.length_map, List.length_range]
  have := ok.most
  omega
 | n + 2 => by
  have ih := cand_len ok n
  simp only [cand]
  rw [List.length_flatMap]
  have e1 : (arcs l).map (fun a => ((cand l n).map fun r => a.1 :: a.2 :: r).length) = (arcs l).map fun _ => (cand l n).length := by
   refine List.map_congr_left fun a _ => by rw [List.length_map]
  rw [e1, List.map_const', List.sum_replicate_nat]
  have h1 : (arcs l).length ≤ 160 := by
   unfold arcs
   rw [List.length_append, List.length_map, List.length_map]
   have := ok.len
   omega
  have e2 : (n + 2 + 1) / 2 = (n + 1) / 2 + 1 := by omega
  rw [e2, Nat.pow_succ, Nat.mul_comm (160 ^ _)]
  exact Nat.mul_le_mul h1 ih
theorem trains_len {l : Ln} (ok : LineOk l) {n : Nat} (hn : n ≤ 6) {ts : List (List Int)} (nd : ts.Nodup) (h : ∀ t ∈ ts, TrOk l t ∧ t.length = n) : ts.length ≤ 4096000 := by
 have h1 := len_subset nd (l2 := cand l n) fun t ht => cand_mem ok n t (h t ht).2 (h t ht).1.ends (h t ht).1.ch
 have h2 := cand_len ok n
 have h3 : 160 ^ ((n + 1) / 2) ≤ 160 ^ 3 := Nat.pow_le_pow_right (by decide) (by omega)
 have h4 : 160 ^ 3 = 4096000 := by decide
 omega
end TL
namespace TL
open PySem PySem.Spec PyProof.Rows L2
abbrev Ent := List Int × Option (List Int × (Str × Int))
def add1 (t : List Int) (o : List Ent) (m : Mv) : List Ent := if m.2 ∈ o.map (·.1) then o else o ++ [(m.2, some (t, m.1))]
def scanS (t : List Int) (ms : List Mv) (o : List Ent) : List Ent := ms.foldl (add1 t) o
def webS (l : Ln) (ns : List Int) : Nat → List Ent
 | 0 => [(ns, none)]
 | i + 1 => match (webS l ns i)[i]? with
  | some e => scanS e.1 (mvs l e.1) (webS l ns i)
  | none => webS l ns i
theorem add1_pre (t : List Int) (o : List Ent) (m : Mv) : o <+: add1 t o m := by
 unfold add1
 split
 ·exact List.prefix_rfl
 ·exact List.prefix_append _ _
theorem scanS_pre (t : List Int) (ms : List Mv) : ∀ o, o <+: scanS t ms o := by
 induction ms with
 | nil => exact fun o => List.prefix_rfl
 | cons m r ih => exact fun o => (add1_pre t o m).trans (ih _)
theorem scanS_take {t : List Int} {ms : List Mv} {o : List Ent} {j : Nat} {m : Mv} (h : ms[j]? = some m) : scanS t (ms.take (j + 1)) o = add1 t (scanS t (ms.take j) o) m := by
 unfold scanS
 rw [List.take_add_one, h, List.foldl_append]; rfl
theorem scanS_take_pre {t : List Int} (ms : List Mv) (o : List Ent) (j : Nat) : scanS t (ms.take j) o <+: scanS t ms o := by
 have : scanS t ms o = scanS t (ms.drop j) (scanS t (ms.take j) o) := by
  unfold scanS
  rw [← List.foldl_append, List.take_append_drop]
 rw [this]
 exact scanS_pre _ _ _
theorem webS_next {l : Ln} {ns : List Int} {i : Nat} {e : Ent} (h : (webS l ns i)[i]? = some e) : webS l ns (i + 1) = scanS e.1 (mvs l e.1) (webS l ns i) := by
 rw [webS, h]
theorem webS_pre1 (l : Ln) (ns : List Int) (i : Nat) : webS l ns i <+: webS l ns (i + 1) := by
 rw [webS]
 split
 ·exact scanS_pre _ _ _
 ·exact List.prefix_rfl
theorem webS_pre (l : Ln) (ns : List Int) (i : Nat) : ∀ k, webS l ns i <+: webS l ns (i + k)
 | 0 => List.prefix_rfl
 | k + 1 => (webS_pre l ns i k).trans (webS_pre1 l ns (i + k))
theorem webS_stop {l : Ln} {ns : List Int} {i : Nat} (h : (webS l ns i).length ≤ i) : ∀ k, webS l ns (i + k) = webS l ns i
 | 0 => rfl
 | k + 1 => by
  have ih := webS_stop h k
  have : (webS l ns (i + k))[i + k]? = none := List.getElem?_eq_none (by rw [ih]; omega)
  show webS l ns (i + k + 1) = _
  rw [webS, this]
  exact ih
structure EntOk (l : Ln) (ns : List Int) (es : List Ent) : Prop where
 tr : ∀ e ∈ es, TrOk l e.1 ∧ e.1.length = ns.length ∧ e.1 ≠ []
 nd : (es.map (·.1)).Nodup
 ne : es ≠ []
theorem EntOk.add {l : Ln} {ns t : List Int} {es : List Ent} {m : Mv} (ok : LineOk l) (h : EntOk l ns es) (hm : m ∈ mvs l t) (ht : TrOk l t ∧ t.length = ns.length ∧ t ≠ []) : EntOk l ns (add1 t es m) := by
 unfold add1
 split
 ·exact h
 ·rename_i hn
  obtain ⟨h1, h2, h3⟩ := mvs_ok ok ht.1 ht.2.2 hm
  refine ⟨fun e he => ?_, ?_, by simp⟩
  ·rcases List.mem_append.mp he with z | z
   ·exact h.tr e z
   ·have z : e = (m.2, some (t, m.1)) := by simpa using z
    rw [z]; exact ⟨h1, by show m.2.length = ns.length; omega, h3⟩
  ·rw [List.map_append, List.nodup_append]
   refine ⟨h.nd, by simp, fun a ha b hb z => ?_⟩
   have hb : b = m.2 := by simpa using hb
   exact hn (by rw [← hb, ← z]; exact ha)
theorem EntOk.scan {l : Ln} {ns t : List Int} (ok : LineOk l) (ht : TrOk l t ∧ t.length = ns.length ∧ t ≠ []) : ∀ {ms : List Mv} {es : List Ent}, (∀ m ∈ ms, m ∈ mvs l t) → EntOk l ns es → EntOk l ns (scanS t ms es)
 | [], _, _, h => h
 | m :: r, es, hm, h => EntOk.scan (ms := r) ok ht (fun x hx => hm x (List.mem_cons_of_mem _ hx)) (h.add ok (hm m List.mem_cons_self) ht)
theorem webS_ok {l : Ln} {ns : List Int} (ok : LineOk l) (T : TrOk l ns) (hne : ns ≠ []) : ∀ i, EntOk l ns (webS l ns i)
 | 0 => ⟨fun e he => by have z : e = (ns, none) := (by simpa [webS] using he); rw [z]; exact ⟨T, rfl, hne⟩, by simp [webS], by simp [webS]⟩
 | i + 1 => by
  have ih := webS_ok ok T hne i
  rw [webS]
  split
  ·rename_i e he
   exact EntOk.scan ok (ih.tr e (List.mem_of_getElem? he)) (fun m hm => hm) ih
  ·exact ih
theorem EntOk.len {l : Ln} {ns : List Int} {es : List Ent} (ok : LineOk l) (h : EntOk l ns es) (hn : ns.length ≤ 6) : es.length ≤ 4096000 := by
 have := trains_len ok hn h.nd fun t ht => by
  obtain ⟨e, he, rfl⟩ := List.mem_map.mp ht
  exact ⟨(h.tr e he).1, (h.tr e he).2.1⟩
 rw [List.length_map] at this
 exact this
theorem EntOk.len1 {l : Ln} {ns : List Int} {es : List Ent} (h : EntOk l ns es) (hn : ns.length = 1) : es.length ≤ (2 * l.1).toNat := by
 have := len_subset h.nd (l2 := (endsOf l).map fun e => [e]) fun t ht => by
  obtain ⟨e, he, rfl⟩ := List.mem_map.mp ht
  obtain ⟨h1, h2, _⟩ := h.tr e he
  rw [hn] at h2
  match hq : e.1, h2 with
  | [x], _ =>
   have := h1.ends x (by rw [hq]; exact List.mem_cons_self)
   exact List.mem_map.mpr ⟨x, List.mem_map.mpr ⟨x.toNat, by rw [List.mem_range]; omega, by omega⟩, rfl⟩
 rw [List.length_map, List.length_map] at this
 unfold endsOf at this
 rw [List.length_map, List.length_range] at this
 exact this
end TL
namespace TL
open PySem PySem.Spec PyProof.Rows L2
def okJ (m : Int) (p : Int × Int) : Prop := (0 ≤ p.1 ∧ p.1 < 2 * m) ∧ (0 ≤ p.2 ∧ p.2 < 2 * m) ∧ p.1 ≤ p.2 ∧ p.1 / 2 ≠ p.2 / 2
structure GLine (l : Ln) : Prop where
 one : 1 ≤ l.1
 most : l.1 ≤ 14
 len : l.2.length ≤ 24
 ok : ∀ p ∈ l.2, okJ l.1 p
 nd : l.2.Nodup
theorem GLine.lineOk {l : Ln} (G : GLine l) : LineOk l := by
 have h1 := G.len
 refine ⟨G.one, by have := G.most; omega, by omega, fun e => ?_, fun p hp => ?_⟩
 ·have := inc_le l.2 e; omega
 ·obtain ⟨a, b, c, _⟩ := G.ok p hp
  exact ⟨a.1, c, b.2⟩
structure Ren (m : Int) (nm es : List Int) : Prop where
 len : (nm.length : Int) = m
 nb : ∀ x ∈ nm, 0 ≤ x ∧ x < m
 nd : nm.Nodup
 elen : es.length = 2 * nm.length
 at_ : ∀ j, j < nm.length → ∃ f : Int, (f = 0 ∨ f = 1) ∧ es[2 * j]? = some (2 * nm.getD j 0 + f) ∧ es[2 * j + 1]? = some (2 * nm.getD j 0 + 1 - f)
def rho (es : List Int) (e : Int) : Int := es.getD e.toNat 0
def rj (es : List Int) (p : Int × Int) : Int × Int := (min (rho es p.1) (rho es p.2), max (rho es p.1) (rho es p.2))
theorem Ren.rho {m : Int} {nm es : List Int} (R : Ren m nm es) {e : Int} (h0 : 0 ≤ e) (h1 : e < 2 * m) :
  ∃ f : Int, (f = 0 ∨ f = 1) ∧ TL.rho es e = 2 * nm.getD (e / 2).toNat 0 + (if e % 2 = 0 then f else 1 - f) ∧
   ∀ e', 0 ≤ e' → e' / 2 = e / 2 → TL.rho es e' = 2 * nm.getD (e / 2).toNat 0 + (if e' % 2 = 0 then f else 1 - f) := by
 have hl := R.len
 obtain ⟨f, hf, e1, e2⟩ := R.at_ (e / 2).toNat (by omega)
 have key : ∀ e', 0 ≤ e' → e' / 2 = e / 2 → TL.rho es e' = 2 * nm.getD (e / 2).toNat 0 + (if e' % 2 = 0 then f else 1 - f) := fun e' h2 h3 => by
  unfold TL.rho
  by_cases c : e' % 2 = 0
  ·rw [if_pos c, List.getD_eq_getElem?_getD, show e'.toNat = 2 * (e / 2).toNat by omega, e1]; rfl
  ·rw [if_neg c, List.getD_eq_getElem?_getD, show e'.toNat = 2 * (e / 2).toNat + 1 by omega, e2]
   show 2 * nm.getD (e / 2).toNat 0 + 1 - f = _
   omega
 exact ⟨f, hf, key e h0 rfl, key⟩
theorem Ren.piece {m : Int} {nm es : List Int} (R : Ren m nm es) {e : Int} (h0 : 0 ≤ e) (h1 : e < 2 * m) : TL.rho es e / 2 = nm.getD (e / 2).toNat 0 := by
 obtain ⟨f, hf, e1, _⟩ := R.rho h0 h1
 rw [e1]
 split <;> omega
theorem Ren.nm_in {m : Int} {nm es : List Int} (R : Ren m nm es) {p : Int} (h0 : 0 ≤ p) (h1 : p < m) : 0 ≤ nm.getD p.toNat 0 ∧ nm.getD p.toNat 0 < m := by
 have hl := R.len
 have h2 : p.toNat < nm.length := by omega
 have : nm.getD p.toNat 0 = nm[p.toNat] := by rw [List.getD_eq_getElem?_getD, List.getElem?_eq_getElem h2]; rfl
 rw [this]
 exact R.nb _ (List.getElem_mem h2)
theorem Ren.nm_inj {m : Int} {nm es : List Int} (R : Ren m nm es) {p q : Int} (h0 : 0 ≤ p) (h1 : p < m) (g0 : 0 ≤ q) (g1 : q < m) (e : nm.getD p.toNat 0 = nm.getD q.toNat 0) : p = q := by
 have hl := R.len
 have h2 : p.toNat < nm.length := by omega
 have h3 : q.toNat < nm.length := by omega
 have e1 : nm.getD p.toNat 0 = nm[p.toNat] := by rw [List.getD_eq_getElem?_getD, List.getElem?_eq_getElem h2]; rfl
 have e2 : nm.getD q.toNat 0 = nm[q.toNat] := by rw [List.getD_eq_getElem?_getD, List.getElem?_eq_getElem h3]; rfl
 rw [e1, e2] at e
 have := (List.getElem_inj R.nd).mp e
 omega
theorem Ren.rho_in {m : Int} {nm es : List Int} (R : Ren m nm es) {e : Int} (h0 : 0 ≤ e) (h1 : e < 2 * m) : 0 ≤ TL.rho es e ∧ TL.rho es e < 2 * m := by
 obtain ⟨f, hf, e1, _⟩ := R.rho h0 h1
 have := R.nm_in (p := e / 2) (by omega) (by omega)
 rw [e1]
 split <;> omega
theorem Ren.inj {m : Int} {nm es : List Int} (R : Ren m nm es) {e e' : Int} (h0 : 0 ≤ e) (h1 : e < 2 * m) (g0 : 0 ≤ e') (g1 : e' < 2 * m) (h : TL.rho es e = TL.rho es e') : e = e' := by
 have hp : e / 2 = e' / 2 := by
  have a := R.piece h0 h1
  have b := R.piece g0 g1
  rw [h, b] at a
  exact (R.nm_inj (by omega) (by omega) (by omega) (by omega) a).symm
 obtain ⟨f, hf, e1, e2⟩ := R.rho h0 h1
 rw [e1, e2 e' g0 hp.symm] at h
 by_cases c : e % 2 = 0 <;> by_cases d : e' % 2 = 0
 ·omega
 ·rw [if_pos c, if_neg d] at h; omega
 ·rw [if_neg c, if_pos d] at h; omega
 ·omega
theorem Ren.okJ {m : Int} {nm es : List Int} (R : Ren m nm es) {p : Int × Int} (h : TL.okJ m p) : TL.okJ m (rj es p) := by
 obtain ⟨⟨a0, a1⟩, ⟨b0, b1⟩, le, ne⟩ := h
 have ha := R.rho_in a0 a1
 have hb := R.rho_in b0 b1
 have pa := R.piece a0 a1
 have pb := R.piece b0 b1
 have hne : TL.rho es p.1 / 2 ≠ TL.rho es p.2 / 2 := fun z => by
  rw [pa, pb] at z
  exact ne (R.nm_inj (by omega) (by omega) (by omega) (by omega) z)
 unfold TL.okJ rj
 dsimp only
 generalize TL.rho es p.1 = x at *
 generalize TL.rho es p.2 = y at *
 refine ⟨by omega, by omega, by omega, fun z => ?_⟩
 by_cases c : x ≤ y
 ·rw [Int.min_eq_left c, Int.max_eq_right c] at z; exact hne z
 ·rw [Int.min_eq_right (by omega), Int.max_eq_left (by omega)] at z; exact hne z.symm
theorem okJ.lt {m : Int} {p : Int × Int} (h : okJ m p) : p.1 < p.2 := by
 obtain ⟨_, _, le, ne⟩ := h
 by_cases c : p.1 = p.2
 ·rw [c] at ne; exact absurd rfl ne
 ·omega
theorem Ren.rj_inj {m : Int} {nm es : List Int} (R : Ren m nm es) {p q : Int × Int} (hp : TL.okJ m p) (hq : TL.okJ m q) (e : rj es p = rj es q) : p = q := by
 obtain ⟨⟨a0, a1⟩, ⟨b0, b1⟩, le, ne⟩ := id hp
 obtain ⟨⟨c0, c1⟩, ⟨d0, d1⟩, le', ne'⟩ := id hq
 have l1 := hp.lt
 have l2 := hq.lt
 unfold rj at e
 rw [Prod.mk.injEq] at e
 obtain ⟨e1, e2⟩ := e
 obtain ⟨pa, pb⟩ := p
 obtain ⟨qa, qb⟩ := q
 dsimp only at *
 have hor : (TL.rho es pa = TL.rho es qa ∧ TL.rho es pb = TL.rho es qb) ∨ (TL.rho es pa = TL.rho es qb ∧ TL.rho es pb = TL.rho es qa) := by omega
 rcases hor with ⟨x, y⟩ | ⟨x, y⟩
 ·rw [R.inj a0 a1 c0 c1 x, R.inj b0 b1 d0 d1 y]
 ·have := R.inj a0 a1 d0 d1 x
  have := R.inj b0 b1 c0 c1 y
  omega
theorem Ren.line {m : Int} {nm es : List Int} (R : Ren m nm es) {js js' : List (Int × Int)} (G : GLine (m, js)) (hp : js'.Perm (js.map (rj es))) : GLine (m, js') := by
 refine ⟨G.one, G.most, ?_, fun p h => ?_, ?_⟩
 ·have := hp.length_eq
  rw [List.length_map] at this
  show js'.length ≤ 24
  have := G.len
  dsimp only at this
  omega
 ·obtain ⟨q, hq, rfl⟩ := List.mem_map.mp (hp.mem_iff.mp h)
  exact R.okJ (G.ok q hq)
 ·refine hp.nodup_iff.mpr ?_
  rw [List.Nodup, List.pairwise_map]
  exact List.Pairwise.imp_of_mem (fun {a b} ha hb hab z => hab (R.rj_inj (G.ok a ha) (G.ok b hb) z)) G.nd
def NewG (K : PySem.W.Frag) (H : Hp) (Q : VK) : Prop := ∀ (v : V) (l : Ln) (H' : Hp), Same H H' → Da K H' (dL l) v → GLine l → Q v H'
end TL
namespace TL
theorem gline_push {m : Int} {js : List (Int × Int)} {a b : Int} (G : GLine (m, js)) (ne : a / 2 ≠ b / 2) (a0 : 0 ≤ a) (a1 : a < 2 * m) (b0 : 0 ≤ b) (b1 : b < 2 * m) (hn : (min a b, max a b) ∉ js) (hl : js.length < 24) : GLine (m, js ++ [(min a b, max a b)]) := by
 refine ⟨G.one, G.most, ?_, fun p hp => ?_, ?_⟩
 ·show (js ++ [(min a b, max a b)]).length ≤ 24
  rw [List.length_append]; show js.length + 1 ≤ 24; omega
 ·rcases List.mem_append.mp hp with z | z
  ·exact G.ok p z
  ·have z : p = (min a b, max a b) := by simpa using z
   subst z
   unfold okJ
   dsimp only
   refine ⟨by omega, by omega, by omega, fun z => ?_⟩
   by_cases c : a ≤ b
   ·rw [Int.min_eq_left c, Int.max_eq_right c] at z; exact ne z
   ·rw [Int.min_eq_right (by omega), Int.max_eq_left (by omega)] at z; exact ne z.symm
 ·refine List.nodup_append.mpr ⟨G.nd, by simp, fun x hx y hy => ?_⟩
  have hy : y = (min a b, max a b) := by simpa using hy
  rw [hy]
  exact fun z => hn (z ▸ hx)
end TL
namespace TL
open PySem PySem.Spec PyProof.Rows L2
section
variable {prog : Program} {w : World} {A : Around} {E : Value → Shared → Prop} {s : Shared} {l b : Addr} {items items2 : Array Value} {n n2 : Nat}
end
section
variable {X : Cx}
end
end TL
namespace TL
open PySem PySem.Spec PyProof.Rows L2
abbrev TF := St → Hp → Str → (Str → Hp → Prop) → Prop
section
variable {X : Cx} {e : Expr} {es : List Expr} {te : TE} {tf : TF} {pos : Pos}
end
section
variable {X : Cx}
end
end TL
namespace TL
open PySem PySem.Spec PyProof.Rows L2
section
variable {prog : Program} {w : World} {A : Around} {E : Value → Shared → Prop} {s : Shared}
end
section
variable {X : Cx} {pos : Pos}
end
section
variable {prog : Program} {w : World} {A : Around} {E : Value → Shared → Prop} {s : Shared}
end
section
variable {X : Cx} {pos : Pos}
end
end TL
namespace TL
open PySem PySem.Spec PyProof.Rows L2
section
variable {X : Cx}
end
section
variable {X : Cx} {tg e : Expr} {te : TE}
end
end TL
namespace TS
open PySem
open SetTable
def adv (mask : Nat) (p : Probe) : Probe :=
 if p.more > 0 then { p with j := p.j + 1, more := p.more - 1 } else
 { p with j := (leap mask p.i p.perturb).1, more := runEnd mask (leap mask p.i p.perturb).1 - (leap mask p.i p.perturb).1, i := (leap mask p.i p.perturb).1, perturb := (leap mask p.i p.perturb).2 }
def pAt (mask : Nat) (h : Int) : Nat → Probe
 | 0 => { j := bits h % (mask + 1), more := runEnd mask (bits h % (mask + 1)) - bits h % (mask + 1), i := bits h % (mask + 1), perturb := bits h, dummy := none }
 | n + 1 => adv mask (pAt mask h n)
end TS
namespace TS
open PySem
open SetTable
def ReachAt (mask : Nat) (taken : List Nat) (h : Int) (j : Nat) : Prop := ∃ n, (pAt mask h n).j = j ∧ ∀ m, m < n → (pAt mask h m).j ∈ taken
structure WFT (t : SetTable) (hs : List Int) : Prop where
 pow : ∃ k, 3 ≤ k ∧ t.mask + 1 = 2 ^ k
 small : t.mask ≤ 8191
 dum : t.dummies = #[]
 rise : t.place.toList.Pairwise (· < ·)
 all : ∀ j ∈ t.place.toList, j ≤ t.mask
 len : t.place.size = hs.length
 room : hs.length * 5 < t.mask * 3
 reach : ∀ i (h : i < hs.length) j, t.place[i]? = some j → ReachAt t.mask t.place.toList hs[i] j
end TS
namespace TS
open PySem
open SetTable
end TS
namespace TL
open PySem TS
section
variable {prog : Program} {w : World} {K : Type} [DecidableEq K] {knd : KeyKind prog w K} {A : Around} {E : Value → Shared → Prop} {s : Shared}
def entS (knd : KeyKind prog w K) (x : List K × Addr) : Int × Value := (tupleKeyHash knd x.1, .ref x.2)
def SetH (knd : KeyKind prog w K) (h : Heap) (a : Addr) (xs : List (List K × Addr)) : Prop :=
 ∃ o es ep t, h.get? a = some o ∧ o.ExactSet ∧ o.data = .set es ep t ∧ es.toList = xs.map (entS knd) ∧ (xs.map (·.1)).Nodup ∧ WFT t (xs.map fun x => tupleKeyHash knd x.1)
end
end TL
namespace TL
open PySem TS
section
variable {prog : Program} {w : World} {K : Type} [DecidableEq K] {knd : KeyKind prog w K} {A : Around} {E : Value → Shared → Prop} {s : Shared}
end
end TL
namespace TL
open PySem PySem.Spec PyProof.Rows L2 TS
def SetO (P : Program) (w : World) (a : Addr) (xs : List (List Key × Addr)) : HO := .ext fun h => SetH (mixKind P w) h a xs
abbrev keysOf (xs : List (List Key × Addr)) : List (List Key) := xs.map fun x => x.1
section
variable {X : Cx} {pins : List (Addr × Obj)} {σ : St} {H : Hp} {s : Shared}
end
end TL
namespace TL
open PySem PySem.Spec PyProof.Rows L2 TS
section
variable {prog : Program} {w : World} {A : Around} {R : Result → Shared → Prop} {I : Addr} {fp wr : List Addr} {G : Array GenState → Array GenState → Prop} {n : Nat} {P : Nat → Value → Prop} {St : Nat → Shared → Prop}
end
section
variable {prog : Program} {w : World} {A : Around} {E : Value → Shared → Prop} {s : Shared}
end
section
variable {X : Cx}
end
end TL
namespace TL
open PySem PySem.Spec PyProof.Rows L2 TS
section
variable {X : Cx} {o e : Expr} {es : List Expr} {to : TE} {t : TA} {name : Str} {apos cpos : Pos} {id : String} {r : V → List V → Hp → VK → Prop}
end
end TL
namespace TL
open PySem PySem.Spec PyProof.Rows L2 HT TS
section
variable {prog : Program} {w : World} {A : Around} {E : Value → Shared → Prop} {s : Shared}
end
section
variable {X : Cx} {e : Expr} {te : TE} {pos p2 : Pos}
end
section
variable {X : Cx} {a b c d : Expr} {ta tb tc td : TE} {pos : Pos}
end
end TL
namespace TL
open PySem PySem.Spec PyProof.Rows L2
end TL
namespace TL
open PySem PySem.Spec PyProof.Rows L2
section
variable {X : Cx}
end
end TL
namespace TL
open PySem PySem.Spec PyProof.Rows L2
section
variable {X : Cx}
end
section
variable {X : Cx} {K : PySem.W.Frag} {T : String} {name : Str} {id : String} {r : V → List V → Hp → VK → Prop} {o e : Expr} {es : List Expr} {to : TE} {t : TA} {apos cpos : Pos}
end
section
variable {K : PySem.W.Frag} {l : Addr} {g : TG} {tt : TT} {te : TE} {cap : List (Option Nat)} {σ : St} {Q : VK} {H1 : Hp} {J : It}
end
end TL
namespace TL
open PySem PySem.Spec PyProof.Rows L2
section
variable {X : Cx}
end
end TL
namespace TL
open PySem PySem.Spec PyProof.Rows PySem.W L2
def ev {α : Type} : List α → List α
 | [] => []
 | [x] => [x]
 | x :: _ :: r => x :: ev r
section
variable {X : Cx} {e st lo : Expr} {te ts tl : TE} {pos p2 : Pos}
end
section
variable {X : Cx} {tg : Expr}
end
section
variable {X : Cx}
end
section
variable {X : Cx}
end
end TL
namespace TL
open PySem PySem.Spec PyProof.Rows PySem.W L2
section
variable {X : Cx} {tg : Expr}
end
end TL
namespace TL
open PySem PySem.Spec PyProof.Rows L2 TS
section
variable {prog : Program} {w : World} {A : Around} {R : Result → Shared → Prop} {s : Shared}
end
section
variable {X : Cx} {pins : List (Addr × Obj)} {σ : St} {H1 : Hp} {s2 : Shared} {scope : Scope} {N : List Str} {own : Nat} {cap : List (Option Nat)} {cl : List (Str × Addr)} {fp : List Addr}
 {tg iter elt vlt : Expr} {ifs : List Expr} {pos : Pos} {g : TG} {tt : TT} {te tv : TE} {wi : TI}
end
section
variable {X : Cx} {pins : List (Addr × Obj)} {σ : St} {H1 : Hp} {s2 : Shared} {scope : Scope} {N : List Str} {own : Nat} {cap : List (Option Nat)} {cl : List (Str × Addr)} {fp : List Addr}
 {tg iter elt vlt : Expr} {ifs : List Expr} {pos : Pos} {g : TG} {tt : TT} {te tv : TE} {wi : TI}
end
end TL
namespace L2
open PySem PySem.Spec PySem.Calls PyProof.Rows PySem.W
section
variable {X : Cx} {body suite : List Stmt} {b₀ : Stmt} {x : Str} {np hpos pos : Pos} {D : Addr} {tb : (St → XK) → TS} {th : TS}
end
end L2
namespace TL
open PySem PySem.Spec PyProof.Rows L2
theorem jn_len {l : Int × List (Int × Int)} (h : LineOk l) (e : Int) : (jn l.2 e).length ≤ 60 := by
 unfold jn
 rw [srt_length, List.length_append]
 exact h.inc e
theorem fr_len {l : Int × List (Int × Int)} (h : LineOk l) (ns : List Int) (e : Int) : (fr l ns e).length ≤ 60 := Nat.le_trans (List.length_filter_le _ _) (jn_len h e)
theorem take_map_snoc {α β : Type} (f : α → β) (l : List α) (i : Nat) (x : α) (h : l[i]? = some x) : (l.take (i + 1)).map f = (l.take i).map f ++ [f x] := by
 rw [List.take_add_one, h, List.map_append]; rfl
theorem canLayAll0_mem : ∀ (ds : List PyData), (∀ d ∈ ds, d.canLay0 = true) → PyData.canLayAll0 ds = true
 | [], _ => by simp [PyData.canLayAll0]
 | d :: ds, h => by
  simp only [PyData.canLayAll0, Bool.and_eq_true]
  exact ⟨h d List.mem_cons_self, canLayAll0_mem ds fun x hx => h x (List.mem_cons_of_mem _ hx)⟩
theorem strOk_mvs (l : Int × List (Int × Int)) (ns : List Int) : ∀ m ∈ mvs l ns, PyData.strOk m.1.1 = true := fun m hm => by
 rcases List.mem_append.mp hm with z | z
 ·obtain ⟨e, _, rfl⟩ := List.mem_map.mp z
  show PyData.strOk (Str.ofString "on") = true
  decide +kernel
 ·obtain ⟨e, _, rfl⟩ := List.mem_map.mp z
  show PyData.strOk (Str.ofString "back") = true
  decide +kernel
def dM (k : Str × Int) : PyData := .tuple [.str k.1, .int k.2]
theorem okD_M {k : Str × Int} (h : PyData.strOk k.1 = true) : OkD (dM k) := by
 refine ⟨?_, ?_⟩
 ·simp only [dM, PyData.canLay0, PyData.canLayAll0, h, Bool.and_true]
 ·simp only [dM, PyData.depth, PyData.depthAll]; decide
theorem eqv_M (a b : Str × Int) : PyData.eqv (dM a) (dM b) = decide (a = b) := by
 obtain ⟨a1, a2⟩ := a
 obtain ⟨b1, b2⟩ := b
 simp only [dM, PyData.eqv, PyData.eqvAll, Bool.and_true]
 by_cases h : a1 = b1 <;> by_cases h' : a2 = b2 <;> simp [h, h']
theorem mv_at {K : PySem.W.Frag} {H H1 : Hp} {p : Addr} {ms : List Mv} {vs : List V} {i : Nat} {y : V} (D : Dgs (Lf H H1 p) (SqT K H1) (ms.map dMv) vs) (hy : vs[i]? = some y) :
  ∃ m ad p1 b, ms[i]? = some m ∧ y = .ref ad ∧ SqT K H1 ad [.ref p1, .ref b] ∧ Da K H1 (dM m.1) (.ref p1) ∧ H1 b = some (.lst (m.2.map V.int)) ∧ H b = none ∧ b ≠ p := by
 obtain ⟨d, e1, hd⟩ := Dgs.get D hy
 rw [List.getElem?_map] at e1
 cases q : ms[i]? with
 | none => rw [q] at e1; cases e1
 | some m =>
  rw [q] at e1
  cases e1
  unfold dMv at hd
  obtain ⟨ad, us, rfl, ht, q⟩ := dg_tuple.mp hd
  obtain ⟨v1, r, rfl, h1, q⟩ := dgs_cons.mp q
  obtain ⟨v2, r, rfl, h2, q⟩ := dgs_cons.mp q
  cases dgs_nil.mp q
  have h1' : Da K H1 (dM m.1) v1 := Dg.mono (fun a us h => SqL.of h.1) (fun _ _ h => h) h1
  obtain ⟨p1, _, rfl, _, _⟩ := dg_tuple.mp h1
  unfold dI at h2
  obtain ⟨b, zs, rfl, ⟨l1, l2, l3⟩, hz⟩ := dg_list.mp h2
  rw [dgs_ints.mp hz] at l1
  exact ⟨m, ad, p1, b, rfl, rfl, ht, h1', l1, l2, l3⟩
def fnd (ms : List Mv) (k : Str × Int) : Option (List Int) := (ms.find? fun m => decide (m.1 = k)).map (·.2)
theorem fnd_hit {ms : List Mv} {k : Str × Int} {i : Nat} {m : Mv} (hi : ms[i]? = some m) (e : m.1 = k) (no : ∀ j, j < i → ∀ n, ms[j]? = some n → n.1 ≠ k) : fnd ms k = some m.2 := by
 unfold fnd
 have : ms.find? (fun m => decide (m.1 = k)) = some m := by
  rw [List.find?_eq_some_iff_getElem]
  obtain ⟨hl, hg⟩ := List.getElem?_eq_some_iff.mp hi
  refine ⟨by simpa using e, i, hl, hg, fun j hj => ?_⟩
  have := no j hj _ (List.getElem?_eq_some_iff.mpr ⟨by omega, rfl⟩)
  simpa using this
 rw [this]; rfl
theorem fnd_miss {ms : List Mv} {k : Str × Int} (no : ∀ j, j < ms.length → ∀ n, ms[j]? = some n → n.1 ≠ k) : fnd ms k = none := by
 unfold fnd
 rw [Option.map_eq_none_iff, List.find?_eq_none]
 intro m hm
 obtain ⟨j, hj, e⟩ := List.mem_iff_getElem.mp hm
 have := no j hj m (List.getElem?_eq_some_iff.mpr ⟨hj, e⟩)
 simpa using this
def dLI (xss : List (List Int)) : PyData := .list (xss.map dI)
theorem okD_LI (xss : List (List Int)) : OkD (dLI xss) := by
 refine ⟨?_, ?_⟩
 ·simp only [dLI, PyData.canLay0]
  refine canLayAll0_mem _ fun d hd => ?_
  obtain ⟨m, hm, rfl⟩ := List.mem_map.mp hd
  exact (okD_ints m).1
 ·simp only [dLI, PyData.depth]
  have := depthAll_map (f := dI) (k := 1) (fun m => by
   simp only [dI, PyData.depth]
   have := depthAll_map (f := PyData.int) (k := 0) (fun _ => by simp [PyData.depth]) m
   omega) xss
  omega
def stp (l : Ln) (o : Option (List (List Int))) (k : Str × Int) : Option (List (List Int)) := o.bind fun ts => (fnd (mvs l (ts.getLastD [])) k).map fun b => ts ++ [b]
def wkl (l : Ln) (ns : List Int) (run : List (Str × Int)) : Option (List (List Int)) := run.foldl (stp l) (some [ns])
theorem stp_none (l : Ln) (run : List (Str × Int)) : run.foldl (stp l) none = none := by
 induction run with
 | nil => rfl
 | cons k r ih => exact ih
theorem wkl_take {l : Ln} {ns : List Int} {run : List (Str × Int)} {i : Nat} {k : Str × Int} (h : run[i]? = some k) : wkl l ns (run.take (i + 1)) = stp l (wkl l ns (run.take i)) k := by
 unfold wkl
 rw [List.take_add_one, h, List.foldl_append]
 rfl
theorem wkl_none {l : Ln} {ns : List Int} {run : List (Str × Int)} {i : Nat} (h : wkl l ns (run.take i) = none) : wkl l ns run = none := by
 unfold wkl at h ⊢
 rw [← List.take_append_drop i run, List.foldl_append, h, stp_none]
theorem fnd_len {l : Ln} {ns b : List Int} {k : Str × Int} (hne : ns ≠ []) (h : fnd (mvs l ns) k = some b) : b ≠ [] ∧ b.length = ns.length := by
 unfold fnd at h
 cases q : (mvs l ns).find? (fun m => decide (m.1 = k)) with
 | none => rw [q] at h; cases h
 | some m =>
  rw [q] at h
  cases h
  have hm := List.mem_of_find?_eq_some q
  have hl : 1 ≤ ns.length := by cases ns with | nil => exact absurd rfl hne | cons x r => simp
  have : m.2.length = ns.length := by
   rcases List.mem_append.mp hm with z | z
   ·obtain ⟨e, _, h⟩ := List.mem_map.mp z
    rw [← h]; simp only [onM, List.length_append, List.length_drop, List.length_cons, List.length_nil]; omega
   ·obtain ⟨e, _, h⟩ := List.mem_map.mp z
    rw [← h]; simp only [backM, List.length_cons, List.length_dropLast]; omega
  refine ⟨fun e => ?_, this⟩
  have e : m.2 = [] := e
  rw [e] at this
  simp at this
  omega
structure WkOk (ns : List Int) (i : Nat) (ts : List (List Int)) : Prop where
 len : ts.length = i + 1
 each : ∀ t ∈ ts, t ≠ [] ∧ t.length = ns.length
theorem WkOk.snoc {l : Ln} {ns : List Int} {i : Nat} {ts : List (List Int)} {k : Str × Int} {b : List Int} (w : WkOk ns i ts) (h : fnd (mvs l (ts.getLastD [])) k = some b) : WkOk ns (i + 1) (ts ++ [b]) := by
 have hne : ts ≠ [] := fun e => by have := w.len; rw [e] at this; simp at this
 have hl : ts.getLastD [] ∈ ts := by
  rw [List.getLastD_eq_getLast?, List.getLast?_eq_some_getLast hne]
  exact List.getLast_mem hne
 obtain ⟨h1, h2⟩ := w.each _ hl
 obtain ⟨h3, h4⟩ := fnd_len h1 h
 refine ⟨by rw [List.length_append, w.len]; rfl, fun t ht => ?_⟩
 rcases List.mem_append.mp ht with z | z
 ·exact w.each t z
 ·have z : t = b := by simpa using z
  rw [z]; exact ⟨h3, by omega⟩
def dR (run : List (Str × Int)) : PyData := .list (run.map dM)
theorem das_at {K : PySem.W.Frag} {H : Hp} {run : List (Str × Int)} {vs : List V} {i : Nat} {y : V} (h : Das K H (run.map dM) vs) (e : vs[i]? = some y) : ∃ k, run[i]? = some k ∧ Da K H (dM k) y := by
 obtain ⟨d, e1, hd⟩ := Dgs.get h e
 rw [List.getElem?_map] at e1
 cases q : run[i]? with
 | none => rw [q] at e1; cases e1
 | some k => rw [q] at e1; cases e1; exact ⟨k, rfl, hd⟩
theorem okD_R {run : List (Str × Int)} (h : ∀ k ∈ run, PyData.strOk k.1 = true) : OkD (dR run) := by
 refine ⟨?_, ?_⟩
 ·simp only [dR, PyData.canLay0]
  refine canLayAll0_mem _ fun d hd => ?_
  obtain ⟨m, hm, rfl⟩ := List.mem_map.mp hd
  exact (okD_M (h m hm)).1
 ·simp only [dR, PyData.depth]
  have := depthAll_map (f := dM) (k := 1) (fun m => by simp [dM, PyData.depth, PyData.depthAll]) run
  omega
structure RunAt (K : PySem.W.Frag) (H : Hp) (q : Addr) (run : List (Str × Int)) : Prop where
 ex : ∃ vs, H q = some (.lst vs) ∧ Das K (hid q H) (run.map dM) vs
 ok : ∀ k ∈ run, PyData.strOk k.1 = true
theorem RunAt.same {K : PySem.W.Frag} {H H' : Hp} {q : Addr} {run : List (Str × Int)} (r : RunAt K H q run) (s : Same H H') : RunAt K H' q run := by
 obtain ⟨⟨vs, h1, h2⟩, h3⟩ := r
 exact ⟨⟨vs, s _ _ h1, Das.same (hid_mono s) h2⟩, h3⟩
theorem RunAt.da {K : PySem.W.Frag} {H : Hp} {q : Addr} {run : List (Str × Int)} (r : RunAt K H q run) : Da K H (dR run) (.ref q) := by
 obtain ⟨⟨vs, h1, h2⟩, h3⟩ := r
 exact dg_list.mpr ⟨q, vs, rfl, SqL.of h1, Das.same hid_same h2⟩
abbrev Ma := Mv × Addr × Addr
theorem mvs_train {l : Ln} {ns : List Int} (hne : ns ≠ []) {m : Mv} (hm : m ∈ mvs l ns) : m.2 ≠ [] ∧ m.2.length = ns.length := by
 have hl : 1 ≤ ns.length := by cases ns with | nil => exact absurd rfl hne | cons x r => simp
 have : m.2.length = ns.length := by
  rcases List.mem_append.mp hm with z | z
  ·obtain ⟨e, _, h⟩ := List.mem_map.mp z
   rw [← h]; simp only [onM, List.length_append, List.length_drop, List.length_cons, List.length_nil]; omega
  ·obtain ⟨e, _, h⟩ := List.mem_map.mp z
   rw [← h]; simp only [backM, List.length_cons, List.length_dropLast]; omega
 refine ⟨fun e => ?_, this⟩
 rw [e] at this
 simp at this
 omega
theorem refs_da {K : PySem.W.Frag} {H : Hp} : ∀ {as : List Addr} {ts : List (List Int)}, as.length = ts.length → (∀ (i : Nat) b t, as[i]? = some b → ts[i]? = some t → H b = some (.lst (t.map V.int))) → Das K H (ts.map dI) (as.map V.ref)
 | [], [], _, _ => dgs_nil.mpr rfl
 | a :: as, t :: ts, hl, h => dgs_cons.mpr ⟨_, _, rfl, da_new (h 0 a t rfl rfl), refs_da (by simpa using hl) fun i b t' h1 h2 => h (i + 1) b t' h1 h2⟩
theorem TrOk.snoc {l : Int × List (Int × Int)} {ns : List Int} {x : Int} (ok : LineOk l) (T : TrOk l ns) (hne : ns ≠ []) (hx : x ∈ fr l ns (oth (ns.getLastD 0))) : TrOk l (ns ++ [x]) := by
 obtain ⟨h1, h2⟩ := List.mem_filter.mp hx
 have h2 : ¬ x / 2 ∈ ns.map (· / 2) := by simpa using h2
 refine ⟨fun e he => ?_, ?_, fun i a b ha hb => ?_⟩
 ·rcases List.mem_append.mp he with z | z
  ·exact T.ends e z
  ·have z : e = x := by simpa using z
   rw [z]; exact jn_end ok h1
 ·rw [List.map_append, List.nodup_append]
  refine ⟨T.nd, by simp, fun a ha b hb => ?_⟩
  have hb : b = x / 2 := by simpa using hb
  intro z
  exact h2 (by rw [← hb, ← z]; exact ha)
 ·by_cases hi : i + 1 < ns.length
  ·rw [List.getElem?_append_left hi] at hb
   rw [List.getElem?_append_left (by omega)] at ha
   exact T.ch i a b ha hb
  ·have hlt : i + 1 < (ns ++ [x]).length := (List.getElem?_eq_some_iff.mp hb).1
   rw [List.length_append, List.length_singleton] at hlt
   have e1 : i + 1 = ns.length := by omega
   rw [e1, List.getElem?_append_right (Nat.le_refl _), Nat.sub_self] at hb
   cases hb
   rw [List.getElem?_append_left (by omega)] at ha
   have e2 : ns.getLastD 0 = a := by
    rw [List.getLastD_eq_getLast?, List.getLast?_eq_getElem?]
    have : ns.length - 1 = i := by omega
    rw [this, ha]; rfl
   rw [e2] at h1
   exact h1
theorem da_M {K : PySem.W.Frag} {H : Hp} {k : Str × Int} {v : V} (h : Da K H (dM k) v) : ∃ a, v = .ref a ∧ SqT K H a [.str k.1, .int k.2] := by
 unfold dM at h
 obtain ⟨a, vs, rfl, ht, q⟩ := dg_tuple.mp h
 obtain ⟨v1, r, rfl, h1, q⟩ := dgs_cons.mp q
 obtain ⟨v2, r, rfl, h2, q⟩ := dgs_cons.mp q
 cases dgs_nil.mp q
 cases dg_str.mp h1
 cases dg_int.mp h2
 exact ⟨a, rfl, ht⟩
theorem da_M' {K : PySem.W.Frag} {H : Hp} {k : Str × Int} {a : Addr} (h : SqT K H a [.str k.1, .int k.2]) : Da K H (dM k) (.ref a) := dg_tuple.mpr ⟨a, _, rfl, h, Dgs.two (dg_str.mpr rfl) (dg_int.mpr rfl)⟩
abbrev msOf (cs : List Ma) : List Mv := cs.map (·.1)
end TL
namespace TL
open PySem TS
section
variable {prog : Program} {w : World} {A : Around} {E : Value → Shared → Prop} {s : Shared}
end
end TL
namespace TL
open PySem TS PyProof.Rows PySem.W
section
variable {prog : Program} {w : World} {A : Around} {E : Value → Shared → Prop} {s : Shared} {it a : Addr} {o : Obj} {es : Array (Int × Value)} {ep : Nat} {t : SetTable} {hs : List Int} {i j : Nat}
end
section
variable {prog : Program} {w : World} {A : Around} {E : Value → Shared → Prop} {s : Shared} {a : Addr} {ep : Nat} {xs : List (Int × Tok)}
end
end TL
namespace TL
open PySem PySem.Spec PyProof.Rows L2 TS
section
variable {X : Cx} {pins : List (Addr × Obj)} {σ : St} {H : Hp} {s : Shared}
end
section
variable {X : Cx} {o e : Expr} {es : List Expr} {to : TE} {t : TA} {name : Str} {apos cpos : Pos} {id : String} {r : V → List V → Hp → VK → Prop}
end
end TL
namespace L2
open PySem PySem.Spec PyProof.Rows
section
variable {P : Program} {w : World} {K : PySem.W.Frag} {mg : Str → Option Value} {base : Heap}
end
end L2
namespace TL
open PySem PySem.Spec PyProof.Rows L2 TS
section
variable {X : Cx}
end
end TL
namespace TL
open PySem PySem.Spec PyProof.Rows L2 TS
end TL
namespace TL
open PySem L2 PyProof.Rows
def pf (ps : List Int) (x : Int) : Int := ps.getD x.toNat 0
end TL
namespace TL
open PySem PySem.Spec PyProof.Rows L2 TS
def kyI (t : List Int) : List Key := t.map Sum.inl
theorem kyI_kV (t : List Int) : (kyI t).map kV = t.map V.int := by
 unfold kyI; rw [List.map_map]; rfl
theorem kyI_inj {a b : List Int} (h : kyI a = kyI b) : a = b := by
 unfold kyI at h
 induction a generalizing b with
 | nil => cases b with | nil => rfl | cons y r => cases h
 | cons x r ih =>
  cases b with
  | nil => cases h
  | cons y s =>
   rw [List.map_cons, List.map_cons, List.cons.injEq] at h
   rw [Sum.inl.inj h.1, ih h.2]
abbrev Rows := List (List Int × Int)
def dRow (r : List Int × Int) : PyData := .tuple [dI r.1, .int r.2]
def dRows (rows : Rows) : PyData := .list (rows.map dRow)
def stOk (l : Ln) (tr s : List Int) : Prop := s.length = tr.length ∧ s ≠ [] ∧ TrOk l s
def areSt (l : Ln) (tr : List Int) (ss : List (List Int)) : Prop := ss.Nodup ∧ ∀ s ∈ ss, stOk l tr s
def lookR (rows : Rows) (s : List Int) : Option Int := (rows.find? fun r => decide (r.1 = s)).map (·.2)
def rowOk (l : Ln) (rows : Rows) (r : List Int × Int) : Prop := ∀ m ∈ mvs l r.1, ∃ n, lookR rows m.2 = some n ∧ n ≤ r.2 + 1
def areN (l : Ln) (tr : List Int) (rows : Rows) : Prop := areSt l tr (rows.map (·.1)) ∧ lookR rows tr = some 0 ∧ ∀ r ∈ rows, rowOk l rows r
def kvR (rows : Rows) : List (List Key × V) := rows.map fun r => (kyI r.1, V.int r.2)
theorem kvR_val (rows : Rows) (s : List Int) : valV (kvR rows) (kyI s) = (lookR rows s).map V.int := by
 unfold valV lookR kvR
 rw [List.find?_map, Option.map_map, Option.map_map]
 have : ((fun kv : List Key × V => decide (kv.1 = kyI s)) ∘ fun r : List Int × Int => (kyI r.1, V.int r.2)) = fun r => decide (r.1 = s) := by
  funext r
  show decide (kyI r.1 = kyI s) = decide (r.1 = s)
  by_cases h : r.1 = s
  ·rw [decide_eq_true h, decide_eq_true (by rw [h])]
  ·rw [decide_eq_false h, decide_eq_false fun z => h (kyI_inj z)]
 rw [this]
 rfl
theorem lookR_mem {rows : Rows} (nd : (rows.map (·.1)).Nodup) {r : List Int × Int} (h : r ∈ rows) : lookR rows r.1 = some r.2 := by
 unfold lookR
 induction rows with
 | nil => cases h
 | cons q qs ih =>
  rw [List.map_cons, List.nodup_cons] at nd
  by_cases e : q.1 = r.1
  ·rw [List.find?_cons_of_pos (by simpa using e)]
   rcases List.mem_cons.mp h with z | z
   ·rw [z]; rfl
   ·exact absurd (List.mem_map.mpr ⟨r, z, e.symm⟩) nd.1
  ·rw [List.find?_cons_of_neg (by simpa using e)]
   rcases List.mem_cons.mp h with z | z
   ·exact absurd (by rw [z]) e
   ·exact ih nd.2 z
theorem lookR_some {rows : Rows} {s : List Int} {n : Int} (h : lookR rows s = some n) : (s, n) ∈ rows := by
 unfold lookR at h
 cases q : rows.find? fun r => decide (r.1 = s) with
 | none => rw [q] at h; cases h
 | some r =>
  rw [q] at h
  have h1 := List.mem_of_find?_eq_some q
  have h2 : r.1 = s := by simpa using List.find?_some q
  have h3 : r.2 = n := by simpa using h
  rw [← h2, ← h3]; exact h1
theorem lookR_none {rows : Rows} {s : List Int} (h : lookR rows s = none) : s ∉ rows.map (·.1) := fun z => by
 obtain ⟨r, hr, e⟩ := List.mem_map.mp z
 unfold lookR at h
 rw [Option.map_eq_none_iff, List.find?_eq_none] at h
 exact h r hr (by simpa using e)
end TL
namespace TL
open PySem PySem.Spec PyProof.Rows L2 TS
theorem eqvAll_I : ∀ (a b : List Int), PyData.eqvAll (a.map PyData.int) (b.map PyData.int) = decide (a = b)
 | [], [] => by simp [PyData.eqvAll]
 | [], y :: b => by simp [PyData.eqvAll]
 | x :: a, [] => by simp [PyData.eqvAll]
 | x :: a, y :: b => by
  rw [List.map_cons, List.map_cons, PyData.eqvAll, eqvAll_I a b, Bool.eq_iff_iff]
  simp [PyData.eqv]
theorem eqv_I (a b : List Int) : PyData.eqv (dI a) (dI b) = decide (a = b) := by
 unfold dI
 rw [PyData.eqv, eqvAll_I]
theorem any_LI (ss : List (List Int)) (t : List Int) : ((ss.map dI).any fun z => PyData.eqv z (dI t)) = decide (t ∈ ss) := by
 rw [List.any_map, Bool.eq_iff_iff, List.any_eq_true, decide_eq_true_iff]
 constructor
 ·rintro ⟨y, hy, e⟩
  have e : PyData.eqv (dI y) (dI t) = true := e
  rw [eqv_I, decide_eq_true_iff] at e
  exact e ▸ hy
 ·exact fun h => ⟨t, h, by show PyData.eqv (dI t) (dI t) = true; rw [eqv_I]; exact decide_eq_true rfl⟩
theorem okDs_LI (ss : List (List Int)) : OkDs (ss.map dI) := by
 have h := okD_LI ss
 unfold dLI at h
 refine ⟨by have := h.1; rwa [PyData.canLay0] at this, ?_⟩
 have := h.2
 rw [PyData.depth] at this
 omega
theorem okD_rows (rows : Rows) : OkD (dRows rows) := by
 have hd : ∀ r : List Int × Int, PyData.depth (dRow r) ≤ 3 := fun r => by
  simp only [dRow, dI, PyData.depth, PyData.depthAll]
  have := depthAll_map (f := PyData.int) (k := 0) (fun _ => by simp [PyData.depth]) r.1
  omega
 refine ⟨?_, ?_⟩
 ·unfold dRows
  rw [PyData.canLay0]
  refine canLayAll0_map (fun r => ?_) rows
  simp only [dRow, PyData.canLay0, PyData.canLayAll0, Bool.and_true, Bool.true_and]
  exact (okD_ints r.1).1
 ·unfold dRows
  rw [PyData.depth]
  have := depthAll_map hd rows
  omega
def shutL (l : Ln) (tr : List Int) (ss : List (List Int)) : Prop := ss.Nodup ∧ tr ∈ ss ∧ ∀ s ∈ ss, stOk l tr s ∧ ∀ m ∈ mvs l s, m.2 ∈ ss
def risesP (l : Ln) (tr : List Int) (rows : Rows) : Prop := ∀ r ∈ rows, (r.1 = tr → r.2 = 0) ∧ ∀ q ∈ rows, q.1 ∈ (mvs l r.1).map (·.2) → q.2 ≤ r.2 + 1
theorem areN_iff {l : Ln} {tr : List Int} {rows : Rows} : areN l tr rows ↔ shutL l tr (rows.map (·.1)) ∧ risesP l tr rows := by
 constructor
 ·rintro ⟨⟨nd, st⟩, h0, h1⟩
  refine ⟨⟨nd, List.mem_map.mpr ⟨_, lookR_some h0, rfl⟩, fun s hs => ⟨st s hs, fun m hm => ?_⟩⟩, fun r hr => ⟨fun e => ?_, fun q hq hm => ?_⟩⟩
  ·obtain ⟨r, hr, rfl⟩ := List.mem_map.mp hs
   obtain ⟨n, hn, _⟩ := h1 r hr m hm
   exact List.mem_map.mpr ⟨_, lookR_some hn, rfl⟩
  ·have := lookR_mem nd hr
   rw [e, h0] at this
   exact (Option.some.inj this).symm
  ·obtain ⟨m, hm1, hm2⟩ := List.mem_map.mp hm
   obtain ⟨n, hn, hle⟩ := h1 r hr m hm1
   have := lookR_mem nd hq
   rw [← hm2, hn] at this
   cases this
   exact hle
 ·rintro ⟨⟨nd, ht, st⟩, h1⟩
  obtain ⟨r, hr, e⟩ := List.mem_map.mp ht
  refine ⟨⟨nd, fun s hs => (st s hs).1⟩, ?_, fun r hr m hm => ?_⟩
  ·have := lookR_mem nd hr
   rw [(h1 r hr).1 e, show r.1 = tr from e] at this
   exact this
  ·obtain ⟨q, hq, e⟩ := List.mem_map.mp ((st r.1 (List.mem_map.mpr ⟨r, hr, rfl⟩)).2 m hm)
   have e : q.1 = m.2 := e
   exact ⟨q.2, by rw [← e]; exact lookR_mem nd hq, (h1 r hr).2 q hq (List.mem_map.mpr ⟨m, hm, e.symm⟩)⟩
end TL
namespace TL
open PySem L2 PyProof.Rows
def swp (p : Int × Int) : Int × Int := (p.2, p.1)
def both (js : List (Int × Int)) : List (Int × Int) := js ++ js.map swp
end TL
namespace TL
open PySem PySem.Spec PyProof.Rows L2 TS
def Pw {α : Type} (R : α → V → Prop) : List α → List V → Prop
 | [], [] => True
 | d :: ds, v :: vs => R d v ∧ Pw R ds vs
 | _, _ => False
theorem Pw.len {α : Type} {R : α → V → Prop} : ∀ {ds : List α} {vs : List V}, Pw R ds vs → vs.length = ds.length
 | [], [], _ => rfl
 | d :: ds, v :: vs, h => by rw [List.length_cons, List.length_cons, Pw.len h.2]
theorem Pw.imp {α : Type} {R S : α → V → Prop} (f : ∀ d v, R d v → S d v) : ∀ {ds : List α} {vs : List V}, Pw R ds vs → Pw S ds vs
 | [], [], _ => trivial
 | d :: ds, v :: vs, h => ⟨f _ _ h.1, Pw.imp f h.2⟩
theorem Pw.app {α : Type} {R : α → V → Prop} : ∀ {ds es : List α} {vs us : List V}, Pw R ds vs → Pw R es us → Pw R (ds ++ es) (vs ++ us)
 | [], _, [], _, _, h => h
 | d :: ds, _, v :: vs, _, h, h2 => ⟨h.1, Pw.app h.2 h2⟩
theorem Pw.one {α : Type} {R : α → V → Prop} {d : α} {v : V} (h : R d v) : Pw R [d] [v] := ⟨h, trivial⟩
theorem Pw.das {α : Type} {K : PySem.W.Frag} {H : Hp} {R : α → V → Prop} {d' : α → PyData} (f : ∀ d v, R d v → Da K H (d' d) v) : ∀ {ds : List α} {vs : List V}, Pw R ds vs → Das K H (ds.map d') vs
 | [], [], _ => dgs_nil.mpr rfl
 | _ :: _, _ :: _, h => dgs_cons.mpr ⟨_, _, rfl, f _ _ h.1, Pw.das f h.2⟩
section
variable {K : PySem.W.Frag} {l : Addr} {g : TG} {tt : TT} {te : TE} {cap : List (Option Nat)} {σ : St} {Q : VK} {H1 : Hp} {J : It}
theorem lc_pw {α : Type} (n : Nat) (ds : List α) (Φ : Hp → α → V → Prop) (mono : ∀ {H H' : Hp} d v, Same H H' → Φ H d v → Φ H' d v) (hn : H1 l = none) (hlen : n = ds.length) (hz : n < sizeLine) (go : ∀ i H, Same H1 H → i < n → J.go i H) (st : ∀ H, Same H1 H → J.stop n H)
  (hs : ∀ i x d H H', Same H1 H → (∃ us, H l = some (.lst us)) → J.yld i H x H' → ds[i]? = some d → ∀ (P1 : VK) (P0 : Hp → Prop), (∀ v H2, Same H H2 → Φ (hid l H2) d v → P1 v H2) →
   g x (capSt cap σ) H' fun σ2 H2 => tt σ2 H2 fun b H3 => if b = true then te σ2 H3 P1 else P0 H3)
  (hq : ∀ vs H', Same H1 H' → H' l = some (.lst vs) → Pw (Φ (hid l H')) ds vs → Q (.ref l) H') : LcW J g tt te cap σ Q l H1 := by
 refine lc_any n (fun i acc H => Pw (Φ (hid l H)) (ds.take i) acc ∧ Same H1 H ∧ H l = some (.lst acc)) ⟨trivial, same_upd hn, upd_same⟩ (fun i acc H hi ⟨_, s, _⟩ => go i H s hi) (fun acc H ⟨_, s, _⟩ => st H s) ?_ ?_
 ·rintro i x acc H H' hi ⟨e1, s, hl⟩ y
  have hd : ds[i]? = some (ds[i]'(by omega)) := by simp
  generalize ds[i]'(by omega) = d at hd
  refine hs i x d H H' s ⟨_, hl⟩ y hd _ _ (fun v H2 s2 dv => ?_)
  have la := Pw.len e1
  rw [List.length_take] at la
  refine ⟨s2 _ _ hl, by omega, ?_, Same.upd (s.trans s2) hn, upd_same⟩
  rw [hid_upd, List.take_add_one, hd]
  exact Pw.app (Pw.imp (fun d v => mono d v (hid_mono s2)) e1) (Pw.one dv)
 ·rintro acc H ⟨e1, s, hl⟩
  rw [List.take_of_length_le (by omega)] at e1
  exact hq acc H s hl e1
end
def Row1 (H : Hp) (r : List Int × Int) (v : V) : Prop := ∃ ad a, v = .ref ad ∧ H ad = some (.tup [.ref a, .int r.2]) ∧ H a = some (.lst (r.1.map V.int))
theorem Row1.da {K : PySem.W.Frag} {H : Hp} (r : List Int × Int) (v : V) (h : Row1 H r v) : Da K H (dRow r) v := by
 obtain ⟨ad, a, rfl, h1, h2⟩ := h
 exact dg_tuple.mpr ⟨ad, _, rfl, SqT.of h1, Dgs.two (da_new h2) (dg_int.mpr rfl)⟩
structure RowsAt (H : Hp) (q : Addr) (rows : Rows) (vs : List V) : Prop where
 at_ : H q = some (.lst vs)
 pw : Pw (Row1 (hid q H)) rows vs
theorem RowsAt.len {H : Hp} {q : Addr} {rows : Rows} {vs : List V} (h : RowsAt H q rows vs) : vs.length = rows.length := h.pw.len
theorem trOk_turn {l : Ln} {ns : List Int} (ok : LineOk l) (T : TrOk l ns) : TrOk l (ns.reverse.map oth) := by
 refine ⟨fun e he => ?_, ?_, fun i x y hx hy => ?_⟩
 ·obtain ⟨z, hz, rfl⟩ := List.mem_map.mp he
  have := T.ends z (List.mem_reverse.mp hz)
  unfold oth; omega
 ·rw [List.map_map, show ((fun x : Int => x / 2) ∘ oth) = (fun x : Int => x / 2) from funext fun e => by show oth e / 2 = e / 2; unfold oth; omega, List.map_reverse]
  exact (List.reverse_perm _).nodup_iff.mpr T.nd
 ·rw [List.getElem?_map] at hx hy
  have hi : i + 1 < ns.length := by
   by_cases z : i + 1 < ns.length
   ·exact z
   ·rw [List.getElem?_eq_none (by rw [List.length_reverse]; omega)] at hy; cases hy
  rw [List.getElem?_reverse (by omega)] at hx
  rw [List.getElem?_reverse (by omega)] at hy
  cases q1 : ns[ns.length - 1 - i]? with
  | none => rw [q1] at hx; cases hx
  | some a =>
   cases q2 : ns[ns.length - 1 - (i + 1)]? with
   | none => rw [q2] at hy; cases hy
   | some b =>
    rw [q1] at hx; rw [q2] at hy
    cases hx; cases hy
    have := T.ch (ns.length - 1 - (i + 1)) b a q2 (by rw [show ns.length - 1 - (i + 1) + 1 = ns.length - 1 - i by omega]; exact q1)
    rw [oth_oth]
    exact jn_symm ok this
end TL
namespace TL
open PySem PySem.Spec PyProof.Rows L2
section
variable {J : It} {l : Addr} {g : TG} {tt : TT} {te : TE} {cap : List (Option Nat)} {σ : L2.St} {Q : VK} {H1 : Hp}
end
end TL
namespace TL
open PySem PySem.Spec PyProof.Rows L2
section
variable {prog : Program} {w : World} {A : Around} {E : Value → Shared → Prop} {s : Shared} {d it vw : Addr} {o : Obj} {es : Array DictEntry} {ep i : Nat} {ok ov : Value}
theorem rawD_items {Q : Value → Shared → Prop} (hn : (d == sysModules) = false) (ho : s.heap.get? d = some o) (hx : o.ExactDict)
  (hQ : Q (.ref s.heap.objs.size) { s with heap := s.heap.push { cls := .type "dict_items", data := .fields #[.ref d] } }) : wpAny (model prog w) A (call (.builtin "dict.items") [.ref d]) Q E s := by
 have hT := rawD_type ho hx
 refine wpAny_call_entry F.slot_dict_items hT F.entry_dict_items ?_ (F.args_dict_items_1 _)
 unfold Builtin.«dict.items»
 refine wpAny_bind ?_
 unfold Builtin.Dict.noArgs
 refine wpAny_bind (wpAny_notOrdered_dict hT (wpAny_pure ?_))
 show wpAny _ _ (Builtin.Dict.showsAll d >>= _) _ _ s
 unfold Builtin.Dict.showsAll
 rw [if_neg (by rw [hn]; exact Bool.false_ne_true)]
 exact wpAny_bind (wpAny_pure (wpAny_bind (wpAny_newObj_type (wpAny_pure ⟨_, rfl, hQ⟩))))
theorem rawI_iter {Q : Value → Shared → Prop} (hv : s.heap.IsItemsView vw d) (ho : s.heap.get? d = some o) (hd : o.data = .dict es ep)
  (hQ : Q (.ref s.heap.objs.size) { s with heap := s.heap.push { cls := .type "dict_itemiterator", data := .fields #[.none, .bool false, .ref d, .int 0 0, .int es.size 0, .int ep 0, .none, .none] } }) : wpAny (model prog w) A (pyIter (.ref vw)) Q E s := by
 obtain ⟨ov, hov, hcv, hdv⟩ := id hv
 have hT := hv.typeIs
 refine wpAny_pyIter_slot hT F.slot_dict_items_iter (wpAny_call_entry F.slot_dict_items_iter hT F.entry_dict_items_iter ?_ (F.args_dict_items_iter_1 _))
 unfold Builtin.«dict_items.__iter__»
 refine wpAny_bind (wpAny_pure (wpAny_bind ?_))
 unfold Builtin.Dict_items.dictOf
 refine wpAny_bind (wpAny_field hov hdv (x := .ref d) rfl (wpAny_pure (wpAny_bind ?_)))
 unfold Builtin.Dict_items.newIterator
 refine wpAny_bind (wpAny_dictEntries ho hd (wpAny_bind (wpAny_dictEpoch ho hd ?_)))
 have hown : Builtin.Dict_items.ownsTuple "dict_itemiterator" = true := by decide
 simp only [hown, if_true]
 refine wpAny_newObj_type (wpAny_pure ⟨_, rfl, "dict_itemiterator", _, ⟨_, Heap.get?_push_size _ rfl, rfl⟩, F.slot_dict_itemiterator_next.lookup, ?_⟩)
  (by simp only [sizeOk, Builtin.Dict_items.ownedTupleFields, List.size_toArray, List.length_append, List.length_cons, List.length_nil, sizeLine_eq]; omega)
 simpa [rawInt, Builtin.Dict_items.ownedTupleFields] using hQ
theorem rawI_next {Q : Option Value → Shared → Prop} {e : DictEntry} (hit : IsItemIter s.heap it d i es.size ep ok ov) (ho : s.heap.get? d = some o) (hd : o.data = .dict es ep) (hx : es[i]? = some e)
  (hQ : ∀ h', IsItemIterOut h' it d (i + 1) es.size ep e.key e.val s.heap.objs.size → h'.get? s.heap.objs.size = some { cls := .type "tuple", data := .seq #[e.key, e.val] } →
   (∀ b o, b ≠ it → s.heap.get? b = some o → h'.get? b = some o) → Q (some (.ref s.heap.objs.size)) { s with heap := h' }) : wpAny (model prog w) A (pyNext (.ref it)) Q E s := by
 obtain ⟨hp, g, dr, tk, os⟩ := s
 have hT : Shared.TypeIs ⟨hp, g, dr, tk, os⟩ (.ref it) "dict_itemiterator" := ⟨_, hit, rfl⟩
 unfold pyNext
 refine wpAny_bind (wpAny_attempt (wpAny_callSpecial?_slot (name := Str.ofString "__next__") hT F.slot_dict_itemiterator_next
  (wpAny_call_entry F.slot_dict_itemiterator_next hT F.entry_dict_itemiterator_next ?_ (F.args_dict_itemiterator_next_1 _))))
 refine wpAny_bind (wpAny_pure (wpAny_bind (wpAny_bind ?_)))
 first | refine wpAny_bind (wpAny_typeNameOfWhole_itemiter hT (wpAny_pure ?_)) | refine wpAny_bind (wpAny_typeNameOf_itemiter hT (wpAny_pure ?_))
 refine wpAny_bind (wpAny_fieldsOf hit rfl ?_)
 have hown : Builtin.Dict_items.ownsTuple "dict_itemiterator" = true := by decide
 simp only [hown, if_true]
 show wpAny _ _ (if (Value.ref d == Value.none) = true then _ else _) _ _ _
 rw [if_neg (show ¬ ((Value.ref d == Value.none) = true) from Bool.false_ne_true)]
 refine wpAny_bind (wpAny_pure (wpAny_bind (wpAny_dictEntries ho hd ?_)))
 rw [if_neg (by simp)]
 refine wpAny_bind (wpAny_pure (wpAny_bind (wpAny_dictEpoch ho hd ?_)))
 rw [if_neg (by simp)]
 refine wpAny_pure ?_
 obtain ⟨hlt, he⟩ := Array.getElem?_eq_some_iff.mp hx
 simp only [show ¬ ((i : Int) < 0) from by omega, if_false, Int.toNat_natCast, Array.getElem?_eq_getElem hlt]
 rw [he]
 refine wpAny_bind ?_
 first | refine wpAny_bind (wpAny_typeNameOfWhole_itemiter hT (wpAny_pure ?_)) | refine wpAny_bind (wpAny_typeNameOf_itemiter hT (wpAny_pure ?_))
 refine wpAny_bind (wpAny_isOneOf_itemiter hT ?_)
 show wpAny _ _ (setField (.ref it) 3 (rawInt ((i : Int) + 1)) >>= _) _ _ ⟨hp, g, dr, tk, os⟩
 refine wpAny_bind (wpAny_setField_rec hit (by simp) fun h₁ he₁ hs₁ => ?_)
 replace hs₁ : Heap.SameBut it hp h₁ := hs₁
 replace he₁ : IsItemIter h₁ it d (i + 1) es.size ep ok ov := by
  have e : ((i + 1 : Nat) : Int) = (i : Int) + 1 := by omega
  unfold IsItemIter; rw [e]; simpa [rawInt] using he₁
 have hT₁ : Shared.TypeIs ⟨h₁, g, dr, tk, os⟩ (.ref it) "dict_itemiterator" := ⟨_, he₁, rfl⟩
 refine wpAny_bind (wpAny_holding ?_)
 refine wpAny_bind (wpAny_isOneOf_itemiter hT₁ (wpAny_bind (wpAny_isOneOf_itemiter hT₁ ?_)))
 show wpAny _ _ (Builtin.Dict_items.pairFromOwner (.ref it) 6 e.key e.val) _ _ ⟨h₁, g, dr, tk, os⟩
 unfold Builtin.Dict_items.pairFromOwner
 refine wpAny_bind (wpAny_newTuple ?_)
 have he₂ : IsItemIter (h₁.push { cls := .type "tuple", data := .seq #[e.key, e.val] }) it d (i + 1) es.size ep ok ov := Heap.get?_push_of_some _ he₁
 generalize hh₂ : h₁.push { cls := .type "tuple", data := .seq #[e.key, e.val] } = h₂ at he₂
 have hz₁ : h₁.objs.size = hp.objs.size := hs₁.1
 have hil : it < hp.objs.size := Heap.lt_size hit
 have ht₂ : h₂.get? hp.objs.size = some { cls := .type "tuple", data := .seq #[e.key, e.val] } := by rw [← hh₂, ← hz₁]; exact Heap.get?_push_size _ rfl
 have hk₂ : ∀ b o, b ≠ it → hp.get? b = some o → h₂.get? b = some o := fun b o hb e => by rw [← hh₂]; exact Heap.get?_push_of_some _ (hs₁.extBut b o hb e)
 show wpAny _ _ (Builtin.Dict_items.ownedTupleIsFree (.ref it) >>= _) _ _ ⟨h₂, g, dr, tk, os⟩
 rw [hz₁]
 clear hh₂ he₁ hs₁ hT₁ hz₁ h₁
 refine wpAny_bind ?_
 unfold Builtin.Dict_items.ownedTupleIsFree
 refine wpAny_bind (wpAny_field he₂ rfl (x := .none) rfl (wpAny_pure ?_))
 simp only [if_true]
 refine wpAny_bind (wpAny_field he₂ rfl (x := ok) rfl (wpAny_bind (wpAny_field he₂ rfl (x := ov) rfl ?_)))
 refine wpAny_bind (wpAny_setField_rec he₂ (by simp) fun h₃ he₃ hs₃ => ?_)
 replace hs₃ : Heap.SameBut it h₂ h₃ := hs₃
 replace he₃ : IsItemIter h₃ it d (i + 1) es.size ep e.key ov := he₃
 refine wpAny_bind (wpAny_setField_rec he₃ (by simp) fun h₄ he₄ hs₄ => ?_)
 replace hs₄ : Heap.SameBut it h₃ h₄ := hs₄
 replace he₄ : IsItemIter h₄ it d (i + 1) es.size ep e.key e.val := he₄
 refine wpAny_bind (wpAny_setField_rec he₄ (by simp) fun h₅ he₅ hs₅ => ?_)
 replace hs₅ : Heap.SameBut it h₄ h₅ := hs₅
 replace he₅ : IsItemIterOut h₅ it d (i + 1) es.size ep e.key e.val hp.objs.size := he₅
 refine wpAny_bind (wpAny_setField_rec he₅ (by simp) fun h₆ he₆ hs₆ => ?_)
 replace hs₆ : Heap.SameBut it h₅ h₆ := hs₆
 replace he₆ : IsItemIterOut h₆ it d (i + 1) es.size ep e.key e.val hp.objs.size := he₆
 refine wpAny_bind (wpAny_letGo (wpAny_pure (wpAny_pure ⟨_, rfl, wpAny_pure (hQ h₆ he₆ ?_ ?_)⟩)))
 ·exact hs₆.extBut _ _ (Nat.ne_of_gt hil) (hs₅.extBut _ _ (Nat.ne_of_gt hil) (hs₄.extBut _ _ (Nat.ne_of_gt hil) (hs₃.extBut _ _ (Nat.ne_of_gt hil) ht₂)))
 ·exact fun b o hb e => hs₆.extBut b o hb (hs₅.extBut b o hb (hs₄.extBut b o hb (hs₃.extBut b o hb (hk₂ b o hb e))))
theorem rawI_end {Q : Option Value → Shared → Prop} (hh : A.handled = none) (hit : IsItemIter s.heap it d i es.size ep ok ov) (ho : s.heap.get? d = some o) (hd : o.data = .dict es ep) (hx : es.size ≤ i)
  (hQ : ∀ h', Heap.ExtBut it s.heap h' → Q none { s with heap := h' }) : wpAny (model prog w) A (pyNext (.ref it)) Q E s := by
 have hT : s.TypeIs (.ref it) "dict_itemiterator" := ⟨_, hit, rfl⟩
 unfold pyNext
 refine wpAny_bind (wpAny_attempt (wpAny_callSpecial?_slot (name := Str.ofString "__next__") hT F.slot_dict_itemiterator_next
  (wpAny_call_entry F.slot_dict_itemiterator_next hT F.entry_dict_itemiterator_next ?_ (F.args_dict_itemiterator_next_1 _))))
 refine wpAny_bind (wpAny_pure (wpAny_bind (wpAny_bind ?_)))
 first | refine wpAny_bind (wpAny_typeNameOfWhole_itemiter hT (wpAny_pure ?_)) | refine wpAny_bind (wpAny_typeNameOf_itemiter hT (wpAny_pure ?_))
 refine wpAny_bind (wpAny_fieldsOf hit rfl ?_)
 have hown : Builtin.Dict_items.ownsTuple "dict_itemiterator" = true := by decide
 simp only [hown, if_true]
 show wpAny _ _ (if (Value.ref d == Value.none) = true then _ else _) _ _ s
 rw [if_neg (show ¬ ((Value.ref d == Value.none) = true) from Bool.false_ne_true)]
 refine wpAny_bind (wpAny_pure (wpAny_bind (wpAny_dictEntries ho hd ?_)))
 rw [if_neg (by simp)]
 refine wpAny_bind (wpAny_pure (wpAny_bind (wpAny_dictEpoch ho hd ?_)))
 rw [if_neg (by simp)]
 refine wpAny_pure ?_
 simp only [show ¬ ((i : Int) < 0) from by omega, if_false, Int.toNat_natCast, Array.getElem?_eq_none hx]
 refine wpAny_bind ?_
 first | refine wpAny_bind (wpAny_typeNameOfWhole_itemiter hT (wpAny_pure ?_)) | refine wpAny_bind (wpAny_typeNameOf_itemiter hT (wpAny_pure ?_))
 show wpAny _ _ (setField (.ref it) 2 .none >>= _) _ _ s
 refine wpAny_bind (wpAny_setField hit rfl (by simp) ?_)
 show wpAny _ _ (newExc (.type "StopIteration") [] >>= _) _ _ _
 refine wpAny_bind ?_
 simp only [newExc, newTuple]
 refine wpAny_bind (wpAny_newObj_type ?_ (by size_fits))
 refine wpAny_bind (m := firstArgMember _ _) (wpAny_of_eq (a := Value.none) (by first | rfl | (simp only [firstArgMember]; rfl)) ?_)
 refine wpAny_newObj_type ?_ (by size_fits)
 simp only [raiseNew]
 refine wpAny_bind (wpAny_handled ?_)
 rw [show A.in1.handled = none from hh]
 refine wpAny_bind (wpAny_pure (wpAny_throw ?_))
 refine wpAny_bind (wpAny_isInstance (T := "StopIteration") (b := true) ⟨_, Heap.get?_push_size _ rfl, rfl⟩ isSubtype_stop ?_)
 exact wpAny_pure (hQ _ (((Heap.SameBut.update ..).extBut.push _).push _))
end
def Itm (a : Addr) (o : Obj) (kvs : List (List Key × V)) : It :=
 ⟨fun i H => H a = some (.frz o (.dT kvs)) ∧ i < kvs.length, fun i H x H' => ∃ p b kv, H p = none ∧ x = .ref p ∧ kvs[i]? = some kv ∧ H b = some (.tup (kv.1.map kV)) ∧ H' = upd H p (.tup [.ref b, kv.2]), fun i H => H a = some (.frz o (.dT kvs)) ∧ kvs.length ≤ i⟩
theorem turn_items {P : Program} {w : World} {K : PySem.W.Frag} {els : List Expr} {x1 : Nat} {pt : Pos} (a it : Addr) (o : Obj) (kvs : List (List Key × V)) (es : Array DictEntry) (ep : Nat) (hd : o.data = .dict es ep) (hl : es.size = kvs.length) :
  Turn P w K (.Tuple els x1 pt) (Itm a o kvs) [it] it (fun i h => ∃ ok ov, IsItemIter h it a i es.size ep ok ov) where
 mem := by simp
 obj := fun i h st b hb => by
  have e : b = it := by simpa using hb
  subst e
  obtain ⟨ok, ov, q⟩ := st
  exact ⟨_, q, fun v z => by cases z⟩
 keep := fun i h h' ⟨ok, ov, q⟩ k => ⟨ok, ov, k it (by simp) _ q⟩
 item := by
  intro X hP hw hK hc i pins s σ H E I hf st hg
  subst hP hw hK
  obtain ⟨ok, ov, st⟩ := st
  obtain ⟨ha, hi⟩ := hg
  obtain ⟨ho, z, hm, xs, r, o', es', ep', e', _, hd', hes, _⟩ := I.hok a _ ha
  rw [ho] at e'
  cases e'
  rw [hd] at hd'
  cases hd'
  have hp : kvs[i]? = some kvs[i] := by simp [hi]
  obtain ⟨q, hq, q1, q2, q3⟩ := paired_at r hp
  have he : es[i]? = some (entryOfKey (tupleKind (mixKind X.prog X.w)) q) := by
   rw [← Array.getElem?_toList, hes, List.getElem?_map, hq]; rfl
  have lt1 : it < s.heap.objs.size := Heap.lt_size st
  refine rawI_next st ho hd he fun h' k1 k3 k5 => ?_
  refine ⟨_, rfl, ?_⟩
  refine wpAny_letOwnedTupleGo_items (s := { s with heap := h' }) k1 fun h'' m1 m2 => ?_
  have keep : ∀ b o, b ∉ [it] → s.heap.get? b = some o → h''.get? b = some o := fun b o hb q => m2.extBut b o (fun z => hb (by simp [z])) (k5 b o (fun z => hb (by simp [z])) q)
  have ht : h''.get? s.heap.objs.size = some { cls := .type "tuple", data := .seq [Value.ref q.2.1, q.2.2].toArray } := m2.extBut _ _ (Nat.ne_of_gt lt1) k3
  have J1 : Inv X pins σ (upd H s.heap.objs.size (.tup [.ref q.2.1, (kvs[i]).2])) { s with heap := h'', toks := s.toks } := Inv.turnedTup I hf keep (.cons rfl (.cons q3 .nil)) (by show 2 ≤ sizeLine; decide) ht
  have hn : H s.heap.objs.size = none := I.fresh
  refine ⟨.ref s.heap.objs.size, _, J1, rfl, ⟨_, q.2.1, _, hn, rfl, hp, q2, rfl⟩, ⟨_, _, m1⟩, fun b hb => ?_⟩
  have e : b = it := by simpa using hb
  subst e
  rw [upd_ne (Nat.ne_of_lt lt1)]
  exact (hf b hb).1
 done := by
  intro X hP hw hK hc i pins s σ H E I hf st hg
  subst hP hw hK
  obtain ⟨ok, ov, st⟩ := st
  obtain ⟨ha, hi⟩ := hg
  obtain ⟨ho, _⟩ := I.hok a _ ha
  obtain ⟨g0, g1, g2, g3, g4, g5⟩ := hf it (by simp)
  exact rawI_end (I.ok.hd hc) st ho hd (by rw [hl]; exact hi) fun h' eb => ⟨rfl, I.turned (t' := s.toks) (fun b u hb e => eb b u hb e) g0 g1 g3 g4 g5⟩
 self := fun _ _ _ _ _ ⟨_, _, st⟩ h => PySem.W.kcp_self st h
section
variable {X : Cx}
def iItems (tl : TE) : TI := fun σ H R => tl σ H fun x H1 => ∃ a o kvs, x = .ref a ∧ H1 a = some (.frz o (.dT kvs)) ∧ R (Itm a o kvs) H1
theorem pi_items {els : List Expr} {x1 : Nat} {pt apos cpos : Pos} {e : Expr} {tl : TE} (hl : PE X e tl) (hbase : attributeBase e "items" X.env (eval e X.env) = eval e X.env := by rfl) (hline : (apos.endLine == cpos.line) = true := by rfl) :
  PI X (.Tuple els x1 pt) (.Call (.Attribute e "items" apos) [] [] cpos) (iItems tl) := by
 intro pins s σ H R I h
 refine wpAny_Call_method0_late hbase hline (thn (hl pins s σ H _ I h) fun u s1 ⟨x, H1, I1, r1, a, o, kvs, ex, ha, q⟩ => ?_)
 subst ex
 cases (show u = Value.ref a from r1)
 obtain ⟨ho, z, hm, xs, r, o', es, ep, e', hxd, hd, hes, _⟩ := I1.hok a _ ha
 rw [ho] at e'
 cases e'
 have hsz : es.size = kvs.length := by
  have h1 := congrArg List.length hes
  rw [Array.length_toList, List.length_map, ← Paired.length r] at h1
  exact h1
 refine ⟨"dict", "dict.items", PySem.F.plainAttrs_dict, PySem.F.slot_dict_items, PySem.F.type_dict_items, rawD_type ho hxd, fun b eb => by cases eb; exact ⟨o, ho, hxd.2.1⟩, Calls.callWith_builtin rfl (PySem.evalArgs_none (rawD_items hm ho hxd ?_))⟩
 have hv : ({ s1 with heap := s1.heap.push { cls := .type "dict_items", data := .fields #[.ref a] } } : Shared).heap.IsItemsView s1.heap.objs.size a := ⟨_, Heap.get?_push_size _ rfl, rfl, rfl⟩
 have k1 : ∀ b u, s1.heap.get? b = some u → (s1.heap.push { cls := .type "dict_items", data := .fields #[.ref a] }).get? b = some u := fun b u e => Heap.get?_push_of_some _ e
 have I2 := I1.kept (t' := s1.toks) k1
 refine rawI_iter hv (k1 _ _ ho) hd ?_
 have hz : (s1.heap.push { cls := .type "dict_items", data := .fields #[.ref a] }).objs.size = s1.heap.objs.size + 1 := Heap.size_push ..
 refine ⟨_, [_], _, _, H1, rfl, I2.kept (t' := s1.toks) (fun b u e => Heap.get?_push_of_some _ e), turn_items a _ o kvs es ep hd hsz, ⟨_, _, Heap.get?_push_size _ rfl⟩, fun b hb => ?_, q⟩
 have e : b = (s1.heap.push { cls := .type "dict_items", data := .fields #[.ref a] }).objs.size := by simpa using hb
 subst e
 exact I2.fpOk (Nat.le_refl _) (I2.hok.fresh (Nat.le_refl _))
end
end TL
namespace TL
open PySem PySem.Spec PyProof.Rows L2
theorem while_ix {c : TT} {tb : TS} {D : Ends} {σ : L2.St} {H : Hp} (Pv : Nat → L2.St → Hp → Prop) (n : Nat) (h0 : Pv n σ H)
  (hs : ∀ n σ H, Pv n σ H → c σ H fun b H1 => if b = true then tb { D with nx := fun σ' H' => ∃ m, m < n ∧ Pv m σ' H', ct := fun σ' H' => ∃ m, m < n ∧ Pv m σ' H', bk := D.nx } σ H1 else D.nx σ H1)
  (mono : ∀ σ H Q Q', (∀ b H1, Q b H1 → Q' b H1) → c σ H Q → c σ H Q') : tWhile c tb D σ H := by
 refine ⟨fun m σ H => Pv m σ H, ⟨n, h0⟩, ?_⟩
 intro m σ H p
 refine mono σ H _ _ (fun b H1 q => ?_) (hs m σ H p)
 cases b with
 | true => exact ⟨_, fun σ' H' h => h, q⟩
 | false => exact q
structure Backs (es : List Ent) : Prop where
 back : ∀ (j : Nat) t' t k, es[j]? = some (t', some (t, k)) → ∃ i e, i < j ∧ es[i]? = some e ∧ e.1 = t
 ok : ∀ (j : Nat) t' t k, es[j]? = some (t', some (t, k)) → PyData.strOk k.1 = true
theorem strOk_mv {l : Ln} {ns : List Int} {m : Mv} (hm : m ∈ mvs l ns) : PyData.strOk m.1.1 = true := by
 rcases List.mem_append.mp hm with z | z
 ·obtain ⟨e, _, rfl⟩ := List.mem_map.mp z
  show PyData.strOk (Str.ofString "on") = true
  decide +kernel
 ·obtain ⟨e, _, rfl⟩ := List.mem_map.mp z
  show PyData.strOk (Str.ofString "back") = true
  decide +kernel
theorem Backs.add {t : List Int} {es : List Ent} {m : Mv} {i : Nat} {e : Ent} (h : Backs es) (hi : es[i]? = some e) (he : e.1 = t) (ok : PyData.strOk m.1.1 = true) : Backs (add1 t es m) := by
 unfold add1
 split
 ·exact h
 ·have hlt := (List.getElem?_eq_some_iff.mp hi).1
  refine ⟨fun j t' u k hj => ?_, fun j t' u k hj => ?_⟩
  ·by_cases hjl : j < es.length
   ·rw [List.getElem?_append_left hjl] at hj
    obtain ⟨i2, e2, h1, h2, h3⟩ := h.back j t' u k hj
    exact ⟨i2, e2, h1, by rw [List.getElem?_append_left (by omega)]; exact h2, h3⟩
   ·have hj2 : j = es.length := by
     have := (List.getElem?_eq_some_iff.mp hj).1
     rw [List.length_append, List.length_singleton] at this
     omega
    rw [hj2, List.getElem?_append_right (Nat.le_refl _), Nat.sub_self] at hj
    cases hj
    exact ⟨i, e, by omega, by rw [List.getElem?_append_left hlt]; exact hi, he⟩
  ·by_cases hjl : j < es.length
   ·rw [List.getElem?_append_left hjl] at hj
    exact h.ok j t' u k hj
   ·have hj2 : j = es.length := by
     have := (List.getElem?_eq_some_iff.mp hj).1
     rw [List.length_append, List.length_singleton] at this
     omega
    rw [hj2, List.getElem?_append_right (Nat.le_refl _), Nat.sub_self] at hj
    cases hj
    exact ok
theorem Backs.scan {t : List Int} {i : Nat} {e : Ent} (he : e.1 = t) : ∀ {ms : List Mv} {es : List Ent}, (∀ m ∈ ms, PyData.strOk m.1.1 = true) → es[i]? = some e → Backs es → Backs (scanS t ms es)
 | [], _, _, _, h => h
 | m :: r, es, ok, hi, h => by
  refine Backs.scan (ms := r) (i := i) he (fun x hx => ok x (List.mem_cons_of_mem _ hx)) ?_ (h.add hi he (ok m List.mem_cons_self))
  obtain ⟨u, hu⟩ := add1_pre t es m
  rw [← hu, List.getElem?_append_left (List.getElem?_eq_some_iff.mp hi).1]
  exact hi
theorem webS_back (l : Ln) (ns : List Int) : ∀ i, Backs (webS l ns i)
 | 0 => by
  refine ⟨fun j t' t k hj => ?_, fun j t' t k hj => ?_⟩
  ·match j, hj with
   | 0, hj => cases hj
  ·match j, hj with
   | 0, hj => cases hj
 | i + 1 => by
  have ih := webS_back l ns i
  rw [webS]
  split
  ·rename_i e he
   exact Backs.scan rfl (fun m hm => strOk_mv hm) he ih
  ·exact ih
inductive PathTo (es : List Ent) : List Int → List (Str × Int) → Prop
 | nil {t : List Int} : (t, none) ∈ es → PathTo es t []
 | snoc {t' t : List Int} {k : Str × Int} {r : List (Str × Int)} : (t', some (t, k)) ∈ es → PathTo es t r → PathTo es t' (r ++ [k])
end TL
namespace TL
open PySem PySem.Spec PyProof.Rows L2 TS
def num1 (rows : Rows) (e : Ent) : Int := match e.2 with
 | none => 0
 | some (t, _) => (lookR rows t).getD 0 + 1
def rowsF (acc : Rows) (es : List Ent) : Rows := es.foldl (fun rows e => rows ++ [(e.1, num1 rows e)]) acc
def rowsE (es : List Ent) : Rows := rowsF [] es
theorem rowsF_fst : ∀ (es : List Ent) (acc : Rows), (rowsF acc es).map (·.1) = acc.map (·.1) ++ es.map (·.1)
 | [], acc => by simp [rowsF]
 | e :: es, acc => by
  have := rowsF_fst es (acc ++ [(e.1, num1 acc e)])
  show (rowsF (acc ++ [(e.1, num1 acc e)]) es).map (·.1) = _
  rw [this, List.map_append]; simp
theorem rowsE_fst (es : List Ent) : (rowsE es).map (·.1) = es.map (·.1) := by unfold rowsE; rw [rowsF_fst]; rfl
theorem rowsE_len (es : List Ent) : (rowsE es).length = es.length := by have := congrArg List.length (rowsE_fst es); rwa [List.length_map, List.length_map] at this
theorem rowsF_pre : ∀ (es : List Ent) (acc : Rows), acc <+: rowsF acc es
 | [], acc => List.prefix_refl _
 | e :: es, acc => (List.prefix_append acc [(e.1, num1 acc e)]).trans (rowsF_pre es _)
theorem rowsE_app (es more : List Ent) : rowsE (es ++ more) = rowsF (rowsE es) more := by unfold rowsE rowsF; rw [List.foldl_append]
theorem rowsE_pre {es es' : List Ent} (h : es <+: es') : rowsE es <+: rowsE es' := by
 obtain ⟨r, rfl⟩ := h
 rw [rowsE_app]
 exact rowsF_pre _ _
theorem rowsE_snoc (es : List Ent) (e : Ent) : rowsE (es ++ [e]) = rowsE es ++ [(e.1, num1 (rowsE es) e)] := by rw [rowsE_app]; rfl
theorem lookR_pre {rows rows' : Rows} (h : rows <+: rows') {t : List Int} {n : Int} (hl : lookR rows t = some n) : lookR rows' t = some n := by
 obtain ⟨r, rfl⟩ := h
 unfold lookR at hl ⊢
 rw [List.find?_append]
 cases q : rows.find? fun r => decide (r.1 = t) with
 | none => rw [q] at hl; cases hl
 | some x => rw [q] at hl; exact hl
theorem lookR_in {rows : Rows} {t : List Int} (h : t ∈ rows.map (·.1)) : ∃ n, lookR rows t = some n := by
 cases q : lookR rows t with
 | none => exact absurd h (lookR_none q)
 | some n => exact ⟨n, rfl⟩
theorem lookR_new {rows : Rows} {t : List Int} {n : Int} (h : t ∉ rows.map (·.1)) : lookR (rows ++ [(t, n)]) t = some n := by
 have q : lookR rows t = none := by
  cases q : lookR rows t with
  | none => rfl
  | some x => exact absurd (List.mem_map.mpr ⟨_, lookR_some q, rfl⟩) h
 unfold lookR at q ⊢
 rw [Option.map_eq_none_iff] at q
 rw [List.find?_append, q]
 simp
structure Lvl (es : List Ent) (d : Int) : Prop where
 mono : (rowsE es).Pairwise fun a b => a.2 ≤ b.2
 top : ∀ r ∈ rowsE es, r.2 ≤ d + 1
theorem Lvl.add {es : List Ent} {d : Int} {t : List Int} {m : Mv} (h : Lvl es d) (ht : lookR (rowsE es) t = some d) : Lvl (add1 t es m) d ∧ ∃ n, lookR (rowsE (add1 t es m)) m.2 = some n ∧ n ≤ d + 1 := by
 unfold add1
 by_cases hm : m.2 ∈ es.map (·.1)
 ·rw [if_pos hm]
  obtain ⟨n, hn⟩ := lookR_in (rows := rowsE es) (by rw [rowsE_fst]; exact hm)
  exact ⟨h, n, hn, h.top _ (lookR_some hn)⟩
 ·rw [if_neg hm]
  have hn : num1 (rowsE es) (m.2, some (t, m.1)) = d + 1 := by
   show (lookR (rowsE es) t).getD 0 + 1 = d + 1
   rw [ht]; rfl
  refine ⟨⟨?_, fun r hr => ?_⟩, d + 1, ?_, Int.le_refl _⟩
  ·rw [rowsE_snoc, List.pairwise_append]
   refine ⟨h.mono, by simp, fun a ha b hb => ?_⟩
   rw [List.mem_singleton.mp hb]
   show a.2 ≤ num1 (rowsE es) (m.2, some (t, m.1))
   rw [hn]
   exact h.top a ha
  ·rw [rowsE_snoc] at hr
   rcases List.mem_append.mp hr with z | z
   ·exact h.top r z
   ·rw [List.mem_singleton.mp z]
    show num1 (rowsE es) (m.2, some (t, m.1)) ≤ d + 1
    rw [hn]; exact Int.le_refl _
  ·rw [rowsE_snoc]
   show lookR (rowsE es ++ [(m.2, num1 (rowsE es) (m.2, some (t, m.1)))]) m.2 = some (d + 1)
   rw [hn]
   exact lookR_new (by rw [rowsE_fst]; exact hm)
theorem Lvl.scan {d : Int} {t : List Int} : ∀ (ms : List Mv) {es : List Ent}, Lvl es d → lookR (rowsE es) t = some d → Lvl (scanS t ms es) d ∧ ∀ m ∈ ms, ∃ n, lookR (rowsE (scanS t ms es)) m.2 = some n ∧ n ≤ d + 1
 | [], es, h, _ => ⟨h, fun m hm => (nomatch hm)⟩
 | m :: ms, es, h, ht => by
  obtain ⟨h1, n, hn, hle⟩ := h.add (m := m) ht
  have hp := rowsE_pre (add1_pre t es m)
  obtain ⟨h2, h3⟩ := Lvl.scan ms h1 (lookR_pre hp ht)
  refine ⟨h2, fun m' hm' => ?_⟩
  rcases List.mem_cons.mp hm' with rfl | z
  ·exact ⟨n, lookR_pre (rowsE_pre (scanS_pre t ms (add1 t es m'))) hn, hle⟩
  ·exact h3 m' z
theorem pw_get {rows : Rows} (h : rows.Pairwise fun a b => a.2 ≤ b.2) {i j : Nat} {a b : List Int × Int} (hij : i < j) (hi : rows[i]? = some a) (hj : rows[j]? = some b) : a.2 ≤ b.2 := by
 obtain ⟨hj1, rfl⟩ := List.getElem?_eq_some_iff.mp hj
 obtain ⟨hi1, rfl⟩ := List.getElem?_eq_some_iff.mp hi
 exact List.pairwise_iff_getElem.mp h i j hi1 hj1 hij
theorem row_of {es : List Ent} (nd : (es.map (·.1)).Nodup) {j : Nat} {e : Ent} (h : es[j]? = some e) : ∃ d, (rowsE es)[j]? = some (e.1, d) ∧ lookR (rowsE es) e.1 = some d := by
 have hl := (List.getElem?_eq_some_iff.mp h).1
 have hj : (rowsE es)[j]? = some ((rowsE es)[j]'(by rw [rowsE_len]; exact hl)) := List.getElem?_eq_getElem _
 have e1 : ((rowsE es)[j]'(by rw [rowsE_len]; exact hl)).1 = e.1 := by
  have a := congrArg (·[j]?) (rowsE_fst es)
  rw [List.getElem?_map, List.getElem?_map, hj, h] at a
  exact Option.some.inj a
 generalize (rowsE es)[j]'(by rw [rowsE_len]; exact hl) = r at hj e1
 obtain ⟨t, d⟩ := r
 have e1 : t = e.1 := e1
 subst e1
 exact ⟨d, hj, lookR_mem (r := (e.1, d)) (by rw [rowsE_fst]; exact nd) (List.mem_of_getElem? hj)⟩
structure WebN (l : Ln) (es : List Ent) (i : Nat) : Prop where
 mono : (rowsE es).Pairwise fun a b => a.2 ≤ b.2
 here : ∀ e d, es[i]? = some e → lookR (rowsE es) e.1 = some d → ∀ r ∈ rowsE es, r.2 ≤ d + 1
 done : ∀ j e d, j < i → es[j]? = some e → lookR (rowsE es) e.1 = some d → ∀ m ∈ mvs l e.1, ∃ n, lookR (rowsE es) m.2 = some n ∧ n ≤ d + 1
theorem webN {l : Ln} {ns : List Int} (ok : LineOk l) (T : TrOk l ns) (hne : ns ≠ []) : ∀ i, WebN l (webS l ns i) i
 | 0 => by
  have e0 : rowsE (webS l ns 0) = [(ns, 0)] := rfl
  refine ⟨by rw [e0]; simp, fun e d he hd r hr => ?_, fun j e d hj => absurd hj (Nat.not_lt_zero j)⟩
  rw [e0] at hd hr
  have := lookR_some hd
  have h1 := List.mem_singleton.mp hr
  have h2 := List.mem_singleton.mp this
  rw [h1]
  have h3 : d = 0 := by injection h2
  show (0 : Int) ≤ d + 1
  omega
 | i + 1 => by
  have ih := webN ok T hne i
  have E := webS_ok ok T hne i
  have E1 := webS_ok ok T hne (i + 1)
  cases q : (webS l ns i)[i]? with
  | none =>
   have e1 : webS l ns (i + 1) = webS l ns i := by rw [webS, q]
   have hl : (webS l ns i).length ≤ i := by
    by_cases z : i < (webS l ns i).length
    ·rw [List.getElem?_eq_getElem z] at q; cases q
    ·omega
   rw [e1]
   refine ⟨ih.mono, fun e d he => ?_, fun j e d hj he => ?_⟩
   ·rw [List.getElem?_eq_none (by omega)] at he; cases he
   ·have := (List.getElem?_eq_some_iff.mp he).1
    exact ih.done j e d (by omega) he
  | some e =>
   obtain ⟨d, hd1, hd2⟩ := row_of E.nd q
   have L0 : Lvl (webS l ns i) d := ⟨ih.mono, ih.here e d q hd2⟩
   have e1 := webS_next q
   have pre := webS_pre1 l ns i
   obtain ⟨L1, M1⟩ := Lvl.scan (mvs l e.1) L0 hd2
   rw [← e1] at L1 M1
   have rp := rowsE_pre pre
   have hrow : (rowsE (webS l ns (i + 1)))[i]? = some (e.1, d) := by
    obtain ⟨z, hz⟩ := rp
    rw [← hz, List.getElem?_append_left (List.getElem?_eq_some_iff.mp hd1).1]
    exact hd1
   refine ⟨L1.mono, fun e' d' he' hd' r hr => ?_, fun j e' d' hj he' hd' m hm => ?_⟩
   ·obtain ⟨d2, h1, h2⟩ := row_of E1.nd he'
    rw [hd'] at h2
    cases h2
    have a := pw_get L1.mono (Nat.lt_succ_self i) hrow h1
    have b := L1.top r hr
    have a : d ≤ d' := a
    omega
   ·by_cases hji : j < i
    ·have hlen : j < (webS l ns i).length := by have := (List.getElem?_eq_some_iff.mp q).1; omega
     have he0 : (webS l ns i)[j]? = some e' := by
      obtain ⟨z, hz⟩ := pre
      rw [← hz, List.getElem?_append_left hlen] at he'
      exact he'
     obtain ⟨d3, _, h3⟩ := row_of E.nd he0
     have := lookR_pre rp h3
     rw [hd'] at this
     cases this
     obtain ⟨n, hn, hle⟩ := ih.done j e' d' hji he0 h3 m hm
     exact ⟨n, lookR_pre rp hn, hle⟩
    ·have ej : j = i := by omega
     subst ej
     have he0 : (webS l ns (j + 1))[j]? = some e := by
      obtain ⟨z, hz⟩ := pre
      rw [← hz, List.getElem?_append_left (List.getElem?_eq_some_iff.mp q).1]
      exact q
     rw [he0] at he'
     cases he'
     have := lookR_pre rp hd2
     rw [hd'] at this
     cases this
     exact M1 m hm
theorem web_areN {l : Ln} {ns : List Int} (ok : LineOk l) (T : TrOk l ns) (hne : ns ≠ []) {i : Nat} (hi : (webS l ns i).length = i) : areN l ns (rowsE (webS l ns i)) := by
 have W := webN ok T hne i
 have E := webS_ok ok T hne i
 refine ⟨⟨by rw [rowsE_fst]; exact E.nd, fun s hs => ?_⟩, ?_, fun r hr m hm => ?_⟩
 ·rw [rowsE_fst] at hs
  obtain ⟨e, he, rfl⟩ := List.mem_map.mp hs
  obtain ⟨a, b, c⟩ := E.tr e he
  exact ⟨b, c, a⟩
 ·have h0 : webS l ns 0 <+: webS l ns i := by have := webS_pre l ns 0 i; rwa [Nat.zero_add] at this
  exact lookR_pre (rowsE_pre h0) (show lookR [(ns, 0)] ns = some 0 from lookR_new (rows := []) (by simp))
 ·obtain ⟨j, hj, e⟩ := List.mem_iff_getElem.mp hr
  have hjl : j < (webS l ns i).length := by rw [← rowsE_len]; exact hj
  obtain ⟨d, h1, h2⟩ := row_of E.nd (List.getElem?_eq_getElem hjl)
  rw [List.getElem?_eq_getElem hj, e] at h1
  cases h1
  exact W.done j _ d (by omega) (List.getElem?_eq_getElem hjl) h2 m hm
theorem web_shut {l : Ln} {ns : List Int} (ok : LineOk l) (T : TrOk l ns) (hne : ns ≠ []) {i : Nat} (hi : (webS l ns i).length = i) : shutL l ns ((webS l ns i).map (·.1)) := by
 have := (areN_iff.mp (web_areN ok T hne hi)).1
 rwa [rowsE_fst] at this
theorem row_num {es : List Ent} {n : Nat} {e : Ent} (h : es[n]? = some e) : (rowsE es)[n]? = some (e.1, num1 (rowsE (es.take n)) e) := by
 have hl := (List.getElem?_eq_some_iff.mp h).1
 have e1 : es.take (n + 1) = es.take n ++ [e] := by rw [List.take_add_one, h]; rfl
 have hp := rowsE_pre (List.take_prefix (n + 1) es)
 rw [e1, rowsE_snoc] at hp
 obtain ⟨z, hz⟩ := hp
 have ln : (rowsE (es.take n)).length = n := by rw [rowsE_len, List.length_take]; omega
 rw [← hz, List.append_assoc, List.getElem?_append_right (by omega), ln, Nat.sub_self]
 rfl
theorem path_len {es : List Ent} (nd : (es.map (·.1)).Nodup) (bk : Backs es) : ∀ {t : List Int} {run : List (Str × Int)}, PathTo es t run → lookR (rowsE es) t = some (run.length : Int) := by
 intro t run h
 induction h with
 | @nil t hm =>
  obtain ⟨j, hj, e⟩ := List.mem_iff_getElem.mp hm
  have q : es[j]? = some (t, none) := by rw [List.getElem?_eq_getElem hj, e]
  have := row_num q
  exact lookR_mem (r := (t, 0)) (by rw [rowsE_fst]; exact nd) (List.mem_of_getElem? this)
 | @snoc t' t k r hm _ ih =>
  obtain ⟨j, hj, e⟩ := List.mem_iff_getElem.mp hm
  have q : es[j]? = some (t', some (t, k)) := by rw [List.getElem?_eq_getElem hj, e]
  have h1 := row_num q
  obtain ⟨i, e1, hi, he1, ee⟩ := bk.back j t' t k q
  have hin : t ∈ (rowsE (es.take j)).map (·.1) := by
   rw [rowsE_fst]
   refine List.mem_map.mpr ⟨e1, ?_, ee⟩
   exact List.mem_of_getElem? (by rw [List.getElem?_take, if_pos hi]; exact he1)
  obtain ⟨x, hx⟩ := lookR_in hin
  have hx2 := lookR_pre (rowsE_pre (List.take_prefix j es)) hx
  rw [ih] at hx2
  have e3 : num1 (rowsE (es.take j)) (t', some (t, k)) = ((r ++ [k]).length : Int) := by
   show (lookR (rowsE (es.take j)) t).getD 0 + 1 = _
   rw [hx, ← Option.some.inj hx2, List.length_append]
   show (r.length : Int) + 1 = ((r.length + 1 : Nat) : Int)
   omega
  rw [e3] at h1
  exact lookR_mem (r := (t', _)) (by rw [rowsE_fst]; exact nd) (List.mem_of_getElem? h1)
end TL
namespace TL
open PySem PySem.Spec PyProof.Rows L2
theorem for_any {J : It} {g : TG} {tb : TS} {D : Ends} {σ : L2.St} {H : Hp} (n : Nat) (Pv : Nat → L2.St → Hp → Prop) (h0 : Pv 0 σ H) (go : ∀ i σ H, i < n → Pv i σ H → J.go i H) (st : ∀ σ H, Pv n σ H → J.stop n H)
  (hs : ∀ i x σ H H', i < n → Pv i σ H → J.yld i H x H' → g x σ H' fun σ2 H2 => tb { D with nx := Pv (i + 1), ct := Pv (i + 1), bk := D.nx } σ2 H2) (hd : ∀ σ H, Pv n σ H → D.nx σ H) :
  ∃ W : Nat → Nat → L2.St → Hp → Prop, (∃ m, W 0 m σ H) ∧ ∀ i m σ H, W i m σ H →
   (J.stop i H ∧ D.nx σ H) ∨ (J.go i H ∧ ∃ N : L2.St → Hp → Prop, (∀ σ' H', N σ' H' → ∃ m', m' < m ∧ W (i + 1) m' σ' H') ∧ ∀ x H', J.yld i H x H' → g x σ H' fun σ2 H2 => tb { D with nx := N, ct := N, bk := D.nx } σ2 H2) := by
 refine ⟨fun i m σ H => m = n - i ∧ i ≤ n ∧ Pv i σ H, ⟨n, by simp, Nat.zero_le _, h0⟩, ?_⟩
 rintro i m σ H ⟨rfl, hi, p⟩
 by_cases hlt : i < n
 ·exact .inr ⟨go i σ H hlt p, Pv (i + 1), fun σ' H' p' => ⟨n - (i + 1), by omega, rfl, hlt, p'⟩, fun x H' y => hs i x σ H H' hlt p y⟩
 ·have e : i = n := by omega
  subst e
  exact .inl ⟨st σ H p, hd σ H p⟩
theorem Dgs.rev {L T : Addr → List V → Prop} : ∀ {ds : List PyData} {vs : List V}, Dgs L T ds vs → Dgs L T ds.reverse vs.reverse
 | [], _, h => by rw [dgs_nil.mp h]; exact dgs_nil.mpr rfl
 | d :: ds, _, h => by
  obtain ⟨v, r, rfl, h1, h2⟩ := dgs_cons.mp h
  rw [List.reverse_cons, List.reverse_cons]
  exact Dgs.append (Dgs.rev h2) (Dgs.one h1)
theorem valV_at {κ : Type} [DecidableEq κ] {kvs : List (κ × V)} {j : Nat} {k : κ} {v : V} (nd : (kvs.map (·.1)).Nodup) (h : kvs[j]? = some (k, v)) : valV kvs k = some v := by
 unfold valV
 obtain ⟨hj, e⟩ := List.getElem?_eq_some_iff.mp h
 have : kvs.find? (fun kv => decide (kv.1 = k)) = some (k, v) := by
  rw [List.find?_eq_some_iff_getElem]
  refine ⟨by simp, j, hj, e, fun i hi => ?_⟩
  have h1 : (kvs[i]'(by omega)).1 ≠ k := fun z => by
   have h2 : (kvs.map (·.1))[i]'(by rw [List.length_map]; omega) = (kvs.map (·.1))[j]'(by rw [List.length_map]; omega) := by
    rw [List.getElem_map, List.getElem_map, z, e]
   have := (List.getElem_inj nd).mp h2
   omega
  simpa using h1
 rw [this]; rfl
end TL
namespace TL
open PySem PySem.Spec PyProof.Rows L2 TS
theorem big_l {n : Nat} (h : n ≤ 10000000) : n < sizeLine := Nat.lt_of_le_of_lt h (by decide)
theorem sqt_updD {K : PySem.W.Frag} {H : Hp} {t b : Addr} {kvs : List (List Key × V)} {xs : List V} {o : HO} (ht : H t = some (.dT kvs)) (h : SqT K H b xs) : SqT K (upd H t o) b xs := by
 rcases h with (h | ⟨o, h⟩) | h
 ·exact .inl (.inl (by rw [upd_ne (ne_of h ht (by intro z; cases z))]; exact h))
 ·exact .inl (.inr ⟨o, by rw [upd_ne (ne_of h ht (by intro z; cases z))]; exact h⟩)
 ·exact .inr h
def StepV (K : PySem.W.Frag) (H : Hp) (e : Ent) (v : V) : Prop := match e.2 with
 | none => v = .non
 | some (t, k) => ∃ a b c, v = .ref a ∧ H a = some (.tup [.ref b, .ref c]) ∧ H b = some (.tup (t.map V.int)) ∧ SqT K H c [.str k.1, .int k.2]
theorem StepV.same {K : PySem.W.Frag} {H H' : Hp} {e : Ent} {v : V} (h : StepV K H e v) (s : Same H H') : StepV K H' e v := by
 unfold StepV at h ⊢
 split at h
 ·exact h
 ·obtain ⟨a, b, c, h1, h2, h3, h4⟩ := h
  exact ⟨a, b, c, h1, s _ _ h2, s _ _ h3, same_tseq s h4⟩
theorem StepV.updL {K : PySem.W.Frag} {H : Hp} {e : Ent} {v : V} {p : Addr} {vs : List V} {o : HO} (h : StepV K H e v) (hp : H p = some (.lst vs)) : StepV K (upd H p o) e v := by
 unfold StepV at h ⊢
 split at h
 ·exact h
 ·obtain ⟨a, b, c, h1, h2, h3, h4⟩ := h
  exact ⟨a, b, c, h1, by rw [upd_ne (ne_of h2 hp (by intro z; cases z))]; exact h2, by rw [upd_ne (ne_of h3 hp (by intro z; cases z))]; exact h3, sqt_upd hp h4⟩
theorem StepV.updD {K : PySem.W.Frag} {H : Hp} {e : Ent} {v : V} {p : Addr} {kvs : List (List Key × V)} {o : HO} (h : StepV K H e v) (hp : H p = some (.dT kvs)) : StepV K (upd H p o) e v := by
 unfold StepV at h ⊢
 split at h
 ·exact h
 ·obtain ⟨a, b, c, h1, h2, h3, h4⟩ := h
  exact ⟨a, b, c, h1, by rw [upd_ne (ne_of h2 hp (by intro z; cases z))]; exact h2, by rw [upd_ne (ne_of h3 hp (by intro z; cases z))]; exact h3, sqt_updD hp h4⟩
structure StepD (K : PySem.W.Frag) (H : Hp) (d : Addr) (es : List Ent) (vs : List V) : Prop where
 at_ : H d = some (.dT ((es.zip vs).map fun p => (kyI p.1.1, p.2)))
 len : vs.length = es.length
 each : ∀ (i : Nat) e v, es[i]? = some e → vs[i]? = some v → StepV K H e v
theorem StepD.same {K : PySem.W.Frag} {H H' : Hp} {d : Addr} {es : List Ent} {vs : List V} (h : StepD K H d es vs) (s : Same H H') : StepD K H' d es vs :=
 ⟨s _ _ h.at_, h.len, fun i e v h1 h2 => (h.each i e v h1 h2).same s⟩
theorem keys_zip {es : List Ent} {vs : List V} (hl : vs.length = es.length) : ((es.zip vs).map fun p => (kyI p.1.1, p.2)).map (·.1) = es.map fun e => kyI e.1 := by
 rw [List.map_map]
 refine List.ext_getElem? fun i => ?_
 rw [List.getElem?_map, List.getElem?_map]
 by_cases hi : i < es.length
 ·rw [List.getElem?_eq_getElem (by rw [List.length_zip]; omega), List.getElem?_eq_getElem hi, List.getElem_zip]; rfl
 ·rw [List.getElem?_eq_none (by rw [List.length_zip]; omega), List.getElem?_eq_none (by omega)]; rfl
theorem valV_some {κ : Type} [DecidableEq κ] {kvs : List (κ × V)} {k : κ} : (valV kvs k).isSome = decide (k ∈ kvs.map (·.1)) := by
 rw [← valV_any, Bool.eq_iff_iff, List.any_eq_true, decide_eq_true_iff, List.mem_map]
 constructor
 ·rintro ⟨p, h1, h2⟩; exact ⟨p, h1, by simpa using h2⟩
 ·rintro ⟨p, h1, h2⟩; exact ⟨p, h1, by simpa using h2⟩
theorem StepD.mem {K : PySem.W.Frag} {H : Hp} {d : Addr} {es : List Ent} {vs : List V} (h : StepD K H d es vs) (t : List Int) : (valV ((es.zip vs).map fun p => (kyI p.1.1, p.2)) (kyI t)).isSome = decide (t ∈ es.map (·.1)) := by
 rw [valV_some, keys_zip h.len]
 congr 1
 refine propext ⟨fun z => ?_, fun z => ?_⟩
 ·obtain ⟨e, h1, h2⟩ := List.mem_map.mp z
  exact List.mem_map.mpr ⟨e, h1, kyI_inj h2⟩
 ·obtain ⟨e, h1, h2⟩ := List.mem_map.mp z
  exact List.mem_map.mpr ⟨e, h1, by rw [h2]⟩
structure Ord (H : Hp) (p : Addr) (as : List Addr) (es : List Ent) : Prop where
 at_ : H p = some (.lst (as.map V.ref))
 len : as.length = es.length
 each : ∀ (i : Nat) b e, as[i]? = some b → es[i]? = some e → H b = some (.tup (e.1.map V.int))
theorem Ord.same {H H' : Hp} {p : Addr} {as : List Addr} {es : List Ent} (h : Ord H p as es) (s : Same H H') : Ord H' p as es :=
 ⟨s _ _ h.at_, h.len, fun i b e h1 h2 => s _ _ (h.each i b e h1 h2)⟩
theorem push_step {K : PySem.W.Frag} {H : Hp} {d p st tp ta tm : Addr} {es : List Ent} {vs : List V} {as : List Addr} {t t' : List Int} {k : Str × Int} (hs : StepD K H d es vs) (ho : Ord H p as es) (hst : H st = some (.tup (t'.map V.int)))
  (htp : H tp = some (.tup [.ref ta, .ref tm])) (hta : H ta = some (.tup (t.map V.int))) (htm : SqT K H tm [.str k.1, .int k.2]) (hn : t' ∉ es.map (·.1)) :
  StepD K (upd (upd H d (.dT (putK ((es.zip vs).map fun p => (kyI p.1.1, p.2)) (kyI t') (.ref tp)))) p (.lst (as.map V.ref ++ [V.ref st]))) d (es ++ [(t', some (t, k))]) (vs ++ [.ref tp]) ∧
  Ord (upd (upd H d (.dT (putK ((es.zip vs).map fun p => (kyI p.1.1, p.2)) (kyI t') (.ref tp)))) p (.lst (as.map V.ref ++ [V.ref st]))) p (as ++ [st]) (es ++ [(t', some (t, k))]) := by
 have hd := hs.at_
 have hp := ho.at_
 have dp : d ≠ p := ne_of hd hp (by intro z; cases z)
 have hv : valV ((es.zip vs).map fun p => (kyI p.1.1, p.2)) (kyI t') = none := by
  have := hs.mem t'
  rw [decide_eq_false hn] at this
  exact Option.isNone_iff_eq_none.mp (by rw [← Option.not_isSome, this]; rfl)
 have e1 : putK ((es.zip vs).map fun p => (kyI p.1.1, p.2)) (kyI t') (.ref tp) = ((es ++ [(t', some (t, k))]).zip (vs ++ [V.ref tp])).map fun p => (kyI p.1.1, p.2) := by
  rw [putK_new _ hv, List.zip_append hs.len.symm, List.map_append]; rfl
 have hp1 : upd H d (.dT (putK ((es.zip vs).map fun p => (kyI p.1.1, p.2)) (kyI t') (.ref tp))) p = some (.lst (as.map V.ref)) := by rw [upd_ne (Ne.symm dp)]; exact hp
 have ht : ∀ b xs, H b = some (.tup xs) → upd (upd H d (.dT (putK ((es.zip vs).map fun p => (kyI p.1.1, p.2)) (kyI t') (.ref tp)))) p (.lst (as.map V.ref ++ [V.ref st])) b = some (.tup xs) := fun b xs q => by
  rw [upd_ne (ne_of q hp (by intro z; cases z)), upd_ne (ne_of q hd (by intro z; cases z))]; exact q
 refine ⟨⟨by rw [upd_ne dp, upd_same, e1], by rw [List.length_append, List.length_append, hs.len]; rfl, fun i e v he hv => ?_⟩, ⟨by rw [upd_same, List.map_append]; rfl, by rw [List.length_append, List.length_append, ho.len]; rfl, fun i b e hb he => ?_⟩⟩
 ·by_cases hi : i < es.length
  ·rw [List.getElem?_append_left hi] at he
   rw [List.getElem?_append_left (by rw [hs.len]; exact hi)] at hv
   exact ((hs.each i e v he hv).updD hd).updL hp1
  ·have hi2 : i = es.length := by
    have := (List.getElem?_eq_some_iff.mp he).1
    rw [List.length_append, List.length_singleton] at this
    omega
   rw [hi2, List.getElem?_append_right (Nat.le_refl _), Nat.sub_self] at he
   rw [hi2, ← hs.len, List.getElem?_append_right (Nat.le_refl _), Nat.sub_self] at hv
   cases he
   cases hv
   exact ⟨tp, ta, tm, rfl, ht _ _ htp, ht _ _ hta, sqt_upd hp1 (sqt_updD hd htm)⟩
 ·by_cases hi : i < es.length
  ·rw [List.getElem?_append_left hi] at he
   rw [List.getElem?_append_left (by rw [ho.len]; exact hi)] at hb
   exact ht _ _ (ho.each i b e hb he)
  ·have hi2 : i = es.length := by
    have := (List.getElem?_eq_some_iff.mp he).1
    rw [List.length_append, List.length_singleton] at this
    omega
   rw [hi2, List.getElem?_append_right (Nat.le_refl _), Nat.sub_self] at he
   rw [hi2, ← ho.len, List.getElem?_append_right (Nat.le_refl _), Nat.sub_self] at hb
   cases he
   cases hb
   exact ht _ _ hst
theorem hid_tupD {K : PySem.W.Frag} {p a : Addr} {H : Hp} {kvs : List (List Key × V)} {xs : List V} (hp : H p = some (.dT kvs)) (h : SqT K H a xs) : SqT K (hid p H) a xs := by
 rcases h with (h | ⟨o, h⟩) | h
 ·exact .inl (.inl (by rw [hid_ne (ne_of h hp (by intro z; cases z))]; exact h))
 ·exact .inl (.inr ⟨o, by rw [hid_ne (ne_of h hp (by intro z; cases z))]; exact h⟩)
 ·exact .inr h
abbrev hid2 (d p : Addr) (H : Hp) : Hp := hid p (hid d H)
theorem hid2_tup {K : PySem.W.Frag} {d p a : Addr} {H : Hp} {kvs : List (List Key × V)} {vs xs : List V} (hd : H d = some (.dT kvs)) (hp : H p = some (.lst vs)) (h : SqT K H a xs) : SqT K (hid2 d p H) a xs := by
 have dp : p ≠ d := ne_of hp hd (by intro z; cases z)
 exact hid_tup (vs := vs) (by rw [hid_ne dp]; exact hp) (hid_tupD hd h)
theorem hid2_ne {d p a : Addr} {H : Hp} (h1 : a ≠ d) (h2 : a ≠ p) : hid2 d p H a = H a := by show hid p (hid d H) a = H a; rw [hid_ne h2, hid_ne h1]
theorem hid2_upd {d p : Addr} {H H' : Hp} {o o' : HO} (s : Same (hid2 d p H) H') : Same (hid2 d p H) (upd (upd H' d o) p o') := fun b u h => by
 by_cases e1 : b = p
 ·subst e1; have h : hid b (hid d H) b = some u := h; rw [hid_self] at h; cases h
 ·have h' : hid p (hid d H) b = some u := h
  rw [hid_ne e1] at h'
  by_cases e2 : b = d
  ·subst e2; rw [hid_self] at h'; cases h'
  ·rw [upd_ne e1, upd_ne e2]; exact s _ _ h
structure Fresh (H H' : Hp) (p : Addr) (bs : List Addr) (ts : List (List Int)) : Prop where
 same : Same H H'
 new : H p = none
 at_ : H' p = some (.lst (bs.map V.ref))
 len : bs.length = ts.length
 each : ∀ (i : Nat) b t, bs[i]? = some b → ts[i]? = some t → H b = none ∧ b ≠ p ∧ H' b = some (.lst (t.map V.int))
 nd : bs.Nodup
theorem Fresh.pre {H0 H H' : Hp} {p : Addr} {bs : List Addr} {ts : List (List Int)} (s : Same H0 H) (h : Fresh H H' p bs ts) : Fresh H0 H' p bs ts :=
 ⟨s.trans h.same, Same.free s h.new, h.at_, h.len, fun i b t h1 h2 => ⟨Same.free s (h.each i b t h1 h2).1, (h.each i b t h1 h2).2⟩, h.nd⟩
structure OrdL (H : Hp) (p : Addr) (as : List Addr) (es : List Ent) : Prop where
 at_ : H p = some (.lst (as.map V.ref))
 len : as.length = es.length
 each : ∀ (i : Nat) b e, as[i]? = some b → es[i]? = some e → b ≠ p ∧ H b = some (.lst (e.1.map V.int))
theorem OrdL.same {H H' : Hp} {p : Addr} {as : List Addr} {es : List Ent} (h : OrdL H p as es) (s : Same H H') : OrdL H' p as es :=
 ⟨s _ _ h.at_, h.len, fun i b e h1 h2 => ⟨(h.each i b e h1 h2).1, s _ _ (h.each i b e h1 h2).2⟩⟩
theorem OrdL.get {H : Hp} {p : Addr} {as : List Addr} {es : List Ent} (h : OrdL H p as es) {i : Nat} {e : Ent} (he : es[i]? = some e) : ∃ b, as[i]? = some b ∧ b ≠ p ∧ H b = some (.lst (e.1.map V.int)) := by
 have hi : i < as.length := by rw [h.len]; exact (List.getElem?_eq_some_iff.mp he).1
 exact ⟨as[i], List.getElem?_eq_getElem hi, h.each i _ e (List.getElem?_eq_getElem hi) he⟩
theorem OrdL.da {K : PySem.W.Frag} {H : Hp} {p : Addr} {as : List Addr} {es : List Ent} (h : OrdL H p as es) : Da K H (dLI (es.map (·.1))) (.ref p) :=
 dg_list.mpr ⟨p, _, rfl, SqL.of h.at_, refs_da (by rw [List.length_map]; exact h.len) fun i b t h1 h2 => by
  rw [List.getElem?_map] at h2
  cases q : es[i]? with
  | none => rw [q] at h2; cases h2
  | some e => rw [q] at h2; cases h2; exact (h.each i b e h1 q).2⟩
theorem Fresh.da {K : PySem.W.Frag} {H H' H'' : Hp} {p : Addr} {bs : List Addr} {ts : List (List Int)} (h : Fresh H H' p bs ts) (s : Same H' H'') : Da K H'' (dLI ts) (.ref p) :=
 dg_list.mpr ⟨p, _, rfl, SqL.of (s _ _ h.at_), refs_da h.len fun i b t h1 h2 => s _ _ (h.each i b t h1 h2).2.2⟩
theorem web_two {l : Ln} {ns : List Int} {i j : Nat} (hi : (webS l ns i).length = i) (hj : (webS l ns j).length = j) : webS l ns i = webS l ns j := by
 rcases Nat.le_total i j with z | z
 ·obtain ⟨k, rfl⟩ := Nat.exists_eq_add_of_le z
  exact (webS_stop (by omega) k).symm
 ·obtain ⟨k, rfl⟩ := Nat.exists_eq_add_of_le z
  exact webS_stop (by omega) k
theorem web_le {l : Ln} {ns : List Int} {i : Nat} (hi : (webS l ns i).length = i) (j : Nat) : (webS l ns j).length ≤ i := by
 rcases Nat.le_total i j with z | z
 ·obtain ⟨k, rfl⟩ := Nat.exists_eq_add_of_le z
  rw [webS_stop (by omega) k]; omega
 ·obtain ⟨k, hk⟩ := Nat.exists_eq_add_of_le z
  have := (webS_pre l ns j k).length_le
  rw [← hk] at this
  omega
theorem zip_at {α β : Type} {xs : List α} {ys : List β} {i : Nat} {x : α} {y : β} (h1 : xs[i]? = some x) (h2 : ys[i]? = some y) : (xs.zip ys)[i]? = some (x, y) := List.getElem?_zip_eq_some.mpr ⟨h1, h2⟩
theorem keys_nd {es : List Ent} (nd : (es.map (·.1)).Nodup) : (es.map fun e => kyI e.1).Nodup := by
 have : (es.map fun e => kyI e.1) = (es.map (·.1)).map kyI := by rw [List.map_map]; rfl
 rw [this]
 unfold List.Nodup at nd ⊢
 rw [List.pairwise_map]
 exact nd.imp fun h z => h (kyI_inj z)
theorem StepD.get {K : PySem.W.Frag} {H : Hp} {d : Addr} {es : List Ent} {us : List V} (h : StepD K H d es us) (nd : (es.map (·.1)).Nodup) {j : Nat} {e : Ent} {v : V} (he : es[j]? = some e) (hv : us[j]? = some v) : valV ((es.zip us).map fun p => (kyI p.1.1, p.2)) (kyI e.1) = some v := by
 refine valV_at (j := j) ?_ ?_
 ·rw [keys_zip h.len]; exact keys_nd nd
 ·rw [List.getElem?_map, zip_at he hv]; rfl
theorem upd_comm {H : Hp} {a b : Addr} {o o' : HO} (h : a ≠ b) : upd (upd H a o) b o' = upd (upd H b o') a o := by
 funext c
 by_cases e1 : c = a
 ·subst e1; rw [upd_ne h, upd_same, upd_same]
 ·by_cases e2 : c = b
  ·subst e2; rw [upd_same, upd_ne e1, upd_same]
  ·rw [upd_ne e2, upd_ne e1, upd_ne e1, upd_ne e2]
theorem t_yes {σ : L2.St} {H : Hp} {te : TE} {P1 : VK} {P0 : Hp → Prop} (h : te σ H P1) : tYes σ H (fun b H3 => if b = true then te σ H3 P1 else P0 H3) := iteT (A := te σ H P1) (B := P0 H) h
end TL
namespace TL
open PySem PySem.Spec PyProof.Rows L2 TS
def Row1N (H0 H : Hp) (r : List Int × Int) (v : V) : Prop := ∃ ad a, v = .ref ad ∧ H ad = some (.tup [.ref a, .int r.2]) ∧ H a = some (.lst (r.1.map V.int)) ∧ H0 a = none
theorem Row1N.mono {H0 H H' : Hp} (r : List Int × Int) (v : V) (s : Same H H') (h : Row1N H0 H r v) : Row1N H0 H' r v := h.imp fun _ h => h.imp fun _ h => ⟨h.1, s _ _ h.2.1, s _ _ h.2.2.1, h.2.2.2⟩
theorem Row1N.row {H0 H : Hp} (r : List Int × Int) (v : V) (h : Row1N H0 H r v) : Row1 H r v := h.imp fun _ h => h.imp fun _ h => ⟨h.1, h.2.1, h.2.2.1⟩
theorem Row1N.pre {H00 H0 H : Hp} (s : Same H00 H0) (r : List Int × Int) (v : V) (h : Row1N H0 H r v) : Row1N H00 H r v := h.imp fun _ h => h.imp fun _ h => ⟨h.1, h.2.1, h.2.2.1, Same.free s h.2.2.2⟩
theorem Row1N.updF {H0 H : Hp} {n : Addr} {o : Obj} {x : HO} {y : HO} (r : List Int × Int) (v : V) (hn : H n = some (.frz o x)) (h : Row1N H0 H r v) : Row1N H0 (upd H n y) r v := by
 obtain ⟨ad, a, e, h1, h2, h3⟩ := h
 exact ⟨ad, a, e, by rw [upd_ne (ne_of h1 hn (by intro z; cases z))]; exact h1, by rw [upd_ne (ne_of h2 hn (by intro z; cases z))]; exact h2, h3⟩
structure RowsN (H0 H : Hp) (q : Addr) (rows : Rows) (vs : List V) : Prop where
 at_ : H q = some (.lst vs)
 new : H0 q = none
 pw : Pw (Row1N H0 (hid q H)) rows vs
theorem RowsN.rows {H0 H : Hp} {q : Addr} {rows : Rows} {vs : List V} (h : RowsN H0 H q rows vs) : RowsAt H q rows vs := ⟨h.at_, h.pw.imp Row1N.row⟩
theorem RowsN.same {H0 H H' : Hp} {q : Addr} {rows : Rows} {vs : List V} (h : RowsN H0 H q rows vs) (s : Same H H') : RowsN H0 H' q rows vs := ⟨s _ _ h.at_, h.new, h.pw.imp fun r v => Row1N.mono r v (hid_mono s)⟩
theorem RowsN.pre {H00 H0 H : Hp} {q : Addr} {rows : Rows} {vs : List V} (h : RowsN H0 H q rows vs) (s : Same H00 H0) : RowsN H00 H q rows vs := ⟨h.at_, Same.free s h.new, h.pw.imp (Row1N.pre s)⟩
open Classical in
noncomputable def hidA (p : Addr → Prop) (H : Hp) : Hp := fun b => if p b then none else H b
theorem hidA_ne {p : Addr → Prop} {H : Hp} {b : Addr} (h : ¬ p b) : hidA p H b = H b := by unfold hidA; rw [if_neg h]
theorem hidA_in {p : Addr → Prop} {H : Hp} {b : Addr} (h : p b) : hidA p H b = none := by unfold hidA; rw [if_pos h]
theorem hidA_same {p : Addr → Prop} {H : Hp} : Same (hidA p H) H := fun b u h => by
 by_cases z : p b
 ·rw [hidA_in z] at h; cases h
 ·rw [hidA_ne z] at h; exact h
theorem hidA_updS {p : Addr → Prop} {G H : Hp} {a : Addr} {o : HO} (h : p a) (s : Same (hidA p G) H) : Same (hidA p G) (upd H a o) := fun b u hb => by
 by_cases z : p b
 ·rw [hidA_in z] at hb; cases hb
 ·rw [upd_ne fun e => z (by rw [e]; exact h)]; exact s _ _ hb
end TL
namespace TL
open PySem PySem.Spec PyProof.Rows L2
theorem fr_iff {l : Ln} {ns : List Int} {e x : Int} : x ∈ fr l ns e ↔ x ∈ jn l.2 e ∧ x / 2 ∉ ns.map (· / 2) := by
 unfold fr
 rw [List.mem_filter]
 constructor
 ·rintro ⟨h1, h2⟩; exact ⟨h1, by simpa using h2⟩
 ·rintro ⟨h1, h2⟩; exact ⟨h1, by simpa using h2⟩
theorem undo_back {l : Ln} {ns : List Int} {e : Int} (ok : LineOk l) (T : TrOk l ns) (hne : ns ≠ []) (he : e ∈ fr l ns (ns.headD 0)) : (((("on" : Str), ns.getLastD 0), ns) : Mv) ∈ mvs l (oth e :: ns.dropLast) := by
 obtain ⟨h1, h2⟩ := fr_mem he
 obtain ⟨r, z, rfl⟩ : ∃ r z, ns = r ++ [z] := ⟨ns.dropLast, ns.getLast hne, (List.dropLast_concat_getLast hne).symm⟩
 have hz : (r ++ [z]).getLastD 0 = z := by simp
 have hd : (r ++ [z]).dropLast = r := by simp
 rw [hz, hd]
 refine List.mem_append.mpr (.inl (List.mem_map.mpr ⟨z, fr_iff.mpr ⟨?_, ?_⟩, ?_⟩))
 ·rcases List.eq_nil_or_concat r with e1 | ⟨r', y, e1⟩
  ·subst e1
   show z ∈ jn l.2 (oth (oth e))
   rw [oth_oth]
   exact jn_symm ok h1
  ·rw [List.concat_eq_append] at e1
   subst e1
   have : (oth e :: (r' ++ [y])).getLastD 0 = y := by rw [← List.cons_append, List.getLastD_eq_getLast?, List.getLast?_concat]; rfl
   rw [this]
   exact T.ch r'.length y z (by simp) (by simp)
 ·intro q
  rw [List.map_cons, oth_half] at q
  rcases List.mem_cons.mp q with q | q
  ·exact h2 (by rw [← q]; simp)
  ·have nd := T.nd
   rw [List.map_append, List.nodup_append] at nd
   exact nd.2.2 _ q (z / 2) (by simp) rfl
 ·unfold onM; simp
end TL
namespace TL
open PySem PySem.Spec PyProof.Rows L2
theorem mvs_det {l : Ln} {ns : List Int} {m m' : Mv} (h : m ∈ mvs l ns) (h' : m' ∈ mvs l ns) (e : m.1 = m'.1) : m.2 = m'.2 := by
 have hw : (Str.ofString "on") ≠ Str.ofString "back" := by decide +kernel
 rcases List.mem_append.mp h with z | z <;> rcases List.mem_append.mp h' with z' | z' <;>
  obtain ⟨x, _, rfl⟩ := List.mem_map.mp z <;> obtain ⟨x', _, rfl⟩ := List.mem_map.mp z'
 ·have : x = x' := congrArg Prod.snd e
  rw [this]
 ·exact absurd (congrArg Prod.fst e) hw
 ·exact absurd (congrArg Prod.fst e).symm hw
 ·have : x = x' := congrArg Prod.snd e
  rw [this]
theorem fnd_mem {l : Ln} {ns : List Int} {m : Mv} (h : m ∈ mvs l ns) : fnd (mvs l ns) m.1 = some m.2 := by
 unfold fnd
 cases q : (mvs l ns).find? (fun n => decide (n.1 = m.1)) with
 | none => exact absurd (List.find?_eq_none.mp q m h) (by simp)
 | some n =>
  have h1 := List.mem_of_find?_eq_some q
  have h2 : n.1 = m.1 := by simpa using List.find?_some q
  show some n.2 = some m.2
  rw [mvs_det h1 h h2]
end TL
namespace TL
open PySem PySem.Spec PyProof.Rows L2 TS
def ByMoves (l : Ln) (ns : List Int) (es : List Ent) : Prop := ∀ e ∈ es, match e.2 with
 | none => e.1 = ns
 | some (t, k) => (k, e.1) ∈ mvs l t
theorem ByMoves.scan {l : Ln} {ns t : List Int} : ∀ {ms : List Mv} {es : List Ent}, (∀ m ∈ ms, m ∈ mvs l t) → ByMoves l ns es → ByMoves l ns (scanS t ms es)
 | [], _, _, h => h
 | m :: r, es, hm, h => by
  refine ByMoves.scan (ms := r) (fun x hx => hm x (List.mem_cons_of_mem _ hx)) ?_
  unfold add1
  split
  ·exact h
  ·intro e he
   rcases List.mem_append.mp he with z | z
   ·exact h e z
   ·rw [List.mem_singleton.mp z]
    exact hm m List.mem_cons_self
theorem webS_moves (l : Ln) (ns : List Int) : ∀ i, ByMoves l ns (webS l ns i)
 | 0 => fun e he => by have z : e = (ns, none) := (by simpa [webS] using he); rw [z]
 | i + 1 => by
  have ih := webS_moves l ns i
  rw [webS]
  split
  ·exact ByMoves.scan (fun m hm => hm) ih
  ·exact ih
structure Way (l : Ln) (ns : List Int) (run : List (Str × Int)) (bs : List (List Int)) : Prop where
 len : bs.length = run.length + 1
 first : bs[0]? = some ns
 step : ∀ (j : Nat) k b b', run[j]? = some k → bs[j]? = some b → bs[j + 1]? = some b' → (k, b') ∈ mvs l b
theorem Way.snoc {l : Ln} {ns : List Int} {run : List (Str × Int)} {bs : List (List Int)} {m : Mv} (h : Way l ns run bs) {b : List Int} (hb : bs[run.length]? = some b) (hm : m ∈ mvs l b) : Way l ns (run ++ [m.1]) (bs ++ [m.2]) := by
 refine ⟨by rw [List.length_append, List.length_append, h.len]; rfl, ?_, fun j k c c' hk hc hc' => ?_⟩
 ·rw [List.getElem?_append_left (by rw [h.len]; omega)]; exact h.first
 ·by_cases hj : j < run.length
  ·rw [List.getElem?_append_left hj] at hk
   rw [List.getElem?_append_left (by rw [h.len]; omega)] at hc hc'
   exact h.step j k c c' hk hc hc'
  ·have hj2 : j = run.length := by
    have := (List.getElem?_eq_some_iff.mp hk).1
    rw [List.length_append, List.length_singleton] at this
    omega
   subst hj2
   rw [List.getElem?_append_right (Nat.le_refl _), Nat.sub_self] at hk
   rw [List.getElem?_append_left (by rw [h.len]; omega), hb] at hc
   rw [List.getElem?_append_right (by rw [h.len]; omega), h.len, Nat.sub_self] at hc'
   cases hk; cases hc; cases hc'
   exact hm
theorem path_way {l : Ln} {ns : List Int} {es : List Ent} (bm : ByMoves l ns es) {t : List Int} {run : List (Str × Int)} (h : PathTo es t run) : ∃ bs, Way l ns run bs ∧ bs[run.length]? = some t := by
 induction h with
 | @nil t hm =>
  have : t = ns := bm _ hm
  subst this
  exact ⟨[t], ⟨rfl, rfl, fun j k b b' hk => by simp at hk⟩, rfl⟩
 | @snoc t' t k r hm _ ih =>
  obtain ⟨bs, W, hb⟩ := ih
  have hk : (k, t') ∈ mvs l t := bm _ hm
  refine ⟨bs ++ [t'], W.snoc (m := (k, t')) hb hk, ?_⟩
  rw [List.length_append, List.length_singleton, List.getElem?_append_right (by rw [W.len]; omega), W.len, Nat.sub_self]
  rfl
end TL
namespace TL
open PySem PySem.Spec PyProof.Rows L2 TS
theorem ent_one {es : List Ent} (nd : (es.map (·.1)).Nodup) {a b : Ent} (ha : a ∈ es) (hb : b ∈ es) (e : a.1 = b.1) : a = b := by
 obtain ⟨i, hi, rfl⟩ := List.mem_iff_getElem.mp ha
 obtain ⟨j, hj, rfl⟩ := List.mem_iff_getElem.mp hb
 have h : (es.map (·.1))[i]'(by rw [List.length_map]; exact hi) = (es.map (·.1))[j]'(by rw [List.length_map]; exact hj) := by
  rw [List.getElem_map, List.getElem_map]; exact e
 have := (List.getElem_inj nd).mp h
 subst this
 rfl
theorem path_one {es : List Ent} (nd : (es.map (·.1)).Nodup) : ∀ {t : List Int} {run run' : List (Str × Int)}, PathTo es t run → PathTo es t run' → run = run' := by
 intro t run run' h
 induction h generalizing run' with
 | @nil t hm =>
  intro h'
  cases h' with
  | nil _ => rfl
  | snoc hm' _ => exact absurd (ent_one nd hm hm' rfl) (by intro z; injection z with _ z; cases z)
 | @snoc t' t k r hm _ ih =>
  intro h'
  cases h' with
  | nil hm' => exact absurd (ent_one nd hm hm' rfl) (by intro z; injection z with _ z; cases z)
  | snoc hm' h2 =>
   have e := ent_one nd hm hm' rfl
   injection e with _ e
   injection e with e
   injection e with e1 e2
   subst e1 e2
   rw [ih h2]
theorem hidA_tup {K : PySem.W.Frag} {p : Addr → Prop} {H : Hp} {a : Addr} {xs : List V} (hp : ∀ b, p b → ∃ ys, H b = some (.lst ys)) (h : SqT K H a xs) : SqT K (hidA p H) a xs := by
 have hn : ∀ {u : HO}, H a = some u → (∀ ys, u ≠ .lst ys) → ¬ p a := fun h1 h2 z => by
  obtain ⟨ys, hy⟩ := hp a z
  rw [h1] at hy
  exact h2 ys (Option.some.inj hy)
 rcases h with (h | ⟨o, h⟩) | h
 ·exact .inl (.inl (by rw [hidA_ne (hn h fun ys z => by cases z)]; exact h))
 ·exact .inl (.inr ⟨o, by rw [hidA_ne (hn h fun ys z => by cases z)]; exact h⟩)
 ·exact .inr h
theorem das_M_hidA {K : PySem.W.Frag} {p : Addr → Prop} {H : Hp} (hp : ∀ b, p b → ∃ ys, H b = some (.lst ys)) : ∀ {run : List (Str × Int)} {vs : List V}, Das K H (run.map dM) vs → Das K (hidA p H) (run.map dM) vs
 | [], vs, h => by cases dgs_nil.mp h; exact dgs_nil.mpr rfl
 | k :: r, vs, h => by
  obtain ⟨v, ws, rfl, h1, h2⟩ := dgs_cons.mp h
  obtain ⟨a, rfl, ha⟩ := da_M h1
  exact dgs_cons.mpr ⟨_, _, rfl, da_M' (hidA_tup hp ha), das_M_hidA hp h2⟩
end TL
namespace TL
open PySem L2 PyProof.Rows
structure UJ (l : Ln) : Prop where
 ok : LineOk l
 un : ∀ p ∈ l.2, p.1 / 2 ≠ p.2 / 2
theorem GLine.uj {l : Ln} (G : GLine l) : UJ l := ⟨G.lineOk, fun p hp => (G.ok p hp).2.2.2⟩
theorem UJ.jn {l : Ln} (U : UJ l) {e x : Int} (h : x ∈ jn l.2 e) : x / 2 ≠ e / 2 := by
 have hp := (jn_iff U.ok).mp h
 have := U.un _ hp
 rcases Int.le_total e x with z | z
 ·rw [Int.min_eq_left z, Int.max_eq_right z] at this; exact fun y => this y.symm
 ·rw [Int.min_eq_right z, Int.max_eq_left z] at this; exact this
def Ar (l : Ln) (e e' : Int) : Prop := e' ∈ jn l.2 (oth e) ∨ oth e' ∈ jn l.2 e
theorem Ar.symm {l : Ln} (ok : LineOk l) {e e' : Int} (h : Ar l e e') : Ar l e' e := by
 rcases h with h | h
 ·exact .inr (jn_symm ok h)
 ·exact .inl (jn_symm ok h)
theorem Ar.turn {l : Ln} {e e' : Int} (h : Ar l e e') : Ar l (oth e) (oth e') := by
 unfold Ar at h ⊢
 rw [oth_oth, oth_oth]
 exact h.symm
inductive Rc (l : Ln) (s : Int) : Int → Prop
 | refl : Rc l s s
 | step {b c : Int} : Rc l s b → Ar l b c → Rc l s c
theorem Rc.trans {l : Ln} {a b c : Int} (h : Rc l a b) (k : Rc l b c) : Rc l a c := by
 induction k with
 | refl => exact h
 | step _ e ih => exact ih.step e
theorem Rc.symm {l : Ln} (ok : LineOk l) {a b : Int} (h : Rc l a b) : Rc l b a := by
 induction h with
 | refl => exact .refl
 | step _ e ih => exact (Rc.refl.step (e.symm ok)).trans ih
theorem Rc.turn {l : Ln} {a b : Int} (h : Rc l a b) : Rc l (oth a) (oth b) := by
 induction h with
 | refl => exact .refl
 | step _ e ih => exact ih.step e.turn
theorem Rc.both {l : Ln} (ok : LineOk l) {s x : Int} (h : Rc l s x) (k : Rc l s (oth x)) : Rc l s (oth s) := k.trans (h.turn.symm ok)
theorem Ar.ends {l : Ln} (ok : LineOk l) {e e' : Int} (h : Ar l e e') : 0 ≤ e' ∧ e' < 2 * l.1 := by
 rcases h with h | h
 ·exact jn_end ok h
 ·have := jn_end ok h; unfold oth at this; omega
theorem Rc.ends {l : Ln} (ok : LineOk l) {s x : Int} (hs : 0 ≤ s ∧ s < 2 * l.1) (h : Rc l s x) : 0 ≤ x ∧ x < 2 * l.1 := by
 cases h with
 | refl => exact hs
 | step _ e => exact e.ends ok
theorem mv_one {l : Ln} (U : UJ l) {e : Int} {m : Mv} (h : m ∈ mvs l [e]) : ∃ x, m.2 = [x] ∧ Ar l e x := by
 rcases List.mem_append.mp h with z | z
 ·obtain ⟨x, hx, rfl⟩ := List.mem_map.mp z
  exact ⟨x, rfl, .inl (fr_mem hx).1⟩
 ·obtain ⟨x, hx, rfl⟩ := List.mem_map.mp z
  exact ⟨oth x, rfl, .inr (by rw [oth_oth]; exact (fr_mem hx).1)⟩
theorem one_mv {l : Ln} (U : UJ l) {e x : Int} (h : Ar l e x) : ∃ m ∈ mvs l [e], m.2 = [x] := by
 have hf : ∀ {y z : Int}, z ∈ jn l.2 y → y / 2 = e / 2 → z ∈ fr l [e] y := fun {y z} hz hy => by
  unfold fr
  rw [List.mem_filter]
  refine ⟨hz, ?_⟩
  have := U.jn hz
  simp
  omega
 rcases h with h | h
 ·exact ⟨onM [e] x, List.mem_append_left _ (List.mem_map.mpr ⟨x, hf h (oth_half e), rfl⟩), rfl⟩
 ·exact ⟨backM [e] (oth x), List.mem_append_right _ (List.mem_map.mpr ⟨oth x, hf h rfl, rfl⟩), by show [oth (oth x)] = [x]; rw [oth_oth]⟩
theorem web_one {l : Ln} (U : UJ l) {s : Int} : ∀ i, ∀ e ∈ webS l [s] i, ∃ x, e.1 = [x] ∧ Rc l s x
 | 0 => fun e he => by have z : e = ([s], none) := (by simpa [webS] using he); rw [z]; exact ⟨s, rfl, .refl⟩
 | i + 1 => by
  have ih := web_one U (s := s) i
  rw [webS]
  split
  ·rename_i e0 he0
   obtain ⟨x0, hx0, r0⟩ := ih e0 (List.mem_of_getElem? he0)
   have gen : ∀ (ms : List Mv) (o : List Ent), (∀ m ∈ ms, m ∈ mvs l e0.1) → (∀ e ∈ o, ∃ x, e.1 = [x] ∧ Rc l s x) → ∀ e ∈ scanS e0.1 ms o, ∃ x, e.1 = [x] ∧ Rc l s x := by
    intro ms
    induction ms with
    | nil => intro o _ h; exact h
    | cons m ms ihm =>
     intro o hm h
     refine ihm (add1 e0.1 o m) (fun x hx => hm x (List.mem_cons_of_mem _ hx)) ?_
     unfold add1
     split
     ·exact h
     ·intro e he
      rcases List.mem_append.mp he with z | z
      ·exact h e z
      ·rw [List.mem_singleton.mp z]
       have hmm := hm m List.mem_cons_self
       rw [hx0] at hmm
       obtain ⟨y, hy, ar⟩ := mv_one U hmm
       exact ⟨y, hy, r0.step ar⟩
   exact gen _ _ (fun m hm => hm) ih
  ·exact ih
theorem tr_single {l : Ln} {x : Int} (h : 0 ≤ x ∧ x < 2 * l.1) : TrOk l [x] := ⟨fun e he => by have z : e = x := (by simpa using he); rw [z]; exact h, by simp, fun i a b _ hb => by simp at hb⟩
theorem web_rc {l : Ln} (U : UJ l) {s : Int} (hs : 0 ≤ s ∧ s < 2 * l.1) {i : Nat} (hi : (webS l [s] i).length = i) (x : Int) : [x] ∈ (webS l [s] i).map (·.1) ↔ Rc l s x := by
 constructor
 ·intro h
  obtain ⟨e, he, e1⟩ := List.mem_map.mp h
  obtain ⟨y, hy, r⟩ := web_one U i e he
  have : [x] = [y] := e1.symm.trans hy
  simp at this
  rw [this]; exact r
 ·intro h
  obtain ⟨_, h0, hc⟩ := web_shut U.ok (tr_single hs) (by simp) hi
  induction h with
  | refl => exact h0
  | step _ e ih =>
   obtain ⟨m, hm, e1⟩ := one_mv U e
   rw [← e1]
   exact (hc _ ih).2 m hm
structure Mg (l : Ln) (s : Int) (ms : List Int) : Prop where
 len : (ms.length : Int) = 2 * l.1
 in_ : ∀ x, 0 ≤ x → x < 2 * l.1 → Rc l s x → pf ms x = 0
 ot : ∀ x, 0 ≤ x → x < 2 * l.1 → Rc l s (oth x) → pf ms x = 1
 out : ∀ x, 0 ≤ x → x < 2 * l.1 → ¬ Rc l s x → ¬ Rc l s (oth x) → pf ms x = x % 2
theorem oth_in {l : Ln} {x : Int} (h0 : 0 ≤ x) (h1 : x < 2 * l.1) : 0 ≤ oth x ∧ oth x < 2 * l.1 := by unfold oth; omega
end TL
namespace TL
open PySem L2 PyProof.Rows
def One (l : Ln) (a b : List Int) : Prop := ∃ m ∈ mvs l a, m.2 = b
def Gd (l : Ln) (a : List Int) : Nat → List Int → Prop
 | 0, b => b = a
 | k + 1, b => ∃ c, Gd l a k c ∧ One l c b
theorem Gd.trans {l : Ln} {a b c : List Int} {j : Nat} (h : Gd l a j b) : ∀ {k : Nat}, Gd l b k c → Gd l a (j + k) c := by
 intro k
 induction k generalizing c with
 | zero => intro z; have z : c = b := z; subst z; exact h
 | succ k ih => rintro ⟨d, h1, h2⟩; exact ⟨d, ih h1, h2⟩
theorem Way.gd {l : Ln} {ns : List Int} {run : List (Str × Int)} {bs : List (List Int)} (h : Way l ns run bs) : ∀ j, j ≤ run.length → ∃ b, bs[j]? = some b ∧ Gd l ns j b
 | 0, _ => ⟨ns, h.first, rfl⟩
 | j + 1, hj => by
  obtain ⟨x, hx, dk⟩ := Way.gd h j (by omega)
  have hb : j + 1 < bs.length := by rw [h.len]; omega
  have hr : j < run.length := by omega
  have := h.step j _ _ _ (List.getElem?_eq_getElem hr) hx (List.getElem?_eq_getElem hb)
  exact ⟨_, List.getElem?_eq_getElem hb, x, dk, _, this, rfl⟩
theorem web_gd {l : Ln} {ns : List Int} (ok : LineOk l) (T : TrOk l ns) (hne : ns ≠ []) {i : Nat} (hi : (webS l ns i).length = i) : ∀ (k : Nat) (x : List Int), Gd l ns k x → ∃ n, lookR (rowsE (webS l ns i)) x = some n ∧ n ≤ k
 | 0, x, h => by
  have : x = ns := h
  subst this
  obtain ⟨_, h0, _⟩ := web_areN ok T hne hi
  exact ⟨0, h0, by simp⟩
 | k + 1, x, ⟨b, h1, m, hm, e1⟩ => by
  obtain ⟨n, hn, hle⟩ := web_gd ok T hne hi k b h1
  obtain ⟨_, _, hc⟩ := web_areN ok T hne hi
  obtain ⟨n', hn', hle'⟩ := hc _ (lookR_some hn) m hm
  rw [e1] at hn'
  exact ⟨n', hn', by have : n' ≤ n + 1 := hle'; omega⟩
def win (f p : Nat) (t : List Int) : List Int := (t.drop f).take p
theorem win_len {f p : Nat} {t : List Int} (h : f + p ≤ t.length) : (win f p t).length = p := by
 unfold win
 rw [List.length_take, List.length_drop]
 omega
theorem win_at {f p i : Nat} {t : List Int} (h : i < p) : (win f p t)[i]? = t[f + i]? := by
 unfold win
 rw [List.getElem?_take_of_lt h, List.getElem?_drop]
theorem win_sub (f p : Nat) (t : List Int) : (win f p t).Sublist t := (List.take_sublist _ _).trans (List.drop_sublist _ _)
theorem TrOk.win {l : Ln} {t : List Int} (T : TrOk l t) (f p : Nat) : TrOk l (win f p t) := by
 refine ⟨fun e he => T.ends e ((win_sub f p t).subset he), T.nd.sublist ((win_sub f p t).map _), fun i x y hx hy => ?_⟩
 have hi : i + 1 < p := by
  have := (List.getElem?_eq_some_iff.mp hy).1
  unfold TL.win at this
  rw [List.length_take] at this
  omega
 rw [win_at (by omega)] at hx
 rw [win_at hi] at hy
 exact T.ch (f + i) x y hx (by rw [← hy]; congr 1)
theorem shift1 {l : Ln} (ok : LineOk l) {h z : Int} {v : List Int} (T : TrOk l (h :: (v ++ [z]))) : One l (h :: v) (v ++ [z]) ∧ One l (v ++ [z]) (h :: v) := by
 have nd := T.nd
 rw [List.map_cons, List.map_append, List.map_singleton, List.nodup_cons, List.nodup_append] at nd
 obtain ⟨n1, n2, _, n3⟩ := nd
 constructor
 ·refine ⟨onM (h :: v) z, List.mem_append_left _ (List.mem_map.mpr ⟨z, ?_, rfl⟩), rfl⟩
  unfold fr
  rw [List.mem_filter]
  have e1 : (h :: (v ++ [z]))[v.length]? = some ((h :: v).getLastD 0) := by
   rw [← List.cons_append, List.getElem?_append_left (by simp), List.getLastD_eq_getLast?, List.getLast?_eq_getElem?, show (h :: v).length - 1 = v.length by simp, List.getElem?_eq_getElem (by simp)]
   rfl
  refine ⟨T.ch v.length _ z e1 (by rw [List.getElem?_cons_succ, List.getElem?_append_right (Nat.le_refl _), Nat.sub_self]; rfl), ?_⟩
  have k1 : z / 2 ≠ h / 2 := fun e => n1 (by rw [← e]; simp)
  have k2 : z / 2 ∉ v.map (· / 2) := fun e => n3 _ e _ (by simp) rfl
  simp only [List.map_cons, List.mem_cons, Bool.not_eq_true', decide_eq_false_iff_not]
  exact fun e => e.elim k1 k2
 ·refine ⟨backM (v ++ [z]) (oth h), List.mem_append_right _ (List.mem_map.mpr ⟨oth h, ?_, rfl⟩), by show oth (oth h) :: (v ++ [z]).dropLast = h :: v; rw [oth_oth, List.dropLast_concat]⟩
  unfold fr
  rw [List.mem_filter]
  obtain ⟨y, hy⟩ : ∃ y, (v ++ [z])[0]? = some y := ⟨_, List.getElem?_eq_getElem (by simp)⟩
  have e1 : (v ++ [z]).headD 0 = y := by
   cases v with
   | nil => simpa using hy
   | cons a r => simpa using hy
  rw [e1]
  refine ⟨jn_symm ok (T.ch 0 h y rfl (by rw [List.getElem?_cons_succ]; exact hy)), ?_⟩
  rw [oth_half]
  simp only [Bool.not_eq_true', decide_eq_false_iff_not]
  intro e
  rw [List.map_append, List.map_singleton] at e
  exact n1 e
theorem shiftW {l : Ln} (ok : LineOk l) {U : List Int} (T : TrOk l U) {f p : Nat} (hp : 1 ≤ p) (h : f + 1 + p ≤ U.length) : One l (win f p U) (win (f + 1) p U) ∧ One l (win (f + 1) p U) (win f p U) := by
 have TM := T.win f (p + 1)
 obtain ⟨q, rfl⟩ : ∃ q, p = q + 1 := ⟨p - 1, by omega⟩
 have h1 : win f (q + 1) U = U[f] :: win (f + 1) q U := by
  unfold win
  rw [List.drop_eq_getElem_cons (by omega), List.take_succ_cons]
 have h2 : win (f + 1) (q + 1) U = win (f + 1) q U ++ [U[f + 1 + q]] := by
  unfold win
  rw [List.take_add_one, List.getElem?_drop, List.getElem?_eq_getElem (by omega)]
  rfl
 have h3 : win f (q + 1 + 1) U = U[f] :: (win (f + 1) q U ++ [U[f + 1 + q]]) := by
  rw [← h2]
  unfold win
  rw [List.drop_eq_getElem_cons (by omega), List.take_succ_cons]
 rw [h3] at TM
 rw [h1, h2]
 exact shift1 ok TM
theorem stepOn {l : Ln} (ok : LineOk l) {t : List Int} (T : TrOk l t) (hne : t ≠ []) {e : Int} (he : e ∈ fr l t (oth (t.getLastD 0))) {f p : Nat} (hp : 1 ≤ p) (h : f + p ≤ t.length) :
  One l (win f p t) (win f p (t.drop 1 ++ [e])) ∧ One l (win f p (t.drop 1 ++ [e])) (win f p t) := by
 have TU := TrOk.snoc ok T hne he
 have e1 : win f p t = win f p (t ++ [e]) := by
  unfold win
  rw [List.drop_append_of_le_length (by omega), List.take_append_of_le_length (by rw [List.length_drop]; omega)]
 have e2 : win f p (t.drop 1 ++ [e]) = win (f + 1) p (t ++ [e]) := by
  have : t.drop 1 ++ [e] = (t ++ [e]).drop 1 := by rw [List.drop_append_of_le_length (by omega)]
  unfold win
  rw [this, List.drop_drop, Nat.add_comm 1 f]
 rw [e1, e2]
 exact shiftW ok TU hp (by rw [List.length_append, List.length_singleton]; omega)
theorem step_win {l : Ln} (ok : LineOk l) {t : List Int} (T : TrOk l t) (hne : t ≠ []) {m : Mv} (hm : m ∈ mvs l t) {f p : Nat} (hp : 1 ≤ p) (h : f + p ≤ t.length) : One l (win f p t) (win f p m.2) := by
 have hw : ¬ (Str.ofString "back") = Str.ofString "on" := by decide +kernel
 have hmo := mvs_ok ok T hne hm
 rcases List.mem_append.mp hm with z | z
 ·obtain ⟨e, he, rfl⟩ := List.mem_map.mp z
  exact (stepOn ok T hne he hp h).1
 ·obtain ⟨e, he, rfl⟩ := List.mem_map.mp z
  have hb := undo_back ok T hne he
  rcases List.mem_append.mp hb with y | y
  ·obtain ⟨e', he', ee⟩ := List.mem_map.mp y
   have et : (oth e :: t.dropLast).drop 1 ++ [e'] = t := congrArg Prod.snd ee
   have := (stepOn ok hmo.1 hmo.2.2 he' hp (by rw [hmo.2.1]; exact h)).2
   have et' : ((backM t e).2).drop 1 ++ [e'] = t := et
   rw [et'] at this
   exact this
  ·obtain ⟨e', _, ee⟩ := List.mem_map.mp y
   exact absurd (congrArg (fun m : Mv => m.1.1) ee) hw
theorem Gd.ok {l : Ln} (ok : LineOk l) {t : List Int} (T : TrOk l t) (hne : t ≠ []) : ∀ {k : Nat} {b : List Int}, Gd l t k b → TrOk l b ∧ b.length = t.length ∧ b ≠ []
 | 0, b, h => by have h : b = t := h; subst h; exact ⟨T, rfl, hne⟩
 | k + 1, b, ⟨c, h1, m, hm, e⟩ => by
  obtain ⟨a1, a2, a3⟩ := Gd.ok ok T hne h1
  have := mvs_ok ok a1 a3 hm
  rw [e] at this
  exact ⟨this.1, by omega, this.2.2⟩
theorem Gd.win {l : Ln} (ok : LineOk l) {t : List Int} (T : TrOk l t) (hne : t ≠ []) {f p : Nat} (hp : 1 ≤ p) (h : f + p ≤ t.length) : ∀ {k : Nat} {b : List Int}, Gd l t k b → Gd l (win f p t) k (win f p b)
 | 0, b, g => by have g : b = t := g; subst g; exact rfl
 | k + 1, b, ⟨c, h1, m, hm, e⟩ => by
  obtain ⟨a1, a2, a3⟩ := Gd.ok ok T hne h1
  refine ⟨_, Gd.win ok T hne hp h h1, ?_⟩
  rw [← e]
  exact step_win ok a1 a3 hm hp (by omega)
theorem shiftK {l : Ln} (ok : LineOk l) {U : List Int} (T : TrOk l U) {p : Nat} (hp : 1 ≤ p) : ∀ (k f : Nat), f + k + p ≤ U.length → Gd l (win f p U) k (win (f + k) p U)
 | 0, f, _ => rfl
 | k + 1, f, h => ⟨_, shiftK ok T hp k f (by omega), (shiftW ok T hp (f := f + k) (by omega)).1⟩
theorem shiftB {l : Ln} (ok : LineOk l) {U : List Int} (T : TrOk l U) {p : Nat} (hp : 1 ≤ p) : ∀ (k f : Nat), f + k + p ≤ U.length → Gd l (win (f + k) p U) k (win f p U)
 | 0, f, _ => rfl
 | k + 1, f, h => ⟨win (f + 1) p U, by have := shiftB ok T hp k (f + 1) (by omega); rwa [show f + 1 + k = f + (k + 1) by omega] at this, (shiftW ok T hp (f := f) (by omega)).2⟩
theorem win_turn {f p : Nat} {t : List Int} (h : f + p ≤ t.length) : (win f p t).reverse.map oth = win (t.length - f - p) p (t.reverse.map oth) := by
 refine List.ext_getElem? fun i => ?_
 by_cases hi : i < p
 ·have hl := win_len h
  rw [win_at hi, List.getElem?_map, List.getElem?_map, List.getElem?_reverse (by omega), List.getElem?_reverse (by omega), hl, win_at (by omega)]
  congr 2
  omega
 ·rw [List.getElem?_eq_none (by rw [List.length_map, List.length_reverse, win_len h]; omega), List.getElem?_eq_none (by rw [win_len (by rw [List.length_map, List.length_reverse]; omega)]; omega)]
theorem part_turned {l : Ln} (ok : LineOk l) {t : List Int} (T : TrOk l t) (hne : t ≠ []) {k : Nat} (g : Gd l t k (t.reverse.map oth)) {f p : Nat} (hp : 1 ≤ p) (h : f + p ≤ t.length) :
  ∃ d, d ≤ k + t.length - p ∧ Gd l (win f p t) d ((win f p t).reverse.map oth) := by
 have g1 := Gd.win ok T hne hp h g
 have TU := trOk_turn ok T
 have ul : (t.reverse.map oth).length = t.length := by rw [List.length_map, List.length_reverse]
 rw [win_turn h]
 by_cases c : f ≤ t.length - f - p
 ·have g2 := shiftK ok TU hp (t.length - f - p - f) f (by omega)
  rw [show f + (t.length - f - p - f) = t.length - f - p by omega] at g2
  exact ⟨_, by omega, g1.trans g2⟩
 ·have g2 := shiftB ok TU hp (f - (t.length - f - p)) (t.length - f - p) (by omega)
  rw [show t.length - f - p + (f - (t.length - f - p)) = f by omega] at g2
  exact ⟨_, by omega, g1.trans g2⟩
theorem web_inv {l : Ln} {ns : List Int} (P : List Int → Prop) (h0 : P ns) (hs : ∀ t m, P t → m ∈ mvs l t → P m.2) : ∀ i, ∀ e ∈ webS l ns i, P e.1
 | 0 => fun e he => by have z : e = (ns, none) := (by simpa [webS] using he); rw [z]; exact h0
 | i + 1 => by
  have ih := web_inv P h0 hs i
  rw [webS]
  split
  ·rename_i e0 he0
   have r0 := ih e0 (List.mem_of_getElem? he0)
   have gen : ∀ (ms : List Mv) (o : List Ent), (∀ m ∈ ms, m ∈ mvs l e0.1) → (∀ e ∈ o, P e.1) → ∀ e ∈ scanS e0.1 ms o, P e.1 := by
    intro ms
    induction ms with
    | nil => intro o _ h; exact h
    | cons m ms ihm =>
     intro o hm h
     refine ihm (add1 e0.1 o m) (fun x hx => hm x (List.mem_cons_of_mem _ hx)) ?_
     unfold add1
     split
     ·exact h
     ·intro e he
      rcases List.mem_append.mp he with z | z
      ·exact h e z
      ·rw [List.mem_singleton.mp z]
       exact hs _ m r0 (hm m List.mem_cons_self)
   exact gen _ _ (fun m hm => hm) ih
  ·exact ih
def Cl (l : Ln) (x0 s x : Int) : Prop := (Rc l x0 x ∧ Rc l x0 s) ∨ (Rc l x0 (oth x) ∧ Rc l x0 (oth s))
theorem Cl.ar {l : Ln} {x0 s x y : Int} (h : Cl l x0 s x) (a : Ar l x y) : Cl l x0 s y := h.imp (fun z => ⟨z.1.step a, z.2⟩) (fun z => ⟨z.1.step a.turn, z.2⟩)
theorem cl_train {l : Ln} {x0 s : Int} {t : List Int} (T : TrOk l t) (hs : t.headD 0 = s) (hne : t ≠ []) (h0 : Cl l x0 s s) : ∀ (i : Nat) x, t[i]? = some x → Cl l x0 s x
 | 0, x, hx => by
  cases t with
  | nil => exact absurd rfl hne
  | cons a r =>
   have hx : a = x := by simpa using hx
   have hs : a = s := by simpa using hs
   rw [← hx, hs]; exact h0
 | i + 1, x, hx => by
  have hi := (List.getElem?_eq_some_iff.mp hx).1
  have hx' : t[i]? = some (t[i]'(by omega)) := List.getElem?_eq_getElem _
  exact (cl_train T hs hne h0 i _ hx').ar (.inl (T.ch i _ x hx' hx))
theorem cl_move {l : Ln} {x0 s : Int} {t : List Int} (hne : t ≠ []) (h : ∀ x ∈ t, Cl l x0 s x) {m : Mv} (hm : m ∈ mvs l t) : ∀ x ∈ m.2, Cl l x0 s x := by
 have hl : t.getLastD 0 ∈ t := by rw [List.getLastD_eq_getLast?, List.getLast?_eq_some_getLast hne]; exact List.getLast_mem hne
 have hh : t.headD 0 ∈ t := by cases t with | nil => exact absurd rfl hne | cons a r => exact List.mem_cons_self
 rcases List.mem_append.mp hm with z | z
 ·obtain ⟨e, he, rfl⟩ := List.mem_map.mp z
  intro x hx
  rcases List.mem_append.mp hx with y | y
  ·exact h x (List.mem_of_mem_drop y)
  ·rw [List.mem_singleton.mp y]
   exact (h _ hl).ar (.inl (fr_mem he).1)
 ·obtain ⟨e, he, rfl⟩ := List.mem_map.mp z
  intro x hx
  rcases List.mem_cons.mp hx with y | y
  ·rw [y]
   exact (h _ hh).ar (.inr (by rw [oth_oth]; exact (fr_mem he).1))
  ·exact h x (List.dropLast_subset _ y)
theorem web_cl {l : Ln} {x0 s : Int} {t : List Int} (T : TrOk l t) (hs : t.headD 0 = s) (hne : t ≠ []) (h0 : Cl l x0 s s) (i : Nat) : ∀ e ∈ webS l t i, ∀ x ∈ e.1, Cl l x0 s x := fun e he => (web_inv (fun t => t ≠ [] ∧ ∀ x ∈ t, Cl l x0 s x) ⟨hne, fun x hx => by
 obtain ⟨i, hi⟩ := List.mem_iff_getElem?.mp hx
 exact cl_train T hs hne h0 i x hi⟩ (fun t m h hm => ⟨(mvs_train h.1 hm).1, cl_move h.1 h.2 hm⟩) i e he).2
theorem Mg.cl {l : Ln} {x0 s x : Int} {ms : List Int} (M : Mg l x0 ms) (hx : 0 ≤ x ∧ x < 2 * l.1) (hs : 0 ≤ s ∧ s < 2 * l.1) (h : Cl l x0 s x) : pf ms x = pf ms s := by
 rcases h with ⟨h1, h2⟩ | ⟨h1, h2⟩
 ·rw [M.in_ x hx.1 hx.2 h1, M.in_ s hs.1 hs.2 h2]
 ·rw [M.ot x hx.1 hx.2 h1, M.ot s hs.1 hs.2 h2]
theorem Mg.two {l : Ln} {x0 s x : Int} {ms : List Int} (M : Mg l x0 ms) (hx : 0 ≤ x ∧ x < 2 * l.1) (hs : 0 ≤ s ∧ s < 2 * l.1) (h : Cl l x0 s x) (h' : Cl l x0 s (oth x)) : False := by
 have ho := oth_in (l := l) hx.1 hx.2
 have e1 := M.cl hx hs h
 have e2 := M.cl ho hs h'
 rcases h with ⟨h1, h2⟩ | ⟨h1, h2⟩
 ·have a1 := M.in_ x hx.1 hx.2 h1
  have a2 := M.ot (oth x) ho.1 ho.2 (by rw [oth_oth]; exact h1)
  omega
 ·have a1 := M.ot x hx.1 hx.2 h1
  have a2 := M.in_ (oth x) ho.1 ho.2 h1
  omega
theorem cl_first {l : Ln} (s : Int) : Cl l (2 * (s / 2)) s s := by
 rcases (show s = 2 * (s / 2) ∨ oth s = 2 * (s / 2) by unfold oth; omega) with h | h
 ·exact .inl ⟨by rw [← h]; exact .refl, by rw [← h]; exact .refl⟩
 ·exact .inr ⟨by rw [← h]; exact .refl, by rw [← h]; exact .refl⟩
end TL
namespace K34
open PySem L2 TL PyProof.Rows
abbrev St := L2.St
def top (i : Nat) : Stmt := PySem.Challenge.pw_turnline_k34_whole_trains_turned_and_the.main.body.getD i (.Pass ⟨0, 0, 0, 0⟩)
def sp_other : Sp := fun vs H Q _ => ∃ e : Int, vs = [.int e] ∧ Q (.int (oth e)) H
def sp_half : Sp := fun vs H Q _ => ∃ e : Int, vs = [.int e] ∧ Q (.int (e / 2)) H
def sp_cell (K : PySem.W.Frag) : Sp := fun vs H Q _ => ∃ (a : Addr) (ns : List Int) (k : Int), vs = [.ref a, .int k] ∧ SqL K H a (ns.map V.int) ∧ 0 ≤ k ∧ ∀ c, Q (.int c) H
def sp_mix : Sp := fun vs H Q _ => ∃ c k : Int, vs = [.int c, .int k] ∧ 0 ≤ k ∧ k ≤ 1000 ∧ ∀ n, 0 ≤ n → n < 2147483648 → Q (.int n) H
abbrev s_other_end : Stmt := top 7
theorem sc_other_end : FnScope ["end"] ["end"] (defScope s_other_end) := ⟨rfl, rfl, rfl, by decide +kernel, rfl, by decide +kernel, by decide +kernel⟩
abbrev s_piece_of : Stmt := top 8
theorem sc_piece_of : FnScope ["end"] ["end"] (defScope s_piece_of) := ⟨rfl, rfl, rfl, by decide +kernel, rfl, by decide +kernel, by decide +kernel⟩
abbrev s_law_other : Stmt := top 35
theorem sc_law_other : FnScope ["_law_end"] ["_law_end"] (defScope s_law_other) := ⟨rfl, rfl, rfl, by decide +kernel, rfl, by decide +kernel, by decide +kernel⟩
abbrev s_law_cell_at : Stmt := top 32
theorem sc_law_cell_at : FnScope ["_law_script", "_law_k"] ["_law_script", "_law_k"] (defScope s_law_cell_at) := ⟨rfl, rfl, rfl, by decide +kernel, rfl, by decide +kernel, by decide +kernel⟩
abbrev s_law_mix : Stmt := top 33
theorem sc_law_mix : FnScope ["_law_cell", "_law_k", "_law_again", "_law_number"] ["_law_cell", "_law_k"] (defScope s_law_mix) := ⟨rfl, rfl, rfl, by decide +kernel, rfl, by decide +kernel, by decide +kernel⟩
section
variable {P : Program} {w : World} {K : PySem.W.Frag} {mg : Str → Option Value} {base : Heap} {f : Addr} {fd : FuncData} {D c1 c2 c3 c4 c5 c6 c7 : Addr}
theorem ok_other_end (F : Fn K mg "other_end" s_other_end ["end"] f fd) : FnOk P w K mg base CX0 1 f fd ["end"] sp_other := by
 refine F.F.ok sc_other_end (fun vs H Q E h => ?_) (fun cdv A outer s H vs Q E hr h => ?_)
 ·obtain ⟨e, rfl, _⟩ := h; rfl
 ·obtain ⟨e, rfl, k⟩ := h
  refine ⟨_, (pss_one (ps_ret (pe_op op_xor (pv 0) pe_int))), ?_⟩
  refine ⟨_, rfl, _, _, rfl, rfl, ?_⟩
  show Q (.int (Builtin.bitXor e 1)) H
  rw [xor_one]; exact k
theorem ok_piece_of (F : Fn K mg "piece_of" s_piece_of ["end"] f fd) : FnOk P w K mg base CX0 1 f fd ["end"] sp_half := by
 refine F.F.ok sc_piece_of (fun vs H Q E h => ?_) (fun cdv A outer s H vs Q E hr h => ?_)
 ·obtain ⟨e, rfl, _⟩ := h; rfl
 ·obtain ⟨e, rfl, k⟩ := h
  refine ⟨_, (pss_one (ps_ret (pe_op op_fdiv (pv 0) pe_int))), ?_⟩
  exact ⟨_, rfl, _, _, rfl, rfl, ⟨by decide, by decide⟩, k⟩
theorem ok_law_other (F : Fn K mg "_law_other" s_law_other ["_law_end"] f fd) : FnOk P w K mg base CX0 1 f fd ["_law_end"] sp_other := by
 refine F.F.ok sc_law_other (fun vs H Q E h => ?_) (fun cdv A outer s H vs Q E hr h => ?_)
 ·obtain ⟨e, rfl, _⟩ := h; rfl
 ·obtain ⟨e, rfl, k⟩ := h
  refine ⟨_, (pss_one (ps_ret (pe_op op_sub (pe_op op_add (pv 0) pe_int) (pe_op op_mul pe_int (pe_op op_mod (pv 0) pe_int))))), ?_⟩
  exact ⟨_, rfl, _, _, rfl, rfl, _, rfl, _, _, rfl, rfl, by show (0 : Int) < 2; decide, _, _, rfl, rfl, .inl ⟨by decide, by decide⟩, _, _, rfl, rfl, k⟩
theorem ok_law_cell_at (F : Fn K mg "_law_cell_at" s_law_cell_at ["_law_script", "_law_k"] f fd) (B : Bl mg) : FnOk P w K mg base CX0 1 f fd ["_law_script", "_law_k"] (sp_cell K) := by
 refine F.F.ok sc_law_cell_at (fun vs H Q E h => ?_) (fun cdv A outer s H vs Q E hr h => ?_)
 ·obtain ⟨a, ns, k, rfl, _⟩ := h; rfl
 ·obtain ⟨a, ns, k, rfl, hS, h0, q⟩ := h
  refine ⟨_, (pss_cons (ps_if (pt_cmp (pc_lt (pv 1) (pe_callB call_len_seq rfl B.len boot_len (pa_cons (pv 0) pa_nil))))
 (pss_one (ps_ret (pe_ix ix_list (pv 0) (pv 1) (fun _ _ => rfl)))) pss_nil)
 (pss_one (ps_ret pe_int))), ?_⟩
  refine ⟨_, rfl, _, rfl, a, _, rfl, .inl hS, _, _, rfl, rfl, _, rfl, ite2 (fun hlt => ?_) (fun _ => ?_)⟩
  ·have hlt : k < ((ns.map V.int).length : Int) := by simpa using hlt
   rw [List.length_map] at hlt
   have hg : (ns.map V.int)[k.toNat]? = some (V.int (ns.getD k.toNat 0)) := by
    rw [List.getElem?_map, List.getD_eq_getElem?_getD]
    have : k.toNat < ns.length := by omega
    simp [this]
   have e1 : ((k.toNat : Nat) : Int) = k := by omega
   exact ⟨_, rfl, _, rfl, a, _, k, _, rfl, rfl, hS, by have h := atI_nat hg; rw [e1] at h; exact h, q _⟩
  ·exact q _
theorem ok_law_mix (F : Fn K mg "_law_mix" s_law_mix ["_law_cell", "_law_k"] f fd) (B : Bl mg) : FnOk P w K mg base CX0 1 f fd ["_law_cell", "_law_k"] sp_mix := by
 refine F.F.ok sc_law_mix (fun vs H Q E h => ?_) (fun cdv A outer s H vs Q E hr h => ?_)
 ·obtain ⟨c, k, rfl, _⟩ := h; rfl
 ·obtain ⟨c, k, rfl, h0, h1, q⟩ := h
  refine ⟨_, (pss_cons (ps_if (pt_cmp (pc_ge (pv 0) (pe_op op_pow pe_int pe_int)))
 (pss_cons (ps_for PassesOwn.never rfl (pi_range1 rfl B.range (pa_cons (pv 1) pa_nil)) (pg_name (i := 2) sc_law_mix.nd rfl (Or.inl rfl))
 (pss_one (ps_set (i := 0) sc_law_mix.nd rfl (Or.inl rfl) (pe_op op_fdiv (pv 0) (pe_op op_pow pe_int pe_int)))))
 (pss_one (ps_ret (pe_op op_mod (pv 0) (pe_op op_pow pe_int pe_int))))) pss_nil)
 (pss_cons (ps_set (i := 3) sc_law_mix.nd rfl (Or.inl rfl) (pe_op op_mod (pe_op op_mul (pe_op op_add (pe_op op_add (pe_op op_mod (pv 0) pe_int) (pe_op op_mul (pe_op op_mul (pv 1) (pv 1)) pe_int)) (pv 1)) pe_int) pe_int))
 (pss_cons (ps_set (i := 3) sc_law_mix.nd rfl (Or.inl rfl) (pe_op op_mod (pe_op op_mul (pv 3) (pv 3)) pe_int))
 (pss_one (ps_ret (pe_op op_fdiv (pe_op op_mod (pe_op op_mul (pv 3) (pe_op op_add (pv 3) pe_int)) pe_int) pe_int)))))), ?_⟩
  refine ⟨_, rfl, _, _, rfl, rfl, ⟨by decide, by decide, by decide⟩, _, _, rfl, rfl, _, rfl, ite2 (fun hlt => ?_) (fun _ => ?_)⟩
  ·refine ⟨_, rfl, _, rfl, by omega, by omega, for_range (fun i σ H2 => H2 = H ∧ ∃ (c : Int) (x : Option V), σ = [some (.int c), some (.int k), x, none]) ⟨rfl, c, none, rfl⟩ ?_ ?_⟩
   ·rintro i σ H2 hi ⟨rfl, c, x, rfl⟩
    exact ⟨_, rfl, _, _, rfl, rfl, ⟨by decide, by decide, by decide⟩, _, _, rfl, rfl, ⟨by decide, by decide⟩, rfl, _, _, rfl⟩
   ·rintro σ H2 ⟨rfl, c, x, rfl⟩
    refine ⟨_, rfl, _, _, rfl, rfl, ⟨by decide, by decide, by decide⟩, _, _, rfl, rfl, (by show (0 : Int) < _; decide), q _ ?_ ?_⟩
    ·show 0 ≤ c % (10 ^ 6); omega
    ·show c % (10 ^ 6) < _; omega
  ·refine ⟨_, rfl, _, _, rfl, rfl, (by show (0 : Int) < _; decide), _, rfl, _, rfl, _, _, rfl, rfl, .inl ⟨by omega, by omega⟩, _, _, rfl, rfl, .inr ⟨by decide, by decide⟩, _, _, rfl, rfl, _, rfl, _, _, rfl, rfl, _, _, rfl, rfl, .inr ⟨by decide, by decide⟩, _, _, rfl, rfl, (by show (0 : Int) < _; decide), ?_⟩
   dsimp only
   generalize hn : (c % 1000003 + k * k * 7919 + k) * 48271 % 2147483629 = n
   have n0 : 0 ≤ n := by omega
   have n1 : n < 2147483629 := by omega
   refine ⟨_, rfl, _, rfl, _, _, rfl, rfl, .inl ⟨by omega, by omega⟩, _, _, rfl, rfl, (by show (0 : Int) < _; decide), ?_⟩
   dsimp only
   generalize hm : n * n % 2147483587 = m
   have m0 : 0 ≤ m := by omega
   have m1 : m < 2147483587 := by omega
   refine ⟨_, rfl, _, rfl, _, _, rfl, rfl, _, _, rfl, rfl, .inl ⟨by omega, by omega⟩, _, _, rfl, rfl, (by show (0 : Int) < _; decide), _, _, rfl, rfl, ⟨by decide, by decide⟩, q _ ?_ ?_⟩
   ·show 0 ≤ m * (m + 2) % 2147483579 / 7; omega
   ·show m * (m + 2) % 2147483579 / 7 < _; omega
end
end K34
namespace K34
open PySem L2 TL PyProof.Rows
theorem small_line {n : Nat} (h : n ≤ 1000) : n < sizeLine := Nat.lt_of_le_of_lt h (by decide)
theorem das_ints_len {K : PySem.W.Frag} {H : Hp} {js : List (Int × Int)} {vs : List V} (h : Das K H (js.map dP) vs) : vs.length = js.length := by rw [Dgs.length h, List.length_map]
theorem below_len {l : Int × List (Int × Int)} (h : LineOk l) (e : Int) : (below l.2 e).length + (above l.2 e).length ≤ 60 := h.inc e
def sp_joined (K : PySem.W.Frag) : Sp := fun vs H Q _ => ∃ (v : V) (l : Int × List (Int × Int)) (e : Int), vs = [v, .int e] ∧ Da K H (dL l) v ∧ LineOk l ∧ NewInts H (jn l.2 e) Q
def sp_round (K : PySem.W.Frag) : Sp := fun vs H Q _ => ∃ (v : V) (ns : List Int), vs = [v] ∧ Da K H (dI ns) v ∧ ns.length ≤ 1000 ∧ NewInts H (ns.reverse.map oth) Q
def sp_free (K : PySem.W.Frag) : Sp := fun vs H Q _ => ∃ (v u : V) (l : Int × List (Int × Int)) (ns : List Int) (e : Int), vs = [v, u, .int e] ∧ Da K H (dL l) v ∧ Da K H (dI ns) u ∧ LineOk l ∧ ns.length ≤ 1000 ∧ NewInts H (fr l ns e) Q
def sp_moves (K : PySem.W.Frag) : Sp := fun vs H Q _ => ∃ (v u : V) (l : Int × List (Int × Int)) (ns : List Int), vs = [v, u] ∧ Da K H (dL l) v ∧ Da K H (dI ns) u ∧ LineOk l ∧ ns ≠ [] ∧ ns.length ≤ 900 ∧ NewMoves K H (mvs l ns) Q
abbrev s_joined : Stmt := top 10
theorem sc_joined : FnScope ["line", "end", "joints", "above", "below"] ["line", "end"] (defScope s_joined) := ⟨rfl, rfl, rfl, by decide +kernel, rfl, by decide +kernel, by decide +kernel⟩
theorem cc_joined_0 : CompOk (defScope s_joined) ["line", "end", "joints", "above", "below"] { kind := .function, names := [(Str.ofString ".0", .local), (Str.ofString "low", .local), (Str.ofString "high", .local), (Str.ofString "end", .free)], isGenerator := false, isCoroutine := false, more := [] } ["low", "high", "end"] 2 [none, none, some 1] := ⟨rfl, by decide +kernel, by decide +kernel, by decide +kernel, rfl, by decide +kernel, rfl, by decide +kernel⟩
theorem cc_joined_1 : CompOk (defScope s_joined) ["line", "end", "joints", "above", "below"] { kind := .function, names := [(Str.ofString ".0", .local), (Str.ofString "low", .local), (Str.ofString "high", .local), (Str.ofString "end", .free)], isGenerator := false, isCoroutine := false, more := [] } ["low", "high", "end"] 2 [none, none, some 1] := ⟨rfl, by decide +kernel, by decide +kernel, by decide +kernel, rfl, by decide +kernel, rfl, by decide +kernel⟩
abbrev s_law_joined : Stmt := top 36
theorem sc_law_joined : FnScope ["_law_line_here", "_law_end"] ["_law_line_here", "_law_end"] (defScope s_law_joined) := ⟨rfl, rfl, rfl, by decide +kernel, rfl, by decide +kernel, by decide +kernel⟩
theorem cc_law_joined_0 : CompOk (defScope s_law_joined) ["_law_line_here", "_law_end"] { kind := .function, names := [(Str.ofString ".0", .local), (Str.ofString "_law_a", .local), (Str.ofString "_law_b", .local), (Str.ofString "_law_end", .free)], isGenerator := false, isCoroutine := false, more := [] } ["_law_a", "_law_b", "_law_end"] 2 [none, none, some 1] := ⟨rfl, by decide +kernel, by decide +kernel, by decide +kernel, rfl, by decide +kernel, rfl, by decide +kernel⟩
theorem cc_law_joined_1 : CompOk (defScope s_law_joined) ["_law_line_here", "_law_end"] { kind := .function, names := [(Str.ofString ".0", .local), (Str.ofString "_law_a", .local), (Str.ofString "_law_b", .local), (Str.ofString "_law_end", .free)], isGenerator := false, isCoroutine := false, more := [] } ["_law_a", "_law_b", "_law_end"] 2 [none, none, some 1] := ⟨rfl, by decide +kernel, by decide +kernel, by decide +kernel, rfl, by decide +kernel, rfl, by decide +kernel⟩
abbrev s_turned : Stmt := top 13
theorem sc_turned : FnScope ["train"] ["train"] (defScope s_turned) := ⟨rfl, rfl, rfl, by decide +kernel, rfl, by decide +kernel, by decide +kernel⟩
theorem cc_turned_0 : CompOk (defScope s_turned) ["train"] { kind := .function, names := [(Str.ofString ".0", .local), (Str.ofString "end", .local), (Str.ofString "other_end", .globalImplicit)], isGenerator := false, isCoroutine := false, more := [] } ["end"] 1 [none] := ⟨rfl, by decide +kernel, by decide +kernel, by decide +kernel, rfl, by decide +kernel, rfl, by decide +kernel⟩
abbrev s_law_round : Stmt := top 40
theorem sc_law_round : FnScope ["_law_train_here"] ["_law_train_here"] (defScope s_law_round) := ⟨rfl, rfl, rfl, by decide +kernel, rfl, by decide +kernel, by decide +kernel⟩
theorem cc_law_round_0 : CompOk (defScope s_law_round) ["_law_train_here"] { kind := .function, names := [(Str.ofString ".0", .local), (Str.ofString "_law_end", .local), (Str.ofString "_law_other", .globalImplicit)], isGenerator := false, isCoroutine := false, more := [] } ["_law_end"] 1 [none] := ⟨rfl, by decide +kernel, by decide +kernel, by decide +kernel, rfl, by decide +kernel, rfl, by decide +kernel⟩
abbrev s_free_ends : Stmt := top 14
theorem sc_free_ends : FnScope ["line", "train", "end", "pieces"] ["line", "train", "end"] (defScope s_free_ends) := ⟨rfl, rfl, rfl, by decide +kernel, rfl, by decide +kernel, by decide +kernel⟩
theorem cc_free_ends_0 : CompOk (defScope s_free_ends) ["line", "train", "end", "pieces"] { kind := .function, names := [(Str.ofString ".0", .local), (Str.ofString "own", .local), (Str.ofString "piece_of", .globalImplicit)], isGenerator := false, isCoroutine := false, more := [] } ["own"] 1 [none] := ⟨rfl, by decide +kernel, by decide +kernel, by decide +kernel, rfl, by decide +kernel, rfl, by decide +kernel⟩
theorem cc_free_ends_1 : CompOk (defScope s_free_ends) ["line", "train", "end", "pieces"] { kind := .function, names := [(Str.ofString ".0", .local), (Str.ofString "there", .local), (Str.ofString "piece_of", .globalImplicit), (Str.ofString "pieces", .free)], isGenerator := false, isCoroutine := false, more := [] } ["there", "pieces"] 1 [none, some 3] := ⟨rfl, by decide +kernel, by decide +kernel, by decide +kernel, rfl, by decide +kernel, rfl, by decide +kernel⟩
abbrev s_moves_of : Stmt := top 15
theorem sc_moves_of : FnScope ["line", "train", "told", "end"] ["line", "train"] (defScope s_moves_of) := ⟨rfl, rfl, rfl, by decide +kernel, rfl, by decide +kernel, by decide +kernel⟩
abbrev s_law_moves : Stmt := top 41
theorem sc_law_moves : FnScope ["_law_line_here", "_law_train_here", "_law_end", "_law_pieces", "_law_found"] ["_law_line_here", "_law_train_here"] (defScope s_law_moves) := ⟨rfl, rfl, rfl, by decide +kernel, rfl, by decide +kernel, by decide +kernel⟩
theorem cc_law_moves_0 : CompOk (defScope s_law_moves) ["_law_line_here", "_law_train_here", "_law_end", "_law_pieces", "_law_found"] { kind := .function, names := [(Str.ofString ".0", .local), (Str.ofString "_law_end", .local)], isGenerator := false, isCoroutine := false, more := [] } ["_law_end"] 1 [none] := ⟨rfl, by decide +kernel, by decide +kernel, by decide +kernel, rfl, by decide +kernel, rfl, by decide +kernel⟩
section
variable {P : Program} {w : World} {K : PySem.W.Frag} {mg : Str → Option Value} {base : Heap} {f : Addr} {fd : FuncData} {D c1 c2 c3 c4 c5 c6 c7 : Addr}
theorem ok_joined (F : Fn K mg "joined" s_joined ["line", "end"] f fd) (B : Bl mg) : FnOk P w K mg base CX0 1 f fd ["line", "end"] (sp_joined K) := by
 refine F.F.ok sc_joined (fun vs H Q E h => ?_) (fun cdv A outer s H vs Q E hr h => ?_)
 ·obtain ⟨v, l, e, rfl, _⟩ := h; rfl
 ·obtain ⟨v, l, e, rfl, hv, ok, k⟩ := h
  obtain ⟨a, b, rfl, ht, us, hl, hq⟩ := da_line hv
  have hlen := das_ints_len hq
  have hz : us.length < sizeLine := small_line (by rw [hlen]; have := ok.len; omega)
  refine ⟨_, (pss_cons (ps_set (i := 2) sc_joined.nd rfl (Or.inl rfl) (pe_ix ix_tup (pv 0) pe_int (fun _ _ => rfl)))
 (pss_cons (ps_lc (i := 3) sc_joined.nd rfl rfl (pi_list (pv 2)) rfl cc_joined_0 (.tup (.cons (.name (by decide)) (.cons (.name (by decide)) .nil))) (fun _ _ _ _ => (pg_tup (n := 2) rfl (pgs_cons (pg_name (i := 0) cc_joined_0.nd rfl (Or.inl rfl)) (pgs_cons (pg_name (i := 1) cc_joined_0.nd rfl (Or.inl rfl)) pgs_nil)))) (fun _ _ _ _ => (pifs_one (pt_cmp (pc_eqI (pv 0) (pv 2))))) (fun _ _ _ _ => (pv 1)))
 (pss_cons (ps_lc (i := 4) sc_joined.nd rfl rfl (pi_list (pv 2)) rfl cc_joined_1 (.tup (.cons (.name (by decide)) (.cons (.name (by decide)) .nil))) (fun _ _ _ _ => (pg_tup (n := 2) rfl (pgs_cons (pg_name (i := 0) cc_joined_1.nd rfl (Or.inl rfl)) (pgs_cons (pg_name (i := 1) cc_joined_1.nd rfl (Or.inl rfl)) pgs_nil)))) (fun _ _ _ _ => (pifs_one (pt_cmp (pc_eqI (pv 1) (pv 2))))) (fun _ _ _ _ => (pv 0)))
 (pss_one (ps_ret (pe_callB call_sorted rfl B.sorted boot_sorted (pa_cons (pe_op op_cat (pv 4) (pv 3)) pa_nil))))))), ?_⟩
  refine ⟨_, rfl, a, _, _, _, rfl, rfl, ht, rfl, ?_⟩
  refine ⟨_, rfl, b, rfl, ⟨us, hl⟩, fun l1 n1 => lc_pure l.2 (fun p => decide (p.1 = e)) (fun p => V.int p.2) n1 hl hlen hz ?_ ?_⟩
  ·intro i x d H' hx hd sm P1 P0 k1 k0
   obtain ⟨ad, p, e1, rfl, hp⟩ := das_pair (Das.same sm hq) hx
   rw [hd] at e1; cases e1
   refine ⟨ad, _, rfl, hp, rfl, _, _, rfl, _, _, rfl, rfl, _, rfl, _, rfl, _, _, rfl, rfl, _, rfl, ite2 (fun h => ⟨_, rfl, k1 h⟩) (fun h => k0 (by simpa using h))⟩
  have s1 : Same H (upd H l1 (.lst (above l.2 e |>.map V.int))) := same_upd n1
  have e1 : ((l.2.filter fun p => decide (p.1 = e)).map fun p => V.int p.2) = (above l.2 e).map V.int := by unfold above; rw [List.map_map]; rfl
  rw [e1]
  refine ⟨_, rfl, b, rfl, ⟨us, s1.seq hl⟩, fun l2 n2 => lc_pure l.2 (fun p => decide (p.2 = e)) (fun p => V.int p.1) n2 (s1.seq hl) hlen hz ?_ ?_⟩
  ·intro i x d H' hx hd sm P1 P0 k1 k0
   obtain ⟨ad, p, e1, rfl, hp⟩ := das_pair (Das.same (s1.trans sm) hq) hx
   rw [hd] at e1; cases e1
   refine ⟨ad, _, rfl, hp, rfl, _, _, rfl, _, _, rfl, rfl, _, rfl, _, rfl, _, _, rfl, rfl, _, rfl, ite2 (fun h => ⟨_, rfl, k1 h⟩) (fun h => k0 (by simpa using h))⟩
  have e2 : ((l.2.filter fun p => decide (p.2 = e)).map fun p => V.int p.1) = (below l.2 e).map V.int := by unfold below; rw [List.map_map]; rfl
  rw [e2]
  have g1 : (upd (upd H l1 (.lst (above l.2 e |>.map V.int))) l2 (.lst (below l.2 e |>.map V.int))) l1 = some (.lst (above l.2 e |>.map V.int)) := by
   rw [upd_ne (ne_of_none upd_same n2), upd_same]
  have hb := below_len ok e
  have s2 : Same H (upd (upd H l1 (.lst (above l.2 e |>.map V.int))) l2 (.lst (below l.2 e |>.map V.int))) := s1.trans (same_upd n2)
  refine ⟨_, rfl, _, rfl, l2, l1, _, _, rfl, rfl, upd_same, g1, Nat.le_of_lt (small_line (by rw [List.length_map, List.length_map]; omega)), fun p hp => ?_⟩
  refine ⟨p, below l.2 e ++ above l.2 e, rfl, SqL.of (by rw [upd_same, List.map_append]), (by rw [List.length_append]; omega), fun p2 hp2 => ?_⟩
  refine k p2 _ (s2.trans ((same_upd hp).trans (same_upd hp2))) (Same.free (s2.trans (same_upd hp)) hp2) upd_same
theorem ok_law_joined (F : Fn K mg "_law_joined" s_law_joined ["_law_line_here", "_law_end"] f fd) (B : Bl mg) : FnOk P w K mg base CX0 1 f fd ["_law_line_here", "_law_end"] (sp_joined K) := by
 refine F.F.ok sc_law_joined (fun vs H Q E h => ?_) (fun cdv A outer s H vs Q E hr h => ?_)
 ·obtain ⟨v, l, e, rfl, _⟩ := h; rfl
 ·obtain ⟨v, l, e, rfl, hv, ok, k⟩ := h
  obtain ⟨a, b, rfl, ht, us, hl, hq⟩ := da_line hv
  have hlen := das_ints_len hq
  have hz : us.length < sizeLine := small_line (by rw [hlen]; have := ok.len; omega)
  refine ⟨_, (pss_one (ps_ret (pe_callB call_sorted rfl B.sorted boot_sorted (pa_cons (pe_op op_cat (pe_lc (pi_list (pe_ix ix_tup (pv 0) pe_int (fun _ _ => rfl))) rfl cc_law_joined_0 (.tup (.cons (.name (by decide)) (.cons (.name (by decide)) .nil))) (fun _ _ _ _ => (pg_tup (n := 2) rfl (pgs_cons (pg_name (i := 0) cc_law_joined_0.nd rfl (Or.inl rfl)) (pgs_cons (pg_name (i := 1) cc_law_joined_0.nd rfl (Or.inl rfl)) pgs_nil)))) (fun _ _ _ _ => (pifs_one (pt_cmp (pc_eqI (pv 0) (pv 2))))) (fun _ _ _ _ => (pv 1))) (pe_lc (pi_list (pe_ix ix_tup (pv 0) pe_int (fun _ _ => rfl))) rfl cc_law_joined_1 (.tup (.cons (.name (by decide)) (.cons (.name (by decide)) .nil))) (fun _ _ _ _ => (pg_tup (n := 2) rfl (pgs_cons (pg_name (i := 0) cc_law_joined_1.nd rfl (Or.inl rfl)) (pgs_cons (pg_name (i := 1) cc_law_joined_1.nd rfl (Or.inl rfl)) pgs_nil)))) (fun _ _ _ _ => (pifs_one (pt_cmp (pc_eqI (pv 1) (pv 2))))) (fun _ _ _ _ => (pv 0)))) pa_nil)))), ?_⟩
  refine ⟨_, rfl, a, _, _, _, rfl, rfl, ht, rfl, b, rfl, ⟨us, hl⟩, fun l1 n1 => lc_pure l.2 (fun p => decide (p.1 = e)) (fun p => V.int p.2) n1 hl hlen hz ?_ ?_⟩
  ·intro i x d H' hx hd sm P1 P0 k1 k0
   obtain ⟨ad, p, e1, rfl, hp⟩ := das_pair (Das.same sm hq) hx
   rw [hd] at e1; cases e1
   refine ⟨ad, _, rfl, hp, rfl, _, _, rfl, _, _, rfl, rfl, _, rfl, _, rfl, _, _, rfl, rfl, _, rfl, ite2 (fun h => ⟨_, rfl, k1 h⟩) (fun h => k0 (by simpa using h))⟩
  have s1 : Same H (upd H l1 (.lst (above l.2 e |>.map V.int))) := same_upd n1
  have e1 : ((l.2.filter fun p => decide (p.1 = e)).map fun p => V.int p.2) = (above l.2 e).map V.int := by unfold above; rw [List.map_map]; rfl
  rw [e1]
  refine ⟨_, rfl, a, _, _, _, rfl, rfl, same_tseq s1 ht, rfl, b, rfl, ⟨us, s1.seq hl⟩, fun l2 n2 => lc_pure l.2 (fun p => decide (p.2 = e)) (fun p => V.int p.1) n2 (s1.seq hl) hlen hz ?_ ?_⟩
  ·intro i x d H' hx hd sm P1 P0 k1 k0
   obtain ⟨ad, p, e1, rfl, hp⟩ := das_pair (Das.same (s1.trans sm) hq) hx
   rw [hd] at e1; cases e1
   refine ⟨ad, _, rfl, hp, rfl, _, _, rfl, _, _, rfl, rfl, _, rfl, _, rfl, _, _, rfl, rfl, _, rfl, ite2 (fun h => ⟨_, rfl, k1 h⟩) (fun h => k0 (by simpa using h))⟩
  have e2 : ((l.2.filter fun p => decide (p.2 = e)).map fun p => V.int p.1) = (below l.2 e).map V.int := by unfold below; rw [List.map_map]; rfl
  rw [e2]
  have g1 : (upd (upd H l1 (.lst (above l.2 e |>.map V.int))) l2 (.lst (below l.2 e |>.map V.int))) l1 = some (.lst (above l.2 e |>.map V.int)) := by
   rw [upd_ne (ne_of_none upd_same n2), upd_same]
  have hb := below_len ok e
  have s2 : Same H (upd (upd H l1 (.lst (above l.2 e |>.map V.int))) l2 (.lst (below l.2 e |>.map V.int))) := s1.trans (same_upd n2)
  refine ⟨l1, l2, _, _, rfl, rfl, g1, upd_same, Nat.le_of_lt (small_line (by rw [List.length_map, List.length_map]; omega)), fun p hp => ?_⟩
  refine ⟨p, above l.2 e ++ below l.2 e, rfl, SqL.of (by rw [upd_same, List.map_append]), (by rw [List.length_append]; omega), fun p2 hp2 => ?_⟩
  rw [jn_eq]
  exact k p2 _ (s2.trans ((same_upd hp).trans (same_upd hp2))) (Same.free (s2.trans (same_upd hp)) hp2) upd_same
theorem ok_turned {f1 : Addr} {fd1 : FuncData} (F : Fn K mg "turned" s_turned ["train"] f fd) (B : Bl mg) (F_other_end : Fn K mg "other_end" s_other_end ["end"] f1 fd1) : FnOk P w K mg base CX0 2 f fd ["train"] (sp_round K) := by
 have G_other_end : FnOk P w K mg base CX0 1 f1 fd1 ["end"] sp_other := ok_other_end F_other_end
 refine F.F.ok sc_turned (fun vs H Q E h => ?_) (fun cdv A outer s H vs Q E hr h => ?_)
 ·obtain ⟨v, l, rfl, _⟩ := h; rfl
 ·obtain ⟨v, ns, rfl, hv, hz, k⟩ := h
  obtain ⟨a, rfl, hS⟩ := da_ints.mp hv
  refine ⟨_, (pss_one (ps_ret (pe_lc (pi_rev rfl B.reversed (pa_cons (pv 0) pa_nil)) rfl cc_turned_0 (.name (by decide)) (fun _ _ _ _ => (pg_name (i := 0) cc_turned_0.nd rfl (Or.inl rfl))) (fun _ _ _ _ => pifs_nil) (fun _ _ _ _ => (pe_call G_other_end (hr.mono (by decide)) rfl F_other_end.m F_other_end.F.kp F_other_end.b .nil pass0 (pa_cons (pv 0) pa_nil)))))), ?_⟩
  refine ⟨_, rfl, a, _, rfl, hS, fun l1 n1 => lc_pureJ (js_rev hS) ns.reverse (fun _ => true) (fun e => V.int (oth e)) n1 (by rw [List.length_map, List.length_reverse]) (by rw [List.length_map]; exact small_line hz) ?_ ?_⟩
  ·intro i x d H' hx hd sm P1 P0 k1 k0
   rw [← List.map_reverse, List.getElem?_map, hd] at hx
   cases hx
   refine name_yes ?_
   exact ⟨_, rfl, d, rfl, k1 rfl⟩
  rw [filt_true]
  refine k l1 _ (same_upd n1) n1 ?_
  rw [upd_same, List.map_map]; rfl
theorem ok_law_round {f1 : Addr} {fd1 : FuncData} (F : Fn K mg "_law_round" s_law_round ["_law_train_here"] f fd) (F_law_other : Fn K mg "_law_other" s_law_other ["_law_end"] f1 fd1) : FnOk P w K mg base CX0 2 f fd ["_law_train_here"] (sp_round K) := by
 have G_law_other : FnOk P w K mg base CX0 1 f1 fd1 ["_law_end"] sp_other := ok_law_other F_law_other
 refine F.F.ok sc_law_round (fun vs H Q E h => ?_) (fun cdv A outer s H vs Q E hr h => ?_)
 ·obtain ⟨v, l, rfl, _⟩ := h; rfl
 ·obtain ⟨v, ns, rfl, hv, hz, k⟩ := h
  obtain ⟨a, rfl, hS⟩ := da_ints.mp hv
  refine ⟨_, (pss_one (ps_ret (pe_lc (pi_list (pe_revsl (pv 0) (pe_un un_neg pe_int))) rfl cc_law_round_0 (.name (by decide)) (fun _ _ _ _ => (pg_name (i := 0) cc_law_round_0.nd rfl (Or.inl rfl))) (fun _ _ _ _ => pifs_nil) (fun _ _ _ _ => (pe_call G_law_other (hr.mono (by decide)) rfl F_law_other.m F_law_other.F.kp F_law_other.b .nil pass0 (pa_cons (pv 0) pa_nil)))))), ?_⟩
  refine ⟨_, rfl, _, rfl, _, rfl, a, _, rfl, rfl, hS, fun p hp => ⟨p, rfl, ⟨_, SqL.of upd_same⟩, fun l1 n1 => lc_pure ns.reverse (fun _ => true) (fun e => V.int (oth e)) n1 (SqL.of upd_same) (by rw [List.length_reverse, List.length_map, List.length_reverse]) (by rw [List.length_reverse, List.length_map]; exact small_line hz) ?_ ?_⟩⟩
  ·intro i x d H' hx hd sm P1 P0 k1 k0
   rw [← List.map_reverse, List.getElem?_map, hd] at hx
   cases hx
   refine name_yes ?_
   exact ⟨_, rfl, d, rfl, k1 rfl⟩
  rw [filt_true]
  refine k l1 _ ((same_upd hp).trans (same_upd n1)) (Same.free (same_upd hp) n1) ?_
  rw [upd_same, List.map_map]; rfl
theorem ok_free_ends {f1 f2 : Addr} {fd1 fd2 : FuncData} (F : Fn K mg "free_ends" s_free_ends ["line", "train", "end"] f fd) (B : Bl mg) (F_piece_of : Fn K mg "piece_of" s_piece_of ["end"] f1 fd1) (F_joined : Fn K mg "joined" s_joined ["line", "end"] f2 fd2) :
  FnOk P w K mg base CX0 2 f fd ["line", "train", "end"] (sp_free K) := by
 have G_piece_of : FnOk P w K mg base CX0 1 f1 fd1 ["end"] sp_half := ok_piece_of F_piece_of
 have G_joined : FnOk P w K mg base CX0 1 f2 fd2 ["line", "end"] (sp_joined K) := ok_joined F_joined B
 refine F.F.ok sc_free_ends (fun vs H Q E h => ?_) (fun cdv A outer s H vs Q E hr h => ?_)
 ·obtain ⟨v, u, l, ns, e, rfl, _⟩ := h; rfl
 ·obtain ⟨v, u, l, ns, e, rfl, hv, hu, ok, hz, k⟩ := h
  obtain ⟨a, rfl, hS⟩ := da_ints.mp hu
  refine ⟨_, (pss_cons (ps_set (i := 3) sc_free_ends.nd rfl (Or.inr rfl) (pe_lc (pi_list (pv 1)) rfl cc_free_ends_0 (.name (by decide)) (fun _ _ _ _ => (pg_name (i := 0) cc_free_ends_0.nd rfl (Or.inl rfl))) (fun _ _ _ _ => pifs_nil) (fun _ _ _ _ => (pe_call G_piece_of (hr.mono (by decide)) rfl F_piece_of.m F_piece_of.F.kp F_piece_of.b .nil pass0 (pa_cons (pv 0) pa_nil)))))
 (pss_one (ps_ret (pe_lc (pi_list (pe_call G_joined (hr.mono (by decide)) rfl F_joined.m F_joined.F.kp F_joined.b .nil pass0 (pa_cons (pv 0) (pa_cons (pv 2) pa_nil)))) rfl cc_free_ends_1 (.name (by decide)) (fun _ _ _ _ => (pg_name (i := 0) cc_free_ends_1.nd rfl (Or.inl rfl))) (fun _ _ _ _ => (pifs_one (pt_cmpR (op_notInDk (K := K) rfl hr.units) (pe_call G_piece_of (hr.mono (by decide)) rfl F_piece_of.m F_piece_of.F.kp F_piece_of.b .nil pass0 (pa_cons (pv 0) pa_nil)) (pv 1) (by with_unfolding_all rfl)))) (fun _ _ _ _ => (pv 0)))))), ?_⟩
  refine ⟨_, rfl, a, rfl, ⟨_, hS⟩, fun l1 n1 => lc_pure ns (fun _ => true) (fun e => V.int (e / 2)) n1 hS (by rw [List.length_map]) (by rw [List.length_map]; exact small_line hz) ?_ ?_⟩
  ·intro i x d H' hx hd sm P1 P0 k1 k0
   rw [List.getElem?_map, hd] at hx
   cases hx
   refine name_yes ?_
   exact ⟨_, rfl, d, rfl, k1 rfl⟩
  rw [filt_true]
  have e1 : (ns.map fun e => V.int (e / 2)) = (ns.map (· / 2)).map V.int := by rw [List.map_map]; rfl
  rw [e1]
  have s1 : Same H (upd H l1 (.lst ((ns.map (· / 2)).map V.int))) := same_upd n1
  refine ⟨_, rfl, _, rfl, v, l, e, rfl, Da.same s1 hv, ok, fun p H2 s2 hp hp2 => ⟨p, rfl, ⟨_, SqL.of hp2⟩, fun l2 n2 => lc_pure (jn l.2 e) (fun t => !decide (t / 2 ∈ ns.map (· / 2))) (fun t => V.int t) n2 (SqL.of hp2) (by rw [List.length_map]) ?_ ?_ ?_⟩⟩
  ·rw [List.length_map]
   refine small_line ?_
   unfold jn
   rw [srt_length, List.length_append]
   have := below_len ok e
   omega
  ·intro i x d H' hx hd sm P1 P0 k1 k0
   rw [List.getElem?_map, hd] at hx
   cases hx
   have hD : Da K H' (.list ((ns.map (· / 2)).map .int)) (.ref l1) := Da.same (s2.trans sm) (da_new upd_same)
   refine ⟨_, rfl, d, rfl, _, rfl, _, .int (d / 2), hD, dg_int.mpr rfl, okDs_I _, okD_int _, _, rfl, ?_⟩
   rw [any_I]
   exact ite2 (fun h => ⟨_, rfl, k1 h⟩) (fun h => k0 (by simpa using h))
  exact k l2 _ ((s1.trans s2).trans (same_upd n2)) (Same.free (s1.trans s2) n2) upd_same
theorem ok_moves_of {f1 f2 : Addr} {fd1 fd2 : FuncData} (F : Fn K mg "moves_of" s_moves_of ["line", "train"] f fd) (F_other_end : Fn K mg "other_end" s_other_end ["end"] f1 fd1) (F_free_ends : Fn K mg "free_ends" s_free_ends ["line", "train", "end"] f2 fd2)
  (G_free_ends : FnOk P w K mg base CX0 2 f2 fd2 ["line", "train", "end"] (sp_free K)) : FnOk P w K mg base CX0 3 f fd ["line", "train"] (sp_moves K) := by
 have G_other_end : FnOk P w K mg base CX0 1 f1 fd1 ["end"] sp_other := ok_other_end F_other_end
 refine F.F.ok sc_moves_of (fun vs H Q E h => ?_) (fun cdv A outer s H vs Q E hr h => ?_)
 ·obtain ⟨v, u, l, ns, rfl, _⟩ := h; rfl
 ·obtain ⟨v, u, l, ns, rfl, hv, hu, ok, hne, hz, k⟩ := h
  obtain ⟨a, rfl, hS⟩ := da_ints.mp hu
  refine ⟨_, (pss_cons (ps_set (i := 2) sc_moves_of.nd rfl (Or.inl rfl) (pe_lst pa_nil))
 (pss_cons (ps_for PassesOwn.never rfl (pi_list (pe_call G_free_ends (hr.mono (by decide)) rfl F_free_ends.m F_free_ends.F.kp F_free_ends.b .nil pass0 (pa_cons (pv 0) (pa_cons (pv 1) (pa_cons (pe_call G_other_end (hr.mono (by decide)) rfl F_other_end.m F_other_end.F.kp F_other_end.b .nil pass0 (pa_cons (pe_ix ix_list (pv 1) (pe_un un_neg pe_int) (fun _ _ => rfl)) pa_nil)) pa_nil))))) (pg_name (i := 3) sc_moves_of.nd rfl (Or.inl rfl))
 (pss_one (ps_expr (pe_bm PySem.F.plainAttrs_list PySem.F.slot_list_append PySem.F.type_list_append mt_append (pv 2) (pa_cons (pe_tup (pa_cons (pe_tup (pa_cons pe_str (pa_cons (pv 3) pa_nil))) (pa_cons (pe_op op_cat (pe_slice sl_list (pv 1) (po_some pe_int) po_none) (pe_lst (pa_cons (pv 3) pa_nil))) pa_nil))) pa_nil)))))
 (pss_cons (ps_for PassesOwn.never rfl (pi_list (pe_call G_free_ends (hr.mono (by decide)) rfl F_free_ends.m F_free_ends.F.kp F_free_ends.b .nil pass0 (pa_cons (pv 0) (pa_cons (pv 1) (pa_cons (pe_ix ix_list (pv 1) pe_int (fun _ _ => rfl)) pa_nil))))) (pg_name (i := 3) sc_moves_of.nd rfl (Or.inl rfl))
 (pss_one (ps_expr (pe_bm PySem.F.plainAttrs_list PySem.F.slot_list_append PySem.F.type_list_append mt_append (pv 2) (pa_cons (pe_tup (pa_cons (pe_tup (pa_cons pe_str (pa_cons (pv 3) pa_nil))) (pa_cons (pe_op op_cat (pe_lst (pa_cons (pe_call G_other_end (hr.mono (by decide)) rfl F_other_end.m F_other_end.F.kp F_other_end.b .nil pass0 (pa_cons (pv 3) pa_nil)) pa_nil)) (pe_slice sl_list (pv 1) po_none (po_some (pe_un un_neg pe_int)))) pa_nil))) pa_nil)))))
 (pss_one (ps_ret (pv 2)))))), ?_⟩
  refine ⟨Nat.zero_le _, fun t ht => ?_⟩
  have s1 : Same H (upd H t (.lst [])) := same_upd ht
  refine ⟨_, rfl, _, rfl, _, rfl, _, rfl, a, _, _, _, rfl, rfl, s1.seq hS, at_last hne, _, rfl, v, _, l, ns, _, rfl, Da.same s1 hv, Da.same s1 hu, ok, by omega, fun p H2 s2 hp hp2 => ?_⟩
  have nt : p ≠ t := (ne_of_none upd_same hp).symm
  have lenO := fr_len ok ns (oth (ns.getLastD 0))
  have lenB := fr_len ok ns (ns.headD 0)
  refine ⟨p, rfl, ⟨_, SqL.of hp2⟩, for_list (K := K) (a := p) (xs := (fr l ns (oth (ns.getLastD 0))).map V.int) (fun i σ H3 => ∃ (vs : List V) (x : Option V), σ = [some v, some (.ref a), some (.ref t), x] ∧ Same H H3 ∧ H3 p = some (.lst ((fr l ns (oth (ns.getLastD 0))).map V.int)) ∧ H3 t = some (.lst vs) ∧
    Dgs (Lf H H3 t) (SqT K H3) ((((fr l ns (oth (ns.getLastD 0))).take i).map (onM ns)).map dMv) vs)
   ⟨[], none, rfl, s1.trans s2, hp2, s2 _ _ upd_same, dgs_nil.mpr rfl⟩ (fun i σ H3 _ ⟨_, _, _, _, h, _⟩ => SqL.of h) ?_ ?_⟩
  ·rintro i y σ H3 hi ⟨vs, x, rfl, S3, hp3, ht3, D⟩
   rw [List.getElem?_map] at hi
   cases q : (fr l ns (oth (ns.getLastD 0)))[i]? with
   | none => rw [q] at hi; cases hi
   | some e =>
    rw [q] at hi
    cases hi
    have hil : i < (fr l ns (oth (ns.getLastD 0))).length := (List.getElem?_eq_some_iff.mp q).1
    refine ⟨_, rfl, .inl ⟨rfl, _, SqL.of ht3⟩, _, rfl, by show 2 ≤ sizeLine; decide, fun p1 n1 => ?_⟩
    refine ⟨_, rfl, _, rfl, a, _, rfl, (S3.trans (same_upd n1)).seq hS, fun p2 n2 => ?_⟩
    refine ⟨_, rfl, by show 1 ≤ sizeLine; decide, fun p3 n3 => ?_⟩
    rw [cut_tail] at n3 ⊢
    refine ⟨p2, p3, _, _, rfl, rfl, by rw [upd_ne (ne_of_none upd_same n3), upd_same], upd_same, ?_, fun p4 n4 => ?_⟩
    ·refine Nat.le_of_lt (small_line ?_)
     rw [List.length_map, List.length_drop]
     show ns.length - 1 + 1 ≤ 1000
     omega
    refine ⟨by show 2 ≤ sizeLine; decide, fun p5 n5 => ?_⟩
    have S5 : Same H3 _ := (same_upd n1).trans ((same_upd n2).trans ((same_upd n3).trans ((same_upd n4).trans (same_upd (o := .tup [.ref p1, .ref p4]) n5))))
    have lv : vs.length ≤ 60 := by rw [D.length, List.length_map, List.length_map, List.length_take]; omega
    refine ⟨t, vs, _, rfl, rfl, S5 _ _ ht3, small_line (by omega), ?_⟩
    have g1 : Same (upd H3 p1 (.tup [.str "on", .int e])) _ := (same_upd n2).trans ((same_upd n3).trans ((same_upd n4).trans (same_upd (o := .tup [.ref p1, .ref p4]) n5)))
    have := push_move (w := "on") (e := e) (xs := ns.drop 1 ++ [e]) S3 ht ht3 D S5 (g1 _ _ upd_same) (Same.free ((same_upd n1).trans ((same_upd n2).trans (same_upd n3))) n4) (by rw [upd_ne (ne_of_none upd_same n5), upd_same, List.map_append]; rfl) upd_same
    obtain ⟨r1, r2, r3⟩ := this
    refine ⟨_, _, rfl, r1, ?_, r2, ?_⟩
    ·rw [upd_ne nt]; exact S5 _ _ hp3
    ·rw [take_map_snoc (onM ns) _ i e q]; exact r3
  rintro σ H3 ⟨vs, x, rfl, S3, hp3, ht3, D⟩
  rw [List.length_map, List.take_length] at D
  refine ⟨_, rfl, _, rfl, _, rfl, a, _, _, _, rfl, rfl, S3.seq hS, at_first hne, v, _, l, ns, _, rfl, Da.same S3 hv, Da.same S3 hu, ok, by omega, fun p' H4 s4 hp' hp4 => ?_⟩
  have nt' : p' ≠ t := (ne_of_none ht3 hp').symm
  have D4 : Dgs (Lf H H4 t) (SqT K H4) (((fr l ns (oth (ns.getLastD 0))).map (onM ns)).map dMv) vs := Dgs.mono (fun a us ⟨h1, h2, h3⟩ => ⟨s4 _ _ h1, h2, h3⟩) (fun a us h => same_tseq s4 h) D
  refine ⟨p', rfl, ⟨_, SqL.of hp4⟩, for_list (K := K) (a := p') (xs := (fr l ns (ns.headD 0)).map V.int) (fun i σ H3 => ∃ (vs : List V) (x : Option V), σ = [some v, some (.ref a), some (.ref t), x] ∧ Same H H3 ∧ H3 p' = some (.lst ((fr l ns (ns.headD 0)).map V.int)) ∧ H3 t = some (.lst vs) ∧
    Dgs (Lf H H3 t) (SqT K H3) (((fr l ns (oth (ns.getLastD 0))).map (onM ns) ++ ((fr l ns (ns.headD 0)).take i).map (backM ns)).map dMv) vs)
   ⟨vs, x, rfl, S3.trans s4, hp4, s4 _ _ ht3, by simpa using D4⟩ (fun i σ H3 _ ⟨_, _, _, _, h, _⟩ => SqL.of h) ?_ ?_⟩
  ·rintro i y σ H3 hi ⟨vs, x, rfl, S3, hp3, ht3, D⟩
   rw [List.getElem?_map] at hi
   cases q : (fr l ns (ns.headD 0))[i]? with
   | none => rw [q] at hi; cases hi
   | some e =>
    rw [q] at hi
    cases hi
    have hil : i < (fr l ns (ns.headD 0)).length := (List.getElem?_eq_some_iff.mp q).1
    refine ⟨_, rfl, .inl ⟨rfl, _, SqL.of ht3⟩, _, rfl, by show 2 ≤ sizeLine; decide, fun p1 n1 => ?_⟩
    refine ⟨_, rfl, e, rfl, by show 1 ≤ sizeLine; decide, fun p2 n2 => ?_⟩
    refine ⟨_, rfl, _, rfl, _, rfl, a, _, rfl, (S3.trans ((same_upd n1).trans (same_upd n2))).seq hS, fun p3 n3 => ?_⟩
    have ec : cutV (ns.map V.int) none (some (-1)) = ns.dropLast.map V.int := cut_init ns
    refine ⟨p2, p3, _, _, rfl, rfl, by rw [upd_ne (ne_of_none upd_same n3), upd_same], upd_same, ?_, fun p4 n4 => ?_⟩
    ·refine Nat.le_of_lt (small_line ?_)
     show 1 + (cutV (ns.map V.int) none (some (-1))).length ≤ 1000
     rw [ec, List.length_map, List.length_dropLast]
     omega
    refine ⟨by show 2 ≤ sizeLine; decide, fun p5 n5 => ?_⟩
    have S5 : Same H3 _ := (same_upd n1).trans ((same_upd n2).trans ((same_upd n3).trans ((same_upd n4).trans (same_upd (o := .tup [.ref p1, .ref p4]) n5))))
    have lv : vs.length ≤ 120 := by rw [D.length, List.length_map, List.length_append, List.length_map, List.length_map, List.length_take]; omega
    refine ⟨t, vs, _, rfl, rfl, S5 _ _ ht3, small_line (by omega), ?_⟩
    have g1 : Same (upd H3 p1 (.tup [.str "back", .int e])) _ := (same_upd n2).trans ((same_upd n3).trans ((same_upd n4).trans (same_upd (o := .tup [.ref p1, .ref p4]) n5)))
    have := push_move (w := "back") (e := e) (xs := oth e :: ns.dropLast) S3 ht ht3 D S5 (g1 _ _ upd_same) (Same.free ((same_upd n1).trans ((same_upd n2).trans (same_upd n3))) n4) (by
     rw [upd_ne (ne_of_none upd_same n5), upd_same]
     show some (HO.lst ([V.int (oth e)] ++ cutV (ns.map V.int) none (some (-1)))) = _
     rw [ec]; rfl) upd_same
    obtain ⟨r1, r2, r3⟩ := this
    refine ⟨_, _, rfl, r1, ?_, r2, ?_⟩
    ·rw [upd_ne nt']; exact S5 _ _ hp3
    ·rw [take_map_snoc (backM ns) _ i e q, ← List.append_assoc]; exact r3
  rintro σ H3 ⟨vs, x, rfl, S3, hp3, ht3, D⟩
  rw [List.length_map, List.take_length] at D
  exact ⟨_, rfl, k t vs H3 S3 ht ht3 D⟩
theorem ok_law_moves {f1 f2 : Addr} {fd1 fd2 : FuncData} (F : Fn K mg "_law_moves" s_law_moves ["_law_line_here", "_law_train_here"] f fd) (F_law_other : Fn K mg "_law_other" s_law_other ["_law_end"] f1 fd1) (F_law_joined : Fn K mg "_law_joined" s_law_joined ["_law_line_here", "_law_end"] f2 fd2)
  (B : Bl mg) : FnOk P w K mg base CX0 2 f fd ["_law_line_here", "_law_train_here"] (sp_moves K) := by
 have G_law_other : FnOk P w K mg base CX0 1 f1 fd1 ["_law_end"] sp_other := ok_law_other F_law_other
 have G_law_joined : FnOk P w K mg base CX0 1 f2 fd2 ["_law_line_here", "_law_end"] (sp_joined K) := ok_law_joined F_law_joined B
 refine F.F.ok sc_law_moves (fun vs H Q E h => ?_) (fun cdv A outer s H vs Q E hr h => ?_)
 ·obtain ⟨v, u, l, ns, rfl, _⟩ := h; rfl
 ·obtain ⟨v, u, l, ns, rfl, hv, hu, ok, hne, hz, k⟩ := h
  obtain ⟨a, rfl, hS⟩ := da_ints.mp hu
  refine ⟨_, (pss_cons (ps_lc (i := 3) sc_law_moves.nd rfl rfl (pi_list (pv 1)) rfl cc_law_moves_0 (.name (by decide)) (fun _ _ _ _ => (pg_name (i := 0) cc_law_moves_0.nd rfl (Or.inl rfl))) (fun _ _ _ _ => pifs_nil) (fun _ _ _ _ => (pe_op op_fdiv (pv 0) pe_int)))
 (pss_cons (ps_set (i := 4) sc_law_moves.nd rfl (Or.inl rfl) (pe_lst pa_nil))
 (pss_cons (ps_for PassesOwn.never rfl (pi_list (pe_call G_law_joined (hr.mono (by decide)) rfl F_law_joined.m F_law_joined.F.kp F_law_joined.b .nil pass0 (pa_cons (pv 0) (pa_cons (pe_call G_law_other (hr.mono (by decide)) rfl F_law_other.m F_law_other.F.kp F_law_other.b .nil pass0 (pa_cons (pe_ix ix_list (pv 1) (pe_un un_neg pe_int) (fun _ _ => rfl)) pa_nil)) pa_nil)))) (pg_name (i := 2) sc_law_moves.nd rfl (Or.inl rfl))
 (pss_one (ps_if (pt_cmpR (op_notInD hr.units) (pe_op op_fdiv (pv 2) pe_int) (pv 3) (by with_unfolding_all rfl))
 (pss_one (ps_expr (pe_bm PySem.F.plainAttrs_list PySem.F.slot_list_append PySem.F.type_list_append mt_append (pv 4) (pa_cons (pe_tup (pa_cons (pe_tup (pa_cons pe_str (pa_cons (pv 2) pa_nil))) (pa_cons (pe_op op_cat (pe_slice sl_list (pv 1) (po_some pe_int) po_none) (pe_lst (pa_cons (pv 2) pa_nil))) pa_nil))) pa_nil)))) pss_nil)))
 (pss_cons (ps_for PassesOwn.never rfl (pi_list (pe_call G_law_joined (hr.mono (by decide)) rfl F_law_joined.m F_law_joined.F.kp F_law_joined.b .nil pass0 (pa_cons (pv 0) (pa_cons (pe_ix ix_list (pv 1) pe_int (fun _ _ => rfl)) pa_nil)))) (pg_name (i := 2) sc_law_moves.nd rfl (Or.inl rfl))
 (pss_one (ps_if (pt_cmpR (op_notInD hr.units) (pe_op op_fdiv (pv 2) pe_int) (pv 3) (by with_unfolding_all rfl))
 (pss_one (ps_expr (pe_bm PySem.F.plainAttrs_list PySem.F.slot_list_append PySem.F.type_list_append mt_append (pv 4) (pa_cons (pe_tup (pa_cons (pe_tup (pa_cons pe_str (pa_cons (pv 2) pa_nil))) (pa_cons (pe_op op_cat (pe_lst (pa_cons (pe_call G_law_other (hr.mono (by decide)) rfl F_law_other.m F_law_other.F.kp F_law_other.b .nil pass0 (pa_cons (pv 2) pa_nil)) pa_nil)) (pe_slice sl_list (pv 1) po_none (po_some (pe_un un_neg pe_int)))) pa_nil))) pa_nil)))) pss_nil)))
 (pss_one (ps_ret (pv 4))))))), ?_⟩
  refine ⟨_, rfl, a, rfl, ⟨_, hS⟩, fun pc n0 => lc_pure ns (fun _ => true) (fun e => V.int (e / 2)) n0 hS (by rw [List.length_map]) (by rw [List.length_map]; exact small_line (by omega)) ?_ ?_⟩
  ·intro i x d H' hx hd sm P1 P0 k1 k0
   rw [List.getElem?_map, hd] at hx
   cases hx
   refine name_yes ?_
   exact ⟨_, rfl, _, _, rfl, rfl, ⟨by decide, by decide⟩, k1 rfl⟩
  rw [filt_true]
  have e1 : (ns.map fun e => V.int (e / 2)) = (ns.map (· / 2)).map V.int := by rw [List.map_map]; rfl
  rw [e1]
  have s0 : Same H (upd H pc (.lst ((ns.map (· / 2)).map V.int))) := same_upd n0
  have hpc : (upd H pc (.lst ((ns.map (· / 2)).map V.int))) pc = some (.lst ((ns.map (· / 2)).map V.int)) := upd_same
  generalize hH0 : upd H pc (.lst ((ns.map (· / 2)).map V.int)) = H0 at s0 hpc
  refine ⟨Nat.zero_le _, fun t ht => ?_⟩
  have s1 : Same H0 (upd H0 t (.lst [])) := same_upd ht
  have S1 : Same H (upd H0 t (.lst [])) := s0.trans s1
  refine ⟨_, rfl, _, rfl, _, rfl, a, _, _, _, rfl, rfl, S1.seq hS, at_last hne, _, rfl, v, l, _, rfl, Da.same S1 hv, ok, fun p H2 s2 hp hp2 => ?_⟩
  have nt : p ≠ t := (ne_of_none upd_same hp).symm
  have lenO := jn_len ok (oth (ns.getLastD 0))
  have lenB := jn_len ok (ns.headD 0)
  refine ⟨p, rfl, ⟨_, SqL.of hp2⟩, for_list (K := K) (a := p) (xs := (jn l.2 (oth (ns.getLastD 0))).map V.int) (fun i σ H3 => ∃ (vs : List V) (x : Option V), σ = [some v, some (.ref a), x, some (.ref pc), some (.ref t)] ∧ Same H0 H3 ∧ H3 p = some (.lst ((jn l.2 (oth (ns.getLastD 0))).map V.int)) ∧ H3 t = some (.lst vs) ∧
    Dgs (Lf H0 H3 t) (SqT K H3) (((((jn l.2 (oth (ns.getLastD 0))).take i).filter fun t => !decide (t / 2 ∈ ns.map (· / 2))).map (onM ns)).map dMv) vs)
   ⟨[], none, rfl, s1.trans s2, hp2, s2 _ _ upd_same, dgs_nil.mpr rfl⟩ (fun i σ H3 _ ⟨_, _, _, _, h, _⟩ => SqL.of h) ?_ ?_⟩
  ·rintro i y σ H3 hi ⟨vs, x, rfl, S3, hp3, ht3, D⟩
   rw [List.getElem?_map] at hi
   cases q : (jn l.2 (oth (ns.getLastD 0)))[i]? with
   | none => rw [q] at hi; cases hi
   | some e =>
    rw [q] at hi
    cases hi
    have hil : i < (jn l.2 (oth (ns.getLastD 0))).length := (List.getElem?_eq_some_iff.mp q).1
    have st := take_succ_filter (fun t => !decide (t / 2 ∈ ns.map (· / 2))) _ i e q
    refine ⟨_, rfl, _, _, rfl, rfl, ⟨by decide, by decide⟩, _, rfl, _, .int (e / 2), da_new (S3 _ _ hpc), dg_int.mpr rfl, okDs_I _, okD_int _, _, rfl, ?_⟩
    rw [any_I]
    refine ite2 (c := (!decide (e / 2 ∈ ns.map (· / 2))) = true) (fun hc => ?_) (fun hc => ?_)
    ·refine ⟨_, rfl, .inl ⟨rfl, _, SqL.of ht3⟩, _, rfl, by show 2 ≤ sizeLine; decide, fun p1 n1 => ?_⟩
     refine ⟨_, rfl, _, rfl, a, _, rfl, ((s0.trans S3).trans (same_upd n1)).seq hS, fun p2 n2 => ?_⟩
     refine ⟨_, rfl, by show 1 ≤ sizeLine; decide, fun p3 n3 => ?_⟩
     rw [cut_tail] at n3 ⊢
     refine ⟨p2, p3, _, _, rfl, rfl, by rw [upd_ne (ne_of_none upd_same n3), upd_same], upd_same, ?_, fun p4 n4 => ?_⟩
     ·refine Nat.le_of_lt (small_line ?_)
      rw [List.length_map, List.length_drop]
      show ns.length - 1 + 1 ≤ 1000
      omega
     refine ⟨by show 2 ≤ sizeLine; decide, fun p5 n5 => ?_⟩
     have S5 : Same H3 _ := (same_upd n1).trans ((same_upd n2).trans ((same_upd n3).trans ((same_upd n4).trans (same_upd (o := .tup [.ref p1, .ref p4]) n5))))
     have lv : vs.length ≤ 60 := by
      rw [D.length, List.length_map, List.length_map]
      refine Nat.le_trans (List.length_filter_le _ _) ?_
      rw [List.length_take]; omega
     refine ⟨t, vs, _, rfl, rfl, S5 _ _ ht3, small_line (by omega), ?_⟩
     have g1 : Same (upd H3 p1 (.tup [.str "on", .int e])) _ := (same_upd n2).trans ((same_upd n3).trans ((same_upd n4).trans (same_upd (o := .tup [.ref p1, .ref p4]) n5)))
     obtain ⟨r1, r2, r3⟩ := push_move (w := "on") (e := e) (xs := ns.drop 1 ++ [e]) S3 ht ht3 D S5 (g1 _ _ upd_same) (Same.free ((same_upd n1).trans ((same_upd n2).trans (same_upd n3))) n4) (by rw [upd_ne (ne_of_none upd_same n5), upd_same, List.map_append]; rfl) upd_same
     refine ⟨_, _, rfl, r1, ?_, r2, ?_⟩
     ·rw [upd_ne nt]; exact S5 _ _ hp3
     ·rw [st, if_pos hc, List.map_append]; exact r3
    ·refine ⟨vs, _, rfl, S3, hp3, ht3, ?_⟩
     rw [st, if_neg hc, List.append_nil]; exact D
  rintro σ H3 ⟨vs, x, rfl, S3, hp3, ht3, D⟩
  rw [List.length_map, List.take_length] at D
  refine ⟨_, rfl, _, rfl, a, _, _, _, rfl, rfl, (s0.trans S3).seq hS, at_first hne, v, l, _, rfl, Da.same (s0.trans S3) hv, ok, fun p' H4 s4 hp' hp4 => ?_⟩
  have nt' : p' ≠ t := (ne_of_none ht3 hp').symm
  have D4 : Dgs (Lf H0 H4 t) (SqT K H4) (((fr l ns (oth (ns.getLastD 0))).map (onM ns)).map dMv) vs := Dgs.mono (fun a us ⟨h1, h2, h3⟩ => ⟨s4 _ _ h1, h2, h3⟩) (fun a us h => same_tseq s4 h) D
  have lenF := fr_len ok ns (oth (ns.getLastD 0))
  refine ⟨p', rfl, ⟨_, SqL.of hp4⟩, for_list (K := K) (a := p') (xs := (jn l.2 (ns.headD 0)).map V.int) (fun i σ H3 => ∃ (vs : List V) (x : Option V), σ = [some v, some (.ref a), x, some (.ref pc), some (.ref t)] ∧ Same H0 H3 ∧ H3 p' = some (.lst ((jn l.2 (ns.headD 0)).map V.int)) ∧ H3 t = some (.lst vs) ∧
    Dgs (Lf H0 H3 t) (SqT K H3) (((fr l ns (oth (ns.getLastD 0))).map (onM ns) ++ (((jn l.2 (ns.headD 0)).take i).filter fun t => !decide (t / 2 ∈ ns.map (· / 2))).map (backM ns)).map dMv) vs)
   ⟨vs, x, rfl, S3.trans s4, hp4, s4 _ _ ht3, by simpa using D4⟩ (fun i σ H3 _ ⟨_, _, _, _, h, _⟩ => SqL.of h) ?_ ?_⟩
  ·rintro i y σ H3 hi ⟨vs, x, rfl, S3, hp3, ht3, D⟩
   rw [List.getElem?_map] at hi
   cases q : (jn l.2 (ns.headD 0))[i]? with
   | none => rw [q] at hi; cases hi
   | some e =>
    rw [q] at hi
    cases hi
    have hil : i < (jn l.2 (ns.headD 0)).length := (List.getElem?_eq_some_iff.mp q).1
    have st := take_succ_filter (fun t => !decide (t / 2 ∈ ns.map (· / 2))) _ i e q
    refine ⟨_, rfl, _, _, rfl, rfl, ⟨by decide, by decide⟩, _, rfl, _, .int (e / 2), da_new (S3 _ _ hpc), dg_int.mpr rfl, okDs_I _, okD_int _, _, rfl, ?_⟩
    rw [any_I]
    refine ite2 (c := (!decide (e / 2 ∈ ns.map (· / 2))) = true) (fun hc => ?_) (fun hc => ?_)
    ·refine ⟨_, rfl, .inl ⟨rfl, _, SqL.of ht3⟩, _, rfl, by show 2 ≤ sizeLine; decide, fun p1 n1 => ?_⟩
     refine ⟨_, rfl, e, rfl, by show 1 ≤ sizeLine; decide, fun p2 n2 => ?_⟩
     refine ⟨_, rfl, _, rfl, _, rfl, a, _, rfl, ((s0.trans S3).trans ((same_upd n1).trans (same_upd n2))).seq hS, fun p3 n3 => ?_⟩
     have ec : cutV (ns.map V.int) none (some (-1)) = ns.dropLast.map V.int := cut_init ns
     refine ⟨p2, p3, _, _, rfl, rfl, by rw [upd_ne (ne_of_none upd_same n3), upd_same], upd_same, ?_, fun p4 n4 => ?_⟩
     ·refine Nat.le_of_lt (small_line ?_)
      show 1 + (cutV (ns.map V.int) none (some (-1))).length ≤ 1000
      rw [ec, List.length_map, List.length_dropLast]
      omega
     refine ⟨by show 2 ≤ sizeLine; decide, fun p5 n5 => ?_⟩
     have S5 : Same H3 _ := (same_upd n1).trans ((same_upd n2).trans ((same_upd n3).trans ((same_upd n4).trans (same_upd (o := .tup [.ref p1, .ref p4]) n5))))
     have lv : vs.length ≤ 120 := by
      rw [D.length, List.length_map, List.length_append, List.length_map, List.length_map]
      have := List.length_filter_le (fun t => !decide (t / 2 ∈ ns.map (· / 2))) ((jn l.2 (ns.headD 0)).take i)
      rw [List.length_take] at this
      omega
     refine ⟨t, vs, _, rfl, rfl, S5 _ _ ht3, small_line (by omega), ?_⟩
     have g1 : Same (upd H3 p1 (.tup [.str "back", .int e])) _ := (same_upd n2).trans ((same_upd n3).trans ((same_upd n4).trans (same_upd (o := .tup [.ref p1, .ref p4]) n5)))
     obtain ⟨r1, r2, r3⟩ := push_move (w := "back") (e := e) (xs := oth e :: ns.dropLast) S3 ht ht3 D S5 (g1 _ _ upd_same) (Same.free ((same_upd n1).trans ((same_upd n2).trans (same_upd n3))) n4) (by
      rw [upd_ne (ne_of_none upd_same n5), upd_same]
      show some (HO.lst ([V.int (oth e)] ++ cutV (ns.map V.int) none (some (-1)))) = _
      rw [ec]; rfl) upd_same
     refine ⟨_, _, rfl, r1, ?_, r2, ?_⟩
     ·rw [upd_ne nt']; exact S5 _ _ hp3
     ·rw [st, if_pos hc, List.map_append (f := backM ns), ← List.append_assoc]; exact r3
    ·refine ⟨vs, _, rfl, S3, hp3, ht3, ?_⟩
     rw [st, if_neg hc, List.append_nil]; exact D
  rintro σ H3 ⟨vs, x, rfl, S3, hp3, ht3, D⟩
  rw [List.length_map, List.take_length] at D
  exact ⟨_, rfl, k t vs H3 (s0.trans S3) (Same.free s0 ht) ht3 (Dgs.mono (fun a us ⟨h1, h2, h3⟩ => ⟨h1, Same.free s0 h2, h3⟩) (fun _ _ h => h) D)⟩
end
end K34
namespace K34
open PySem L2 TL PyProof.Rows
theorem small_l {n : Nat} (h : n ≤ 1000) : n < sizeLine := Nat.lt_of_le_of_lt h (by decide)
def sp_row (K : PySem.W.Frag) : Sp := fun vs H Q _ => ∃ n m : Int, vs = [.int n, .int m] ∧ 0 ≤ m ∧ m ≤ 40 ∧ ∀ (p : Addr) (ns : List Int) (H' : Hp), Same H H' → H p = none → H' p = some (.lst (ns.map V.int)) → (ns.length : Int) = m → (∀ x ∈ ns, 0 ≤ x ∧ x < m) → ns.Nodup → Q (.ref p) H'
def sp_renamed (K : PySem.W.Frag) : Sp := fun vs H Q _ => ∃ (v : V) (l : Ln) (c : Int), vs = [v, .int c] ∧ Da K H (dL l) v ∧ GLine l ∧ ∀ (v' : V) (js' : List (Int × Int)) (nm es : List Int) (H' : Hp), Same H H' → Da K H' (dL (l.1, js')) v' → Ren l.1 nm es → js'.Perm (l.2.map (rj es)) → Q v' H'
abbrev s_law_turned_row : Stmt := top 34
theorem sc_law_turned_row : FnScope ["_law_number", "_law_many", "_law_told", "_law_k"] ["_law_number", "_law_many"] (defScope s_law_turned_row) := ⟨rfl, rfl, rfl, by decide +kernel, rfl, by decide +kernel, by decide +kernel⟩
abbrev s_law_renamed : Stmt := top 38
theorem sc_law_renamed : FnScope ["_law_line_here", "_law_cell", "_law_many", "_law_joints", "_law_names", "_law_ends", "_law_piece", "_law_flip", "_law_made", "_law_k", "_law_a", "_law_b", "_law_joint"] ["_law_line_here", "_law_cell"] (defScope s_law_renamed) := ⟨rfl, rfl, rfl, by decide +kernel, rfl, by decide +kernel, by decide +kernel⟩
section
variable {P : Program} {w : World} {K : PySem.W.Frag} {mg : Str → Option Value} {base : Heap} {f : Addr} {fd : FuncData}
theorem ok_law_turned_row (F : Fn K mg "_law_turned_row" s_law_turned_row ["_law_number", "_law_many"] f fd) (B : Bl mg) : FnOk P w K mg base CX0 1 f fd ["_law_number", "_law_many"] (sp_row K) := by
 refine F.F.ok sc_law_turned_row (fun vs H Q E h => ?_) (fun cdv A outer s H vs Q E hr h => ?_)
 ·obtain ⟨n, m, rfl, _⟩ := h; rfl
 ·obtain ⟨n, m, rfl, h0, h1, k⟩ := h
  refine ⟨_, (pss_cons (ps_set (i := 2) sc_law_turned_row.nd rfl (Or.inl rfl) (pe_lst pa_nil))
 (pss_cons (ps_for PassesOwn.never rfl (pi_range1 rfl B.range (pa_cons (pv 1) pa_nil)) (pg_name (i := 3) sc_law_turned_row.nd rfl (Or.inl rfl))
 (pss_cons (ps_expr (pe_bm PySem.F.plainAttrs_list PySem.F.slot_list_insert PySem.F.type_list_insert mt_insert (pv 2) (pa_cons (pe_op op_mod (pv 0) (pe_op op_add (pv 3) pe_int)) (pa_cons (pv 3) pa_nil))))
 (pss_one (ps_set (i := 0) sc_law_turned_row.nd rfl (Or.inl rfl) (pe_op op_fdiv (pv 0) (pe_op op_add (pv 3) pe_int))))))
 (pss_one (ps_ret (pv 2))))), ?_⟩
  refine ⟨Nat.zero_le _, fun t ht => ?_⟩
  refine ⟨_, rfl, m, rfl, by omega, by omega, for_range (fun i σ H3 => ∃ (n : Int) (ns : List Int) (x : Option V), σ = [some (.int n), some (.int m), some (.ref t), x] ∧ H3 = upd H t (.lst (ns.map V.int)) ∧ ns.length = i ∧ (∀ x ∈ ns, 0 ≤ x ∧ x < (i : Int)) ∧ ns.Nodup)
   ⟨n, [], none, rfl, rfl, rfl, fun x hx => (nomatch hx), List.nodup_nil⟩ ?_ ?_⟩
  ·rintro i σ H3 hi ⟨n, ns, x, rfl, rfl, hlen, hb, hnd⟩
   have i0 : (0 : Int) + (i : Nat) = (i : Int) := by omega
   rw [i0]
   have r0 : 0 ≤ n % ((i : Int) + 1) := Int.emod_nonneg _ (by omega)
   have r1 : n % ((i : Int) + 1) < (i : Int) + 1 := Int.emod_lt_of_pos _ (by omega)
   refine ⟨_, rfl, .inl ⟨rfl, _, SqL.of upd_same⟩, _, rfl, _, rfl, _, _, rfl, rfl, _, _, rfl, rfl, (by show (0 : Int) < (i : Int) + 1; omega), _, rfl, t, _, _, _, rfl, rfl, upd_same, r0, ?_, ?_, ?_⟩
   ·show n % ((i : Int) + 1) ≤ ((ns.map V.int).length : Int)
    rw [List.length_map, hlen]; omega
   ·rw [List.length_map, hlen]; exact small_l (by omega)
   refine ⟨_, rfl, _, rfl, _, _, rfl, rfl, _, _, rfl, rfl, ⟨by show (0 : Int) < (i : Int) + 1; omega, by show (i : Int) + 1 < 1073741824; omega⟩, ?_⟩
   have pm := perm_ins ns (n % ((i : Int) + 1)).toNat (i : Int)
   refine ⟨_, ns.take (n % ((i : Int) + 1)).toNat ++ (i : Int) :: ns.drop (n % ((i : Int) + 1)).toNat, _, rfl, ?_, ?_, ?_, ?_⟩
   ·rw [upd_upd, List.map_append, List.map_cons, List.map_take, List.map_drop]
   ·rw [pm.length_eq, List.length_cons, hlen]
   ·intro x hx
    rcases List.mem_cons.mp (pm.mem_iff.mp hx) with z | z
    ·omega
    ·have := hb x z; omega
   ·refine pm.nodup_iff.mpr (List.nodup_cons.mpr ⟨fun z => ?_, hnd⟩)
    have := (hb _ z).2
    omega
  ·rintro σ H3 ⟨n, ns, x, rfl, rfl, hlen, hb, hnd⟩
   exact ⟨_, rfl, k t ns _ (same_upd ht) ht upd_same (by omega) (fun x hx => by have := hb x hx; omega) hnd⟩
end
end K34
namespace K34
open PySem L2 TL PyProof.Rows
section
variable {P : Program} {w : World} {K : PySem.W.Frag} {mg : Str → Option Value} {base : Heap} {f : Addr} {fd : FuncData}
theorem ok_law_renamed {f1 f2 : Addr} {fd1 fd2 : FuncData} (F : Fn K mg "_law_renamed" s_law_renamed ["_law_line_here", "_law_cell"] f fd) (F_law_mix : Fn K mg "_law_mix" s_law_mix ["_law_cell", "_law_k"] f1 fd1) (F_law_turned_row : Fn K mg "_law_turned_row" s_law_turned_row ["_law_number", "_law_many"] f2 fd2)
  (B : Bl mg) : FnOk P w K mg base CX0 2 f fd ["_law_line_here", "_law_cell"] (sp_renamed K) := by
 have G_law_mix : FnOk P w K mg base CX0 1 f1 fd1 ["_law_cell", "_law_k"] sp_mix := ok_law_mix F_law_mix B
 have G_law_turned_row : FnOk P w K mg base CX0 1 f2 fd2 ["_law_number", "_law_many"] (sp_row K) := ok_law_turned_row F_law_turned_row B
 refine F.F.ok sc_law_renamed (fun vs H Q E h => ?_) (fun cdv A outer s H vs Q E hr h => ?_)
 ·obtain ⟨v, l, c, rfl, _⟩ := h; rfl
 ·obtain ⟨v, ⟨m, js⟩, c, rfl, hv, G, k⟩ := h
  have h1 : 1 ≤ m := G.one
  have h14 : m ≤ 14 := G.most
  have h40 : m ≤ 40 := by omega
  have hjl : js.length ≤ 24 := G.len
  obtain ⟨a, b, rfl, ht, us, hl, hq⟩ := da_line hv
  dsimp only at ht hq k
  refine ⟨_, (pss_cons (ps_asg (pv 0) (pg_tup (n := 2) rfl (pgs_cons (pg_name (i := 2) sc_law_renamed.nd rfl (Or.inl rfl)) (pgs_cons (pg_name (i := 3) sc_law_renamed.nd rfl (Or.inl rfl)) pgs_nil))))
 (pss_cons (ps_set (i := 4) sc_law_renamed.nd rfl (Or.inl rfl) (pe_call G_law_turned_row (hr.mono (by decide)) rfl F_law_turned_row.m F_law_turned_row.F.kp F_law_turned_row.b .nil pass0 (pa_cons (pe_call G_law_mix (hr.mono (by decide)) rfl F_law_mix.m F_law_mix.F.kp F_law_mix.b .nil pass0 (pa_cons (pv 1) (pa_cons pe_int pa_nil))) (pa_cons (pv 2) pa_nil))))
 (pss_cons (ps_set (i := 5) sc_law_renamed.nd rfl (Or.inl rfl) (pe_lst pa_nil))
 (pss_cons (ps_for PassesOwn.never rfl (pi_range1 rfl B.range (pa_cons (pv 2) pa_nil)) (pg_name (i := 6) sc_law_renamed.nd rfl (Or.inl rfl))
 (pss_cons (ps_set (i := 7) sc_law_renamed.nd rfl (Or.inl rfl) (pe_op op_mod (pe_call G_law_mix (hr.mono (by decide)) rfl F_law_mix.m F_law_mix.F.kp F_law_mix.b .nil pass0 (pa_cons (pv 1) (pa_cons (pe_op op_add pe_int (pv 6)) pa_nil))) pe_int))
 (pss_one (ps_set (i := 5) sc_law_renamed.nd rfl (Or.inl rfl) (pe_op op_cat (pv 5) (pe_lst (pa_cons (pe_op op_add (pe_op op_mul pe_int (pe_ix ix_list (pv 4) (pv 6) (fun _ _ => rfl))) (pv 7)) (pa_cons (pe_op op_sub (pe_op op_add (pe_op op_mul pe_int (pe_ix ix_list (pv 4) (pv 6) (fun _ _ => rfl))) pe_int) (pv 7)) pa_nil))))))))
 (pss_cons (ps_set (i := 8) sc_law_renamed.nd rfl (Or.inl rfl) (pe_lst pa_nil))
 (pss_cons (ps_for PassesOwn.never rfl (pi_enum rfl B.enumerate (pa_cons (pv 3) pa_nil)) (pg_tup (n := 2) rfl (pgs_cons (pg_name (i := 9) sc_law_renamed.nd rfl (Or.inl rfl)) (pgs_cons (pg_tup (n := 2) rfl (pgs_cons (pg_name (i := 10) sc_law_renamed.nd rfl (Or.inl rfl)) (pgs_cons (pg_name (i := 11) sc_law_renamed.nd rfl (Or.inl rfl)) pgs_nil))) pgs_nil)))
 (pss_cons (ps_set (i := 12) sc_law_renamed.nd rfl (Or.inl rfl) (pe_tup (pa_cons (pe_callB (call_min2 rfl) rfl B.min boot_min (pa_cons (pe_ix ix_list (pv 5) (pv 10) (fun _ _ => rfl)) (pa_cons (pe_ix ix_list (pv 5) (pv 11) (fun _ _ => rfl)) pa_nil))) (pa_cons (pe_callB (call_max2 rfl) rfl B.max boot_max (pa_cons (pe_ix ix_list (pv 5) (pv 10) (fun _ _ => rfl)) (pa_cons (pe_ix ix_list (pv 5) (pv 11) (fun _ _ => rfl)) pa_nil))) pa_nil))))
 (pss_one (ps_expr (pe_bm PySem.F.plainAttrs_list PySem.F.slot_list_insert PySem.F.type_list_insert mt_insert (pv 8) (pa_cons (pe_op op_mod (pe_call G_law_mix (hr.mono (by decide)) rfl F_law_mix.m F_law_mix.F.kp F_law_mix.b .nil pass0 (pa_cons (pv 1) (pa_cons (pe_op op_add pe_int (pv 9)) pa_nil))) (pe_op op_add (pv 9) pe_int)) (pa_cons (pv 12) pa_nil)))))))
 (pss_one (ps_ret (pe_tup (pa_cons (pv 2) (pa_cons (pv 8) pa_nil))))))))))), ?_⟩
  refine ⟨_, rfl, a, _, rfl, ht, rfl, _, _, rfl, _, _, rfl, rfl, ?_⟩
  refine ⟨_, rfl, c, 0, rfl, by decide, by decide, fun n n0 n1 => ⟨_, rfl, n, m, rfl, by omega, h40, fun pn nm H1 s1 hn1 hn2 nlen nb nnd => ?_⟩⟩
  refine ⟨Nat.zero_le _, fun q0 nq0 => ?_⟩
  refine ⟨_, rfl, m, rfl, by omega, by omega, for_range (fun i σ H3 => ∃ (q : Addr) (es : List Int) (x6 x7 : Option V), σ = [some (.ref a), some (.int c), some (.int m), some (.ref b), some (.ref pn), some (.ref q), x6, x7, none, none, none, none, none] ∧ Same H1 H3 ∧ H3 q = some (.lst (es.map V.int)) ∧ es.length = 2 * i ∧ (∀ j, j < i → ∃ f : Int, (f = 0 ∨ f = 1) ∧ es[2 * j]? = some (2 * nm.getD j 0 + f) ∧ es[2 * j + 1]? = some (2 * nm.getD j 0 + 1 - f)))
   ⟨q0, [], none, none, rfl, same_upd nq0, upd_same, rfl, fun j hj => absurd hj (Nat.not_lt_zero j)⟩ ?_ ?_⟩
  ·rintro i σ H3 hi ⟨q, es, x6, x7, rfl, S3, hq3, elen, eb⟩
   have i0 : (0 : Int) + (i : Nat) = (i : Int) := by omega
   rw [i0]
   obtain ⟨nx, hnx, hmem, hat⟩ := at_int (ns := nm) (i := (i : Int)) (by omega) (by omega)
   have nbx := nb nx hmem
   have hSn : SqL K H3 pn (nm.map V.int) := SqL.of (S3 _ _ hn2)
   refine ⟨_, rfl, _, rfl, _, _, rfl, rfl, c, _, rfl, by show (0 : Int) ≤ 20 + i; omega, by show 20 + (i : Int) ≤ 1000; omega, fun n n0 n1 => ⟨_, _, rfl, rfl, (by show (0 : Int) < _; decide), ?_⟩⟩
   refine ⟨_, rfl, _, rfl, _, rfl, pn, _, _, _, rfl, rfl, hSn, hat, _, _, rfl, rfl, .inl ⟨by decide, by decide⟩, _, rfl, _, _, rfl, rfl, _, rfl, _, rfl, pn, _, _, _, rfl, rfl, hSn, hat, _, _, rfl, rfl, .inl ⟨by decide, by decide⟩, _, _, rfl, rfl, _, rfl, _, _, rfl, rfl, by show 2 ≤ sizeLine; decide, fun q1 nq1 => ?_⟩
   refine ⟨q, q1, _, _, rfl, rfl, by rw [upd_ne (ne_of_none hq3 nq1)]; exact hq3, upd_same, ?_, fun q2 nq2 => ?_⟩
   ·refine Nat.le_of_lt (small_l ?_)
    rw [List.length_map, elen]
    show 2 * i + 2 ≤ 1000
    omega
   refine ⟨q2, es ++ [2 * nx + n % 2, 2 * nx + 1 - n % 2], _, _, rfl, S3.trans ((same_upd nq1).trans (same_upd nq2)), ?_, ?_, ?_⟩
   ·rw [upd_same, List.map_append]; rfl
   ·rw [List.length_append, elen]; show 2 * i + 2 = _; omega
   ·intro j hj
    have hnx' : nm.getD i 0 = nx := by rw [List.getD_eq_getElem?_getD, show i = ((i : Int)).toNat by omega, hnx]; rfl
    rcases Nat.lt_succ_iff_lt_or_eq.mp hj with z | z
    ·obtain ⟨f, hf, e1, e2⟩ := eb j z
     exact ⟨f, hf, by rw [List.getElem?_append_left (by omega)]; exact e1, by rw [List.getElem?_append_left (by omega)]; exact e2⟩
    ·subst z
     refine ⟨n % 2, by omega, ?_, ?_⟩
     ·rw [List.getElem?_append_right (by omega), elen, Nat.sub_self, hnx']; rfl
     ·rw [List.getElem?_append_right (by omega), elen, show 2 * j + 1 - 2 * j = 1 by omega, hnx']; rfl
  rintro σ H3 ⟨q, es, x6, x7, rfl, S3, hq3, elen, eb⟩
  have R : Ren m nm es := ⟨nlen, nb, nnd, by omega, fun j hj => eb j (by omega)⟩
  refine ⟨Nat.zero_le _, fun t nt => ?_⟩
  have hl3 : SqL K H3 b us := (s1.trans S3).seq hl
  have hq4 : Das K H3 (js.map dP) us := Das.same (s1.trans S3) hq
  have hul : us.length = js.length := by rw [Dgs.length hq, List.length_map]
  refine ⟨_, rfl, b, rfl, ⟨us, (same_upd nt).seq hl3⟩, for_enum (K := K) (a := b) (xs := us) (fun i σ H4 => ∃ (vs : List V) (js' : List (Int × Int)) (x9 x10 x11 x12 : Option V), σ = [some (.ref a), some (.int c), some (.int m), some (.ref b), some (.ref pn), some (.ref q), x6, x7, some (.ref t), x9, x10, x11, x12] ∧ Same H3 H4 ∧ H4 t = some (.lst vs) ∧ Ps K H4 js' vs ∧ js'.length = i ∧ js'.Perm ((js.take i).map (rj es)))
   ⟨[], [], none, none, none, none, rfl, same_upd nt, upd_same, dgs_nil.mpr rfl, rfl, .refl _⟩ (fun i σ H4 _ ⟨_, _, _, _, _, _, _, S4, _⟩ => S4.seq hl3) ?_ ?_⟩
  ·rintro i x σ H4 p0 hi ⟨vs, js', x9, x10, x11, x12, rfl, S4, ht4, D, jlen, jb⟩ n0
   have hil : i < us.length := (List.getElem?_eq_some_iff.mp hi).1
   have S5 : Same H3 (upd H4 p0 (.tup [.int i, x])) := S4.trans (same_upd n0)
   obtain ⟨ad, ⟨ea, eb'⟩, e1, rfl, hpr⟩ := das_pair (Das.same S5 hq4) hi
   dsimp only at hpr
   have hbd := G.ok (ea, eb') (List.mem_of_getElem? e1)
   unfold okJ at hbd
   dsimp only at hbd
   obtain ⟨xa, ga, ma, hata⟩ := at_int (ns := es) (i := ea) hbd.1.1 (by omega)
   obtain ⟨xb, gb, mb, hatb⟩ := at_int (ns := es) (i := eb') hbd.2.1.1 (by omega)
   have hrj : rj es (ea, eb') = (min xa xb, max xa xb) := by
    unfold rj rho
    dsimp only
    rw [List.getD_eq_getElem?_getD, List.getD_eq_getElem?_getD, ga, gb]; rfl
   refine ⟨p0, _, rfl, SqT.of upd_same, rfl, _, _, rfl, _, _, rfl, ad, _, rfl, hpr, rfl, _, _, rfl, _, _, rfl, rfl, rfl, ?_⟩
   have hSe : SqL K (upd H4 p0 (.tup [.int i, .ref ad])) q (es.map V.int) := SqL.of (S5 _ _ hq3)
   refine ⟨_, rfl, _, rfl, q, _, _, _, rfl, rfl, hSe, hata, _, rfl, _, rfl, q, _, _, _, rfl, rfl, hSe, hatb, _, _, rfl, ?_⟩
   refine ⟨_, rfl, _, rfl, q, _, _, _, rfl, rfl, hSe, hata, _, rfl, _, rfl, q, _, _, _, rfl, rfl, hSe, hatb, _, _, rfl, by show 2 ≤ sizeLine; decide, fun p1 n1 => ?_⟩
   rw [min_if, max_if]
   have ht5 : (upd (upd H4 p0 (.tup [.int i, .ref ad])) p1 (.tup [.int (min xa xb), .int (max xa xb)])) t = some (.lst vs) := ((same_upd n0).trans (same_upd n1)) _ _ ht4
   have vl : vs.length = i := by rw [D.len, jlen]
   refine ⟨_, rfl, .inl ⟨rfl, _, SqL.of ht5⟩, _, rfl, _, rfl, _, _, rfl, rfl, c, _, rfl, by show (0 : Int) ≤ 40 + i; omega, by show 40 + (i : Int) ≤ 1000; omega, fun n n0' n1' => ⟨_, rfl, _, _, rfl, rfl, _, _, rfl, rfl, (by show (0 : Int) < (i : Int) + 1; omega), _, rfl, t, vs, _, _, rfl, rfl, ht5, ?_, ?_, small_l (by omega), ?_⟩⟩
   ·exact Int.emod_nonneg _ (by omega)
   ·have := Int.emod_lt_of_pos n (show (0 : Int) < (i : Int) + 1 by omega)
    show n % ((i : Int) + 1) ≤ (vs.length : Int)
    omega
   have pm := perm_ins js' (n % ((i : Int) + 1)).toNat (min xa xb, max xa xb)
   refine ⟨_, js'.take (n % ((i : Int) + 1)).toNat ++ (min xa xb, max xa xb) :: js'.drop (n % ((i : Int) + 1)).toNat, _, _, _, _, rfl, Same.upd (S4.trans ((same_upd n0).trans (same_upd n1))) nt, upd_same, ?_, ?_, ?_⟩
   ·exact Ps.ins (x := (min xa xb, max xa xb)) _ (D.same ((same_upd n0).trans (same_upd n1))) ht5 upd_same
   ·rw [pm.length_eq, List.length_cons, jlen]
   ·rw [List.take_add_one, e1, List.map_append]
    refine pm.trans ?_
    show ((min xa xb, max xa xb) :: js').Perm ((js.take i).map (rj es) ++ [rj es (ea, eb')])
    rw [hrj]
    exact (jb.cons _).trans (List.perm_append_singleton _ _).symm
  rintro σ H4 ⟨vs, js', x9, x10, x11, x12, rfl, S4, ht4, D, jlen, jb⟩
  refine ⟨_, rfl, _, rfl, by show 2 ≤ sizeLine; decide, fun p np => ?_⟩
  have S5 := (same_upd (o := .tup [.int m, .ref t]) np)
  rw [hul, List.take_length] at jb
  exact k _ js' nm es _ (s1.trans (S3.trans (S4.trans S5))) (da_mkline upd_same ((D.same S5).da (S5 _ _ ht4))) R jb
end
end K34
namespace K34
open PySem L2 TL PyProof.Rows
def sp_line (K : PySem.W.Frag) : Sp := fun vs H Q _ => ∃ (a : Addr) (ns : List Int), vs = [.ref a] ∧ SqL K H a (ns.map V.int) ∧ NewG K H Q
abbrev s_law_line : Stmt := top 37
theorem sc_law_line : FnScope ["_law_script", "_law_cell", "_law_many", "_law_joints", "_law_k", "_law_number", "_law_one", "_law_other_here"] ["_law_script"] (defScope s_law_line) := ⟨rfl, rfl, rfl, by decide +kernel, rfl, by decide +kernel, by decide +kernel⟩
section
variable {P : Program} {w : World} {K : PySem.W.Frag} {mg : Str → Option Value} {base : Heap} {f : Addr} {fd : FuncData}
theorem ok_law_line {f1 f2 f3 f4 : Addr} {fd1 fd2 fd3 fd4 : FuncData} (F : Fn K mg "_law_line" s_law_line ["_law_script"] f fd) (F_law_mix : Fn K mg "_law_mix" s_law_mix ["_law_cell", "_law_k"] f1 fd1) (F_law_cell_at : Fn K mg "_law_cell_at" s_law_cell_at ["_law_script", "_law_k"] f2 fd2)
  (F_law_other : Fn K mg "_law_other" s_law_other ["_law_end"] f3 fd3) (F_law_renamed : Fn K mg "_law_renamed" s_law_renamed ["_law_line_here", "_law_cell"] f4 fd4) (G_law_renamed : FnOk P w K mg base CX0 2 f4 fd4 ["_law_line_here", "_law_cell"] (sp_renamed K))
  (B : Bl mg) : FnOk P w K mg base CX0 3 f fd ["_law_script"] (sp_line K) := by
 have G_law_mix : FnOk P w K mg base CX0 1 f1 fd1 ["_law_cell", "_law_k"] sp_mix := ok_law_mix F_law_mix B
 have G_law_cell_at : FnOk P w K mg base CX0 1 f2 fd2 ["_law_script", "_law_k"] (sp_cell K) := ok_law_cell_at F_law_cell_at B
 have G_law_other : FnOk P w K mg base CX0 1 f3 fd3 ["_law_end"] sp_other := ok_law_other F_law_other
 refine F.F.ok sc_law_line (fun vs H Q E h => ?_) (fun cdv A outer s H vs Q E hr h => ?_)
 ·obtain ⟨a, ns, rfl, _⟩ := h; rfl
 ·obtain ⟨a, ns, rfl, hS, k⟩ := h
  refine ⟨_, (pss_cons (ps_set (i := 1) sc_law_line.nd rfl (Or.inl rfl) (pe_call G_law_cell_at (hr.mono (by decide)) rfl F_law_cell_at.m F_law_cell_at.F.kp F_law_cell_at.b .nil pass0 (pa_cons (pv 0) (pa_cons pe_int pa_nil))))
 (pss_cons (ps_set (i := 2) sc_law_line.nd rfl (Or.inl rfl) (pe_op op_add pe_int (pe_op op_mod (pe_call G_law_mix (hr.mono (by decide)) rfl F_law_mix.m F_law_mix.F.kp F_law_mix.b .nil pass0 (pa_cons (pv 1) (pa_cons pe_int pa_nil))) pe_int)))
 (pss_cons (ps_if (pt_cmp (pc_eqI (pe_op op_mod (pe_call G_law_mix (hr.mono (by decide)) rfl F_law_mix.m F_law_mix.F.kp F_law_mix.b .nil pass0 (pa_cons (pv 1) (pa_cons pe_int pa_nil))) pe_int) pe_int))
 (pss_one (ps_set (i := 2) sc_law_line.nd rfl (Or.inl rfl) (pe_op op_add pe_int (pe_op op_mod (pe_call G_law_mix (hr.mono (by decide)) rfl F_law_mix.m F_law_mix.F.kp F_law_mix.b .nil pass0 (pa_cons (pv 1) (pa_cons pe_int pa_nil))) pe_int)))) pss_nil)
 (pss_cons (ps_set (i := 3) sc_law_line.nd rfl (Or.inl rfl) (pe_lst pa_nil))
 (pss_cons (ps_for PassesOwn.never rfl (pi_range1 rfl B.range (pa_cons (pe_op op_mod (pe_call G_law_mix (hr.mono (by decide)) rfl F_law_mix.m F_law_mix.F.kp F_law_mix.b .nil pass0 (pa_cons (pv 1) (pa_cons pe_int pa_nil))) (pe_op op_add (pe_op op_mul pe_int (pv 2)) pe_int)) pa_nil)) (pg_name (i := 4) sc_law_line.nd rfl (Or.inl rfl))
 (pss_cons (ps_set (i := 5) sc_law_line.nd rfl (Or.inl rfl) (pe_call G_law_mix (hr.mono (by decide)) rfl F_law_mix.m F_law_mix.F.kp F_law_mix.b .nil pass0 (pa_cons (pe_call G_law_cell_at (hr.mono (by decide)) rfl F_law_cell_at.m F_law_cell_at.F.kp F_law_cell_at.b .nil pass0 (pa_cons (pv 0) (pa_cons (pe_op op_add pe_int (pe_op op_mod (pv 4) pe_int)) pa_nil))) (pa_cons (pe_op op_add pe_int (pv 4)) pa_nil))))
 (pss_cons (ps_set (i := 6) sc_law_line.nd rfl (Or.inl rfl) (pe_op op_mod (pv 5) (pe_op op_mul pe_int (pv 2))))
 (pss_cons (ps_set (i := 7) sc_law_line.nd rfl (Or.inl rfl) (pe_op op_mod (pe_op op_fdiv (pv 5) pe_int) (pe_op op_mul pe_int (pv 2))))
 (pss_cons (ps_if (PW.pt (pw_and (pt_cmp (pc_eqI (pe_op op_mod (pe_call G_law_mix (hr.mono (by decide)) rfl F_law_mix.m F_law_mix.F.kp F_law_mix.b .nil pass0 (pa_cons (pv 1) (pa_cons pe_int pa_nil))) pe_int) pe_int)) (pw_and1 (pt_cmp (pc_eqI (pe_op op_mod (pv 6) pe_int) (pe_op op_mod (pv 7) pe_int))))))
 (pss_one (ps_set (i := 7) sc_law_line.nd rfl (Or.inl rfl) (pe_call G_law_other (hr.mono (by decide)) rfl F_law_other.m F_law_other.F.kp F_law_other.b .nil pass0 (pa_cons (pv 7) pa_nil)))) pss_nil)
 (pss_one (ps_if (PW.pt (pw_and (pt_cmp (pc_neI (pe_op op_fdiv (pv 6) pe_int) (pe_op op_fdiv (pv 7) pe_int))) (pw_and (pt_cmpR (op_notInD hr.units) (pe_tup (pa_cons (pe_callB (call_min2 rfl) rfl B.min boot_min (pa_cons (pv 6) (pa_cons (pv 7) pa_nil))) (pa_cons (pe_callB (call_max2 rfl) rfl B.max boot_max (pa_cons (pv 6) (pa_cons (pv 7) pa_nil))) pa_nil))) (pv 3) (by with_unfolding_all rfl)) (pw_and1 (pt_cmp (pc_lt (pe_callB call_len_seq rfl B.len boot_len (pa_cons (pv 3) pa_nil)) pe_int))))))
 (pss_one (ps_expr (pe_bm PySem.F.plainAttrs_list PySem.F.slot_list_append PySem.F.type_list_append mt_append (pv 3) (pa_cons (pe_tup (pa_cons (pe_callB (call_min2 rfl) rfl B.min boot_min (pa_cons (pv 6) (pa_cons (pv 7) pa_nil))) (pa_cons (pe_callB (call_max2 rfl) rfl B.max boot_max (pa_cons (pv 6) (pa_cons (pv 7) pa_nil))) pa_nil))) pa_nil)))) pss_nil)))))))
 (pss_one (ps_ret (pe_call G_law_renamed (hr.mono (by decide)) rfl F_law_renamed.m F_law_renamed.F.kp F_law_renamed.b .nil pass0 (pa_cons (pe_tup (pa_cons (pv 2) (pa_cons (pv 3) pa_nil))) (pa_cons (pe_call G_law_cell_at (hr.mono (by decide)) rfl F_law_cell_at.m F_law_cell_at.F.kp F_law_cell_at.b .nil pass0 (pa_cons (pv 0) (pa_cons pe_int pa_nil))) pa_nil)))))))))), ?_⟩
  refine ⟨_, rfl, a, ns, 0, rfl, hS, by decide, fun cell => ?_⟩
  refine ⟨_, rfl, cell, 0, rfl, by decide, by decide, fun n1 _ _ => ⟨_, _, rfl, rfl, (by show (0 : Int) < _; decide), _, _, rfl, rfl, ?_⟩⟩
  refine ⟨_, rfl, cell, 1, rfl, by decide, by decide, fun n2 _ _ => ⟨_, _, rfl, rfl, (by show (0 : Int) < _; decide), _, _, rfl, rfl, _, rfl, ?_⟩⟩
  refine ite2 (fun _ => ?g1) (fun _ => ?g2)
  case g1 =>
   refine ⟨_, rfl, cell, 0, rfl, by decide, by decide, fun n3 _ _ => ⟨_, _, rfl, rfl, (by show (0 : Int) < _; decide), _, _, rfl, rfl, ?_⟩⟩
   dsimp only
   generalize hm : 9 + n3 % 6 = m
   have m1 : 1 ≤ m := by omega
   have m2 : m ≤ 14 := by omega
   refine ⟨Nat.zero_le _, fun t nt => ?_⟩
   refine ⟨_, rfl, cell, 2, rfl, by decide, by decide, fun n4 n40 _ => ⟨_, rfl, _, _, rfl, rfl, .inl ⟨by decide, by decide⟩, _, _, rfl, rfl, _, _, rfl, rfl, (by show (0 : Int) < 2 * m + 4; omega), ?_⟩⟩
   have q0 : 0 ≤ n4 % (2 * m + 4) := Int.emod_nonneg _ (by omega)
   have q1 : n4 % (2 * m + 4) < 2 * m + 4 := Int.emod_lt_of_pos _ (by omega)
   refine ⟨_, rfl, by show -(2 ^ 62) ≤ n4 % (2 * m + 4); omega, by show n4 % (2 * m + 4) < 2 ^ 62; omega, for_range (fun i σ H3 => ∃ (vs : List V) (js : List (Int × Int)) (x4 x5 x6 x7 : Option V), σ = [some (.ref a), some (.int cell), some (.int m), some (.ref t), x4, x5, x6, x7] ∧ Same H H3 ∧ H3 t = some (.lst vs) ∧ Ps K H3 js vs ∧ GLine (m, js))
    ⟨[], [], none, none, none, none, rfl, same_upd nt, upd_same, dgs_nil.mpr rfl, ⟨m1, m2, Nat.zero_le _, fun p hp => (nomatch hp), List.nodup_nil⟩⟩ ?_ ?_⟩
   ·rintro i σ H3 hi ⟨vs, js, x4, x5, x6, x7, rfl, S3, ht3, D, G⟩
    have i0 : (0 : Int) + (i : Nat) = (i : Int) := by omega
    rw [i0]
    have hi' : (i : Int) < 32 := by
     have : (i : Int) < n4 % (2 * m + 4) := by
      have h : i < (n4 % (2 * m + 4)).toNat := hi
      omega
     omega
    refine ⟨_, rfl, _, rfl, _, _, rfl, rfl, (by show (0 : Int) < _; decide), _, _, rfl, rfl, a, ns, _, rfl, S3.seq hS, by show (0 : Int) ≤ 2 + (i : Int) % 8; omega, fun c5 => ⟨_, rfl, _, _, rfl, rfl, c5, _, rfl, by show (0 : Int) ≤ 10 + (i : Int); omega, by show 10 + (i : Int) ≤ 1000; omega, fun n5 n50 n51 => ?_⟩⟩
    refine ⟨_, rfl, _, rfl, _, _, rfl, rfl, .inl ⟨by decide, by decide⟩, _, _, rfl, rfl, (by show (0 : Int) < 2 * m; omega), ?_⟩
    refine ⟨_, rfl, _, _, rfl, rfl, ⟨by decide, by decide⟩, _, rfl, _, _, rfl, rfl, .inl ⟨by decide, by decide⟩, _, _, rfl, rfl, (by show (0 : Int) < 2 * m; omega), ?_⟩
    dsimp only
    have o0 : 0 ≤ n5 % (2 * m) := Int.emod_nonneg _ (by omega)
    have o1 : n5 % (2 * m) < 2 * m := Int.emod_lt_of_pos _ (by omega)
    have r0 : 0 ≤ n5 / 64 % (2 * m) := Int.emod_nonneg _ (by omega)
    have r1 : n5 / 64 % (2 * m) < 2 * m := Int.emod_lt_of_pos _ (by omega)
    generalize n5 % (2 * m) = one at o0 o1
    generalize n5 / 64 % (2 * m) = oh at r0 r1
    refine ⟨_, rfl, cell, 3, rfl, by decide, by decide, fun n6 _ _ => ⟨_, _, rfl, rfl, (by show (0 : Int) < _; decide), _, _, rfl, rfl, _, rfl, ?_⟩⟩
    refine ite2 (fun _ => ?e1a) (fun _ => ?e2a)
    case' e1a =>
     refine ⟨_, rfl, _, _, rfl, rfl, (by show (0 : Int) < _; decide), _, rfl, _, _, rfl, rfl, (by show (0 : Int) < _; decide), _, _, rfl, rfl, _, rfl, ?_⟩
     refine ite2 (fun _ => ?e3a) (fun _ => ?e4a)
     case' e3a =>
      refine ⟨_, rfl, oh, rfl, ?_⟩
      have r0' : 0 ≤ oth oh := oth_nonneg r0
      have r1' : oth oh < 2 * m := by unfold oth; omega
      generalize oth oh = oh' at r0' r1'
     case' e4a =>
      have r0' := r0
      have r1' := r1
      generalize hh : oh = oh' at r0' r1'
    case' e2a =>
     refine iteF ?_
     have r0' := r0
     have r1' := r1
     generalize hh : oh = oh' at r0' r1'
    all_goals
     refine ⟨_, rfl, _, _, rfl, rfl, ⟨by decide, by decide⟩, _, rfl, _, _, rfl, rfl, ⟨by decide, by decide⟩, _, _, rfl, rfl, _, rfl, ?_⟩
     refine ite2 (fun hne => ?_) (fun _ => ?_)
     ·refine ⟨_, rfl, _, rfl, _, _, rfl, _, rfl, _, rfl, _, _, rfl, by show 2 ≤ sizeLine; decide, fun p1 n1 => ?_⟩
      rw [min_if, max_if]
      have ht4 := (same_upd (o := .tup [.int (min one oh'), .int (max one oh')]) n1) _ _ ht3
      have D4 := D.same (same_upd (o := .tup [.int (min one oh'), .int (max one oh')]) n1)
      refine ⟨_, rfl, _, _, D4.da ht4, dg_tuple.mpr ⟨p1, _, rfl, SqT.of upd_same, Dgs.two (dg_int.mpr rfl) (dg_int.mpr rfl)⟩, okDs_P js, okD_P (_, _), _, rfl, ?_⟩
      refine ite2 (fun hni => ?_) (fun _ => ?_)
      ·refine ⟨_, rfl, t, _, rfl, .inl (SqL.of ht4), _, _, rfl, rfl, _, rfl, ?_⟩
       refine ite2 (fun hlt => ?_) (fun _ => ?_)
       ·have hlt : (vs.length : Int) < 24 := by simpa using hlt
        have vl := D.len
        refine ⟨_, rfl, .inl ⟨rfl, _, SqL.of ht4⟩, _, rfl, _, rfl, _, _, rfl, _, rfl, _, rfl, _, _, rfl, by show 2 ≤ sizeLine; decide, fun p2 n2 => ?_⟩
        rw [min_if, max_if]
        have S5 := (same_upd n1).trans (same_upd (o := .tup [.int (min one oh'), .int (max one oh')]) n2)
        refine ⟨t, vs, _, rfl, rfl, S5 _ _ ht3, small_l (by omega), ?_⟩
        refine ⟨_, js ++ [(min one oh', max one oh')], _, _, _, _, rfl, Same.upd (S3.trans S5) nt, upd_same, Ps.push (x := (min one oh', max one oh')) (D.same S5) (S5 _ _ ht3) upd_same, ?_⟩
        have hni' : (min one oh', max one oh') ∉ js := fun z => by
         have e := any_P js (min one oh', max one oh')
         unfold dP at e
         dsimp only at e
         unfold dP at hni
         rw [e] at hni
         simp [z] at hni
        have hne' : one / 2 ≠ oh' / 2 := by simpa using hne
        exact gline_push G hne' o0 o1 r0' r1' hni' (by omega)
       ·exact ⟨vs, js, _, _, _, _, rfl, S3.trans (same_upd n1), ht4, D4, G⟩
      ·exact iteF ⟨vs, js, _, _, _, _, rfl, S3.trans (same_upd n1), ht4, D4, G⟩
     ·exact iteF ⟨vs, js, _, _, _, _, rfl, S3, ht3, D, G⟩
   ·rintro σ H3 ⟨vs, js, x4, x5, x6, x7, rfl, S3, ht3, D, G⟩
    refine ⟨_, rfl, _, rfl, by show 2 ≤ sizeLine; decide, fun p np => ?_⟩
    have S4 := same_upd (o := .tup [.int m, .ref t]) np
    refine ⟨_, rfl, a, ns, 1, rfl, (S3.trans S4).seq hS, by decide, fun c7 => ?_⟩
    refine ⟨_, (m, js), c7, rfl, da_mkline upd_same ((D.same S4).da (S4 _ _ ht3)), G, fun v' js' nm es H' s5 d5 R pm => k v' (m, js') H' (S3.trans (S4.trans s5)) d5 (R.line G pm)⟩
  case g2 =>
   dsimp only
   generalize hm : 1 + n1 % 8 = m
   have m1 : 1 ≤ m := by omega
   have m2 : m ≤ 14 := by omega
   refine ⟨Nat.zero_le _, fun t nt => ?_⟩
   refine ⟨_, rfl, cell, 2, rfl, by decide, by decide, fun n4 n40 _ => ⟨_, rfl, _, _, rfl, rfl, .inl ⟨by decide, by decide⟩, _, _, rfl, rfl, _, _, rfl, rfl, (by show (0 : Int) < 2 * m + 4; omega), ?_⟩⟩
   have q0 : 0 ≤ n4 % (2 * m + 4) := Int.emod_nonneg _ (by omega)
   have q1 : n4 % (2 * m + 4) < 2 * m + 4 := Int.emod_lt_of_pos _ (by omega)
   refine ⟨_, rfl, by show -(2 ^ 62) ≤ n4 % (2 * m + 4); omega, by show n4 % (2 * m + 4) < 2 ^ 62; omega, for_range (fun i σ H3 => ∃ (vs : List V) (js : List (Int × Int)) (x4 x5 x6 x7 : Option V), σ = [some (.ref a), some (.int cell), some (.int m), some (.ref t), x4, x5, x6, x7] ∧ Same H H3 ∧ H3 t = some (.lst vs) ∧ Ps K H3 js vs ∧ GLine (m, js))
    ⟨[], [], none, none, none, none, rfl, same_upd nt, upd_same, dgs_nil.mpr rfl, ⟨m1, m2, Nat.zero_le _, fun p hp => (nomatch hp), List.nodup_nil⟩⟩ ?_ ?_⟩
   ·rintro i σ H3 hi ⟨vs, js, x4, x5, x6, x7, rfl, S3, ht3, D, G⟩
    have i0 : (0 : Int) + (i : Nat) = (i : Int) := by omega
    rw [i0]
    have hi' : (i : Int) < 32 := by
     have : (i : Int) < n4 % (2 * m + 4) := by
      have h : i < (n4 % (2 * m + 4)).toNat := hi
      omega
     omega
    refine ⟨_, rfl, _, rfl, _, _, rfl, rfl, (by show (0 : Int) < _; decide), _, _, rfl, rfl, a, ns, _, rfl, S3.seq hS, by show (0 : Int) ≤ 2 + (i : Int) % 8; omega, fun c5 => ⟨_, rfl, _, _, rfl, rfl, c5, _, rfl, by show (0 : Int) ≤ 10 + (i : Int); omega, by show 10 + (i : Int) ≤ 1000; omega, fun n5 n50 n51 => ?_⟩⟩
    refine ⟨_, rfl, _, rfl, _, _, rfl, rfl, .inl ⟨by decide, by decide⟩, _, _, rfl, rfl, (by show (0 : Int) < 2 * m; omega), ?_⟩
    refine ⟨_, rfl, _, _, rfl, rfl, ⟨by decide, by decide⟩, _, rfl, _, _, rfl, rfl, .inl ⟨by decide, by decide⟩, _, _, rfl, rfl, (by show (0 : Int) < 2 * m; omega), ?_⟩
    dsimp only
    have o0 : 0 ≤ n5 % (2 * m) := Int.emod_nonneg _ (by omega)
    have o1 : n5 % (2 * m) < 2 * m := Int.emod_lt_of_pos _ (by omega)
    have r0 : 0 ≤ n5 / 64 % (2 * m) := Int.emod_nonneg _ (by omega)
    have r1 : n5 / 64 % (2 * m) < 2 * m := Int.emod_lt_of_pos _ (by omega)
    generalize n5 % (2 * m) = one at o0 o1
    generalize n5 / 64 % (2 * m) = oh at r0 r1
    refine ⟨_, rfl, cell, 3, rfl, by decide, by decide, fun n6 _ _ => ⟨_, _, rfl, rfl, (by show (0 : Int) < _; decide), _, _, rfl, rfl, _, rfl, ?_⟩⟩
    refine ite2 (fun _ => ?e1b) (fun _ => ?e2b)
    case' e1b =>
     refine ⟨_, rfl, _, _, rfl, rfl, (by show (0 : Int) < _; decide), _, rfl, _, _, rfl, rfl, (by show (0 : Int) < _; decide), _, _, rfl, rfl, _, rfl, ?_⟩
     refine ite2 (fun _ => ?e3b) (fun _ => ?e4b)
     case' e3b =>
      refine ⟨_, rfl, oh, rfl, ?_⟩
      have r0' : 0 ≤ oth oh := oth_nonneg r0
      have r1' : oth oh < 2 * m := by unfold oth; omega
      generalize oth oh = oh' at r0' r1'
     case' e4b =>
      have r0' := r0
      have r1' := r1
      generalize hh : oh = oh' at r0' r1'
    case' e2b =>
     refine iteF ?_
     have r0' := r0
     have r1' := r1
     generalize hh : oh = oh' at r0' r1'
    all_goals
     refine ⟨_, rfl, _, _, rfl, rfl, ⟨by decide, by decide⟩, _, rfl, _, _, rfl, rfl, ⟨by decide, by decide⟩, _, _, rfl, rfl, _, rfl, ?_⟩
     refine ite2 (fun hne => ?_) (fun _ => ?_)
     ·refine ⟨_, rfl, _, rfl, _, _, rfl, _, rfl, _, rfl, _, _, rfl, by show 2 ≤ sizeLine; decide, fun p1 n1 => ?_⟩
      rw [min_if, max_if]
      have ht4 := (same_upd (o := .tup [.int (min one oh'), .int (max one oh')]) n1) _ _ ht3
      have D4 := D.same (same_upd (o := .tup [.int (min one oh'), .int (max one oh')]) n1)
      refine ⟨_, rfl, _, _, D4.da ht4, dg_tuple.mpr ⟨p1, _, rfl, SqT.of upd_same, Dgs.two (dg_int.mpr rfl) (dg_int.mpr rfl)⟩, okDs_P js, okD_P (_, _), _, rfl, ?_⟩
      refine ite2 (fun hni => ?_) (fun _ => ?_)
      ·refine ⟨_, rfl, t, _, rfl, .inl (SqL.of ht4), _, _, rfl, rfl, _, rfl, ?_⟩
       refine ite2 (fun hlt => ?_) (fun _ => ?_)
       ·have hlt : (vs.length : Int) < 24 := by simpa using hlt
        have vl := D.len
        refine ⟨_, rfl, .inl ⟨rfl, _, SqL.of ht4⟩, _, rfl, _, rfl, _, _, rfl, _, rfl, _, rfl, _, _, rfl, by show 2 ≤ sizeLine; decide, fun p2 n2 => ?_⟩
        rw [min_if, max_if]
        have S5 := (same_upd n1).trans (same_upd (o := .tup [.int (min one oh'), .int (max one oh')]) n2)
        refine ⟨t, vs, _, rfl, rfl, S5 _ _ ht3, small_l (by omega), ?_⟩
        refine ⟨_, js ++ [(min one oh', max one oh')], _, _, _, _, rfl, Same.upd (S3.trans S5) nt, upd_same, Ps.push (x := (min one oh', max one oh')) (D.same S5) (S5 _ _ ht3) upd_same, ?_⟩
        have hni' : (min one oh', max one oh') ∉ js := fun z => by
         have e := any_P js (min one oh', max one oh')
         unfold dP at e
         dsimp only at e
         unfold dP at hni
         rw [e] at hni
         simp [z] at hni
        have hne' : one / 2 ≠ oh' / 2 := by simpa using hne
        exact gline_push G hne' o0 o1 r0' r1' hni' (by omega)
       ·exact ⟨vs, js, _, _, _, _, rfl, S3.trans (same_upd n1), ht4, D4, G⟩
      ·exact iteF ⟨vs, js, _, _, _, _, rfl, S3.trans (same_upd n1), ht4, D4, G⟩
     ·exact iteF ⟨vs, js, _, _, _, _, rfl, S3, ht3, D, G⟩
   ·rintro σ H3 ⟨vs, js, x4, x5, x6, x7, rfl, S3, ht3, D, G⟩
    refine ⟨_, rfl, _, rfl, by show 2 ≤ sizeLine; decide, fun p np => ?_⟩
    have S4 := same_upd (o := .tup [.int m, .ref t]) np
    refine ⟨_, rfl, a, ns, 1, rfl, (S3.trans S4).seq hS, by decide, fun c7 => ?_⟩
    refine ⟨_, (m, js), c7, rfl, da_mkline upd_same ((D.same S4).da (S4 _ _ ht3)), G, fun v' js' nm es H' s5 d5 R pm => k v' (m, js') H' (S3.trans (S4.trans s5)) d5 (R.line G pm)⟩
end
end K34
namespace K34
open PySem L2 TL PyProof.Rows
structure Xr (K : PySem.W.Frag) (mg : Str → Option Value) (c2 : Addr) : Prop where
 NoTrain : Xc K mg "NoTrain" c2
 cat : Catches K c2 c2
def isT (l : Ln) (ns : List Int) : Prop := ns ≠ [] ∧ TrOk l ns
def sp_isend (K : PySem.W.Frag) : Sp := fun vs H Q _ => ∃ (v : V) (l : Int × List (Int × Int)) (e : Int), vs = [v, .int e] ∧ Da K H (dL l) v ∧ Q (.bl (decide (0 ≤ e ∧ e < 2 * l.1))) H
def sp_check (K : PySem.W.Frag) (C : Addr) : Sp := fun vs H Q E => ∃ (v u : V) (l : Int × List (Int × Int)) (ns : List Int), vs = [v, u] ∧ Da K H (dL l) v ∧ Da K H (dI ns) u ∧ LineOk l ∧ ns.length ≤ 900 ∧
 (isT l ns → ∀ H', Same H H' → Q .non H') ∧ (¬ isT l ns → ∀ H', Same H H' → ∀ e, H' e = none → E (.ref C) (some e) H')
abbrev s_is_end : Stmt := top 9
theorem sc_is_end : FnScope ["line", "end"] ["line", "end"] (defScope s_is_end) := ⟨rfl, rfl, rfl, by decide +kernel, rfl, by decide +kernel, by decide +kernel⟩
abbrev s_check_train : Stmt := top 12
theorem sc_check_train : FnScope ["line", "train", "end", "following"] ["line", "train"] (defScope s_check_train) := ⟨rfl, rfl, rfl, by decide +kernel, rfl, by decide +kernel, by decide +kernel⟩
theorem cc_check_train_0 : CompOk (defScope s_check_train) ["line", "train", "end", "following"] { kind := .function, names := [(Str.ofString ".0", .local), (Str.ofString "end", .local), (Str.ofString "piece_of", .globalImplicit)], isGenerator := false, isCoroutine := false, more := [] } ["end"] 1 [none] := ⟨rfl, by decide +kernel, by decide +kernel, by decide +kernel, rfl, by decide +kernel, rfl, by decide +kernel⟩
section
variable {P : Program} {w : World} {K : PySem.W.Frag} {mg : Str → Option Value} {base : Heap} {f : Addr} {fd : FuncData} {D c1 c2 c3 c4 c5 c6 c7 : Addr}
theorem ok_is_end (F : Fn K mg "is_end" s_is_end ["line", "end"] f fd) : FnOk P w K mg base CX0 1 f fd ["line", "end"] (sp_isend K) := by
 refine F.F.ok sc_is_end (fun vs H Q E h => ?_) (fun cdv A outer s H vs Q E hr h => ?_)
 ·obtain ⟨v, l, e, rfl, _⟩ := h; rfl
 ·obtain ⟨v, l, e, rfl, hv, k⟩ := h
  obtain ⟨a, b, rfl, ht, us, hl, hq⟩ := da_line hv
  refine ⟨_, (pss_one (ps_ret (pe_chain op_le op_lt pe_int (pv 1) (pe_op op_mul pe_int (pe_ix ix_tup (pv 0) pe_int (fun _ _ => rfl)))))), ?_⟩
  refine ⟨_, rfl, _, _, rfl, rfl, _, rfl, ite2 (fun h => ?_) (fun h => ?_)⟩
  ·have h : 0 ≤ e := by simpa using h
   refine ⟨_, rfl, a, _, _, _, rfl, rfl, ht, rfl, _, _, rfl, rfl, .inl ⟨by decide, by decide⟩, _, _, rfl, rfl, ?_⟩
   have e1 : decide (0 ≤ e ∧ e < 2 * l.1) = decide (e < 2 * l.1) := by simp [h]
   rw [e1] at k
   exact k
  ·have h : ¬ 0 ≤ e := by simpa using h
   have e1 : decide (0 ≤ e ∧ e < 2 * l.1) = false := by simp [h]
   rw [e1] at k
   exact k
theorem ok_check_train {f1 f2 f3 f4 : Addr} {fd1 fd2 fd3 fd4 : FuncData} (F : Fn K mg "check_train" s_check_train ["line", "train"] f fd) (XS : Xr K mg c2) (B : Bm mg) (F_is_end : Fn K mg "is_end" s_is_end ["line", "end"] f1 fd1)
  (F_piece_of : Fn K mg "piece_of" s_piece_of ["end"] f2 fd2) (F_joined : Fn K mg "joined" s_joined ["line", "end"] f3 fd3) (F_other_end : Fn K mg "other_end" s_other_end ["end"] f4 fd4) : FnOk P w K mg base (CXr P w base) 2 f fd ["line", "train"] (sp_check K c2) := by
 have G_is_end : FnOk P w K mg base CX0 1 f1 fd1 ["line", "end"] (sp_isend K) := ok_is_end F_is_end
 have G_piece_of : FnOk P w K mg base CX0 1 f2 fd2 ["end"] sp_half := ok_piece_of F_piece_of
 have G_joined : FnOk P w K mg base CX0 1 f3 fd3 ["line", "end"] (sp_joined K) := ok_joined F_joined B.toBl
 have G_other_end : FnOk P w K mg base CX0 1 f4 fd4 ["end"] sp_other := ok_other_end F_other_end
 refine F.F.okX sc_check_train (fun vs H Q E h => ?_) (fun cdv A outer s H vs Q E hr h => ?_)
 ·obtain ⟨v, u, l, ns, rfl, _⟩ := h; rfl
 ·obtain ⟨v, u, l, ns, rfl, hv, hu, ok, hz, k1, k2⟩ := h
  obtain ⟨a, rfl, ha⟩ := da_ints.mp hu
  refine ⟨_, (pss_cons (ps_if (pt_not (pt_truth (pv 1) (fun _ => rfl)))
 (pss_one (ps_raise raises_cx rfl rfl XS.NoTrain.m XS.NoTrain.q PySem.F.excBase_ValueError (pa_cons pe_str pa_nil))) pss_nil)
 (pss_cons (ps_for PassesOwn.leaving rfl (pi_list (pv 1)) (pg_name (i := 2) sc_check_train.nd rfl (Or.inl rfl))
 (pss_one (ps_if (pt_not (pt_val (pe_call G_is_end (hr.mono (by decide)) rfl F_is_end.m F_is_end.F.kp F_is_end.b .nil pass0 (pa_cons (pv 0) (pa_cons (pv 2) pa_nil)))))
 (pss_one (ps_raise raises_cx rfl rfl XS.NoTrain.m XS.NoTrain.q PySem.F.excBase_ValueError (pa_cons pe_str pa_nil))) pss_nil)))
 (pss_cons (ps_if (pt_cmp (pc_lt (pe_callB call_lenS rfl B.len boot_len (pa_cons (pe_sc (pi_list (pv 1)) rfl cc_check_train_0 (.name (by decide)) (fun _ _ _ _ => (pg_name (i := 0) cc_check_train_0.nd rfl (Or.inl rfl))) (fun _ _ _ _ => pifs_nil) (fun _ _ _ _ => (pe_call G_piece_of (hr.mono (by decide)) rfl F_piece_of.m F_piece_of.F.kp F_piece_of.b .nil pass0 (pa_cons (pv 0) pa_nil)))) pa_nil)) (pe_callB call_len_seq rfl B.len boot_len (pa_cons (pv 1) pa_nil))))
 (pss_one (ps_raise raises_cx rfl rfl XS.NoTrain.m XS.NoTrain.q PySem.F.excBase_ValueError (pa_cons pe_str pa_nil))) pss_nil)
 (pss_one (ps_for PassesOwn.leaving rfl (pi_zip rfl B.zip (pa_cons (pv 1) (pa_cons (pe_slice sl_list (pv 1) (po_some pe_int) po_none) pa_nil))) (pg_tup (n := 2) rfl (pgs_cons (pg_name (i := 2) sc_check_train.nd rfl (Or.inl rfl)) (pgs_cons (pg_name (i := 3) sc_check_train.nd rfl (Or.inl rfl)) pgs_nil)))
 (pss_one (ps_if (pt_cmpR (op_notInD hr.units) (pv 3) (pe_call G_joined (hr.mono (by decide)) rfl F_joined.m F_joined.F.kp F_joined.b .nil pass0 (pa_cons (pv 0) (pa_cons (pe_call G_other_end (hr.mono (by decide)) rfl F_other_end.m F_other_end.F.kp F_other_end.b .nil pass0 (pa_cons (pv 2) pa_nil)) pa_nil))) (by with_unfolding_all rfl))
 (pss_one (ps_raise raises_cx rfl rfl XS.NoTrain.m XS.NoTrain.q PySem.F.excBase_ValueError (pa_cons pe_str pa_nil))) pss_nil))))))), ?_⟩
  refine ⟨_, rfl, _, .inl ⟨_, ha, rfl⟩, ite2 (fun h => ?_) (fun h => ?_)⟩
  ·have h : ns = [] := by simpa using h
   exact ⟨by decide, fun e he => k2 (fun z => z.1 h) H (Same.refl _) e he⟩
  have hne : ns ≠ [] := by simpa using h
  refine ⟨_, rfl, a, rfl, ⟨_, ha⟩, for_list (K := K) (a := a) (xs := ns.map V.int) (fun i σ H3 => ∃ (x2 x3 : Option V), σ = [some v, some (.ref a), x2, x3] ∧ H3 = H ∧ ∀ e ∈ ns.take i, 0 ≤ e ∧ e < 2 * l.1)
   ⟨none, none, rfl, rfl, fun e he => by simp at he⟩ (fun i σ H3 _ ⟨_, _, _, e, _⟩ => e ▸ ha) ?_ ?_⟩
  ·rintro i y σ H3 hi ⟨x2, x3, rfl, rfl, al⟩
   rw [List.getElem?_map] at hi
   obtain ⟨e, he, rfl⟩ : ∃ e, ns[i]? = some e ∧ y = .int e := by
    cases q : ns[i]? with
    | none => rw [q] at hi; cases hi
    | some e => rw [q] at hi; cases hi; exact ⟨e, rfl, rfl⟩
   refine ⟨_, rfl, _, rfl, v, l, e, rfl, hv, _, rfl, ite2 (fun h => ?_) (fun h => ?_)⟩
   ·have h : ¬ (0 ≤ e ∧ e < 2 * l.1) := fun z => by simp [z] at h
    exact ⟨by decide, fun x hx => k2 (fun z => h (z.2.ends e (List.mem_of_getElem? he))) H3 (Same.refl _) x hx⟩
   ·have h : 0 ≤ e ∧ e < 2 * l.1 := by simpa using h
    refine ⟨_, _, rfl, rfl, fun x hx => ?_⟩
    rw [List.take_add_one, he] at hx
    rcases List.mem_append.mp hx with z | z
    ·exact al x z
    ·have z : x = e := by simpa using z
     rw [z]; exact h
  rintro σ H3 ⟨x2, x3, rfl, rfl, al⟩
  rw [List.length_map, List.take_length] at al
  refine ⟨_, rfl, a, rfl, ⟨_, ha⟩, fun q nq => sc_pureJ (js_list ha) ns (fun e => e / 2) nq (by rw [List.length_map]) (by rw [List.length_map]; show ns.length + 1 < 4096; omega) ?_ ?_⟩
  ·intro i x d H' hx hd sm P1 P0 p1
   rw [List.getElem?_map, hd] at hx
   cases hx
   refine name_yes ?_
   exact ⟨_, rfl, d, rfl, p1⟩
  have hq3 := upd_same (H := H3) (a := q) (o := .set (fun k => decide (k ∈ ns.map fun e => e / 2)) (dn (ns.map fun e => e / 2) (ns.map V.int).length))
  have s4 := same_upd (o := .set (fun k => decide (k ∈ ns.map fun e => e / 2)) (dn (ns.map fun e => e / 2) (ns.map V.int).length)) nq
  generalize upd H3 q _ = H4 at hq3 s4 ⊢
  refine ⟨q, _, _, rfl, hq3, _, rfl, a, _, rfl, .inl (s4.seq ha), _, _, rfl, rfl, _, rfl, ite2 (fun h => ?_) (fun h => ?_)⟩
  ·have h : dn (ns.map fun e => e / 2) (ns.map V.int).length < (ns.map V.int).length := by simpa using h
   rw [List.length_map] at h
   have h2 := (dn_lt (ns.map fun e => e / 2)).mp (by rw [List.length_map]; exact h)
   exact ⟨by decide, fun x hx => k2 (fun z => h2 z.2.nd) H4 s4 x hx⟩
  have h : ¬ dn (ns.map fun e => e / 2) (ns.map V.int).length < (ns.map V.int).length := by simpa using h
  rw [List.length_map] at h
  have nd : (ns.map fun e => e / 2).Nodup := by
   have h3 := (dn_lt (ns.map fun e => e / 2))
   rw [List.length_map] at h3
   exact Decidable.byContradiction fun z => h (h3.mpr z)
  refine ⟨_, rfl, _, rfl, _, rfl, a, _, rfl, s4.seq ha, fun t nt => ?_⟩
  rw [cut_tail]
  have ht := upd_same (H := H4) (a := t) (o := .lst ((ns.drop 1).map V.int))
  have s5 := same_upd (o := .lst ((ns.drop 1).map V.int)) nt
  generalize upd H4 t _ = H5 at ht s5 ⊢
  have S5 := s4.trans s5
  refine ⟨a, t, rfl, ⟨_, S5.seq ha⟩, ⟨_, SqL.of ht⟩, for_zip (K := K) (a := a) (b := t) (xs := ns.map V.int) (ys := (ns.drop 1).map V.int) (ns.length - 1) (by simp)
   (fun i σ H6 => ∃ (x2 x3 : Option V), σ = [some v, some (.ref a), x2, x3] ∧ Same H5 H6 ∧ ∀ j, j < i → ∀ x y, ns[j]? = some x → ns[j + 1]? = some y → y ∈ jn l.2 (oth x))
   ⟨_, _, rfl, Same.refl _, fun j hj => absurd hj (Nat.not_lt_zero j)⟩ (fun i σ H6 _ ⟨_, _, _, s, _⟩ => ⟨(S5.trans s).seq ha, SqL.of (s _ _ ht)⟩) ?_ ?_⟩
  ·rintro i x y σ H6 p hx hy ⟨x2, x3, rfl, s6, al2⟩ np
   rw [List.getElem?_map] at hx hy
   rw [List.getElem?_drop, Nat.add_comm] at hy
   obtain ⟨d, hd, rfl⟩ : ∃ e, ns[i]? = some e ∧ x = .int e := by
    cases q : ns[i]? with
    | none => rw [q] at hx; cases hx
    | some e => rw [q] at hx; cases hx; exact ⟨e, rfl, rfl⟩
   obtain ⟨e, he, rfl⟩ : ∃ e, ns[i + 1]? = some e ∧ y = .int e := by
    cases q : ns[i + 1]? with
    | none => rw [q] at hy; cases hy
    | some e => rw [q] at hy; cases hy; exact ⟨e, rfl, rfl⟩
   have S7 := (S5.trans s6).trans (same_upd (o := .tup [.int d, .int e]) np)
   have s7 := s6.trans (same_upd (o := .tup [.int d, .int e]) np)
   refine ⟨p, _, rfl, SqT.of upd_same, rfl, _, _, rfl, _, _, rfl, rfl, ?_⟩
   refine ⟨_, rfl, _, rfl, _, rfl, d, rfl, v, l, _, rfl, Da.same S7 hv, ok, fun r H8 s8 nr hr8 => ?_⟩
   refine ⟨(jn l.2 (oth d)).map PyData.int, .int e, da_new hr8, dg_int.mpr rfl, okDs_I _, okD_int _, _, rfl, ?_⟩
   rw [any_I]
   refine ite2 (fun h => ?_) (fun h => ?_)
   ·have h : e ∉ jn l.2 (oth d) := by simpa using h
    exact ⟨by decide, fun x hx => k2 (fun z => h (z.2.ch i d e hd he)) H8 (S7.trans s8) x hx⟩
   ·have h : e ∈ jn l.2 (oth d) := by simpa using h
    refine ⟨_, _, rfl, s7.trans s8, fun j hj x2 y2 hx2 hy2 => ?_⟩
    rcases Nat.lt_succ_iff_lt_or_eq.mp hj with z | z
    ·exact al2 j z x2 y2 hx2 hy2
    ·subst z
     rw [hd] at hx2; rw [he] at hy2
     cases hx2; cases hy2
     exact h
  rintro σ H6 ⟨x2, x3, rfl, s6, al2⟩
  refine k1 ⟨hne, al, nd, fun i x y hx hy => al2 i ?_ x y hx hy⟩ H6 (S5.trans s6)
  have := (List.getElem?_eq_some_iff.mp hy).1
  omega
end
end K34
namespace K34
open PySem L2 TL PyProof.Rows
structure Cm (mg : Str → Option Value) (tk : Tok) : Prop where
 MOST_STANDINGS : mg "MOST_STANDINGS" = some (.int 300 tk)
structure Xt (K : PySem.W.Frag) (mg : Str → Option Value) (c : Addr) : Prop where
 TooMany : Xc K mg "TooMany" c
def sp_steps (K : PySem.W.Frag) (C : Addr) : Sp := fun vs H Q E => ∃ (v u : V) (l : Ln) (ns : List Int), vs = [v, u] ∧ Da K H (dL l) v ∧ Da K H (dI ns) u ∧ LineOk l ∧ ns ≠ [] ∧ ns.length ≤ 900 ∧ TrOk l ns ∧
 (∀ i d vs H', (webS l ns i).length = i → i ≤ 300 → Same H H' → H d = none → StepD K H' d (webS l ns i) vs → Q (.ref d) H') ∧
 ((∃ i, 300 < (webS l ns i).length) → ∀ H', Same H H' → ∀ e, H' e = none → E (.ref C) (some e) H')
def at5 (σ : L2.St) (_ : Hp) : Nat := match (σ[5]? : Option (Option V)) with
 | some (some (V.int i)) => (301 - i).toNat
 | _ => 0
def sp_listsof (K : PySem.W.Frag) : Sp := fun vs H Q _ => ∃ (d : Addr) (es : List Ent) (us : List V), vs = [.ref d] ∧ StepD K H d es us ∧ es.length ≤ 5000000 ∧ ∀ q bs H', Fresh H H' q bs (es.map (·.1)) → Q (.ref q) H'
def sp_back (K : PySem.W.Frag) : Sp := fun vs H Q _ => ∃ (d g : Addr) (es : List Ent) (us : List V) (t : List Int), vs = [.ref d, .ref g] ∧ StepD K H d es us ∧ H g = some (.tup (t.map V.int)) ∧ t ∈ es.map (·.1) ∧ Backs es ∧ (es.map (·.1)).Nodup ∧ es.length ≤ 5000000 ∧
 ∀ q run H', Same H H' → H q = none → RunAt K H' q run → PathTo es t run → Q (.ref q) H'
abbrev s_first_steps : Stmt := top 20
theorem sc_first_steps : FnScope ["line", "train", "start", "steps", "order", "at", "ahead", "move", "behind", "standing"] ["line", "train"] (defScope s_first_steps) := ⟨rfl, rfl, rfl, by decide +kernel, rfl, by decide +kernel, by decide +kernel⟩
abbrev s_lists_of : Stmt := top 21
theorem sc_lists_of : FnScope ["standings"] ["standings"] (defScope s_lists_of) := ⟨rfl, rfl, rfl, by decide +kernel, rfl, by decide +kernel, by decide +kernel⟩
theorem cc_lists_of_0 : CompOk (defScope s_lists_of) ["standings"] { kind := .function, names := [(Str.ofString ".0", .local), (Str.ofString "standing", .local), (Str.ofString "list", .globalImplicit)], isGenerator := false, isCoroutine := false, more := [] } ["standing"] 1 [none] := ⟨rfl, by decide +kernel, by decide +kernel, by decide +kernel, rfl, by decide +kernel, rfl, by decide +kernel⟩
abbrev s_run_back_from : Stmt := top 22
theorem sc_run_back_from : FnScope ["steps", "goal", "run", "step", "ahead", "move"] ["steps", "goal"] (defScope s_run_back_from) := ⟨rfl, rfl, rfl, by decide +kernel, rfl, by decide +kernel, by decide +kernel⟩
section
variable {P : Program} {w : World} {K : PySem.W.Frag} {mg : Str → Option Value} {base : Heap} {f : Addr} {fd : FuncData} {c5 : Addr} {tk : Tok}
theorem ok_first_steps {f1 : Addr} {fd1 : FuncData} (F : Fn K mg "first_steps" s_first_steps ["line", "train"] f fd) (B : Bm mg) (C : Cm mg tk) (XS : Xt K mg c5) (F_moves_of : Fn K mg "moves_of" s_moves_of ["line", "train"] f1 fd1)
  (G_moves_of : FnOk P w K mg base CX0 3 f1 fd1 ["line", "train"] (sp_moves K)) : FnOk P w K mg base (CXr P w base) 4 f fd ["line", "train"] (sp_steps K c5) := by
 refine F.F.okX sc_first_steps (fun vs H Q E h => ?_) (fun cdv A outer s H vs Q E hr h => ?_)
 ·obtain ⟨v, u, l, ns, rfl, _⟩ := h; rfl
 ·obtain ⟨v, u, l, ns, rfl, hv, hu, ok, hne, hz, T, k1, k2⟩ := h
  obtain ⟨a, rfl, ha⟩ := da_ints.mp hu
  refine ⟨_, (pss_cons (ps_set (i := 2) sc_first_steps.nd rfl (Or.inl rfl) (pe_callTy call_tuple_of rfl B.tuple boot_tuple (pa_cons (pv 1) pa_nil)))
 (pss_cons (ps_set (i := 3) sc_first_steps.nd rfl (Or.inl rfl) (pe_disp1 (hu_of hr) (pv 2) pe_non))
 (pss_cons (ps_set (i := 4) sc_first_steps.nd rfl (Or.inl rfl) (pe_lst (pa_cons (pv 2) pa_nil)))
 (pss_cons (ps_set (i := 5) sc_first_steps.nd rfl (Or.inl rfl) pe_int)
 (pss_cons (ps_while PassesOwn.leaving (pt_cmp (pc_lt (pv 5) (pe_callB call_len_seq rfl B.len boot_len (pa_cons (pv 4) pa_nil))))
 (pss_cons (ps_set (i := 6) sc_first_steps.nd rfl (Or.inl rfl) (pe_ix ix_list (pv 4) (pv 5) (fun _ _ => rfl)))
 (pss_cons (ps_aug (i := 5) sc_first_steps.nd rfl (Or.inl rfl) pe_int ip_add)
 (pss_one (ps_for PassesOwn.leaving rfl (pi_list (pe_call G_moves_of (hr.mono (by decide)) rfl F_moves_of.m F_moves_of.F.kp F_moves_of.b .nil pass0 (pa_cons (pv 0) (pa_cons (pe_callTy call_list_of rfl B.list boot_list (pa_cons (pv 6) pa_nil)) pa_nil)))) (pg_tup (n := 2) rfl (pgs_cons (pg_name (i := 7) sc_first_steps.nd rfl (Or.inl rfl)) (pgs_cons (pg_name (i := 8) sc_first_steps.nd rfl (Or.inl rfl)) pgs_nil)))
 (pss_cons (ps_set (i := 9) sc_first_steps.nd rfl (Or.inl rfl) (pe_callTy call_tuple_of rfl B.tuple boot_tuple (pa_cons (pv 8) pa_nil)))
 (pss_one (ps_if (pt_cmp (pc_dnotin (hu_of hr) (pv 9) (pv 3)))
 (pss_cons (ps_if (pt_cmp (pc_eqI (pe_callB call_len_seq rfl B.len boot_len (pa_cons (pv 4) pa_nil)) (pe_glob (v := .int 300) rfl C.MOST_STANDINGS ⟨_, rfl⟩)))
 (pss_one (ps_raise raises_cx rfl rfl XS.TooMany.m XS.TooMany.q PySem.F.excBase_ValueError (pa_cons (pe_fstr3 (i := 300) rfl C.MOST_STANDINGS ⟨_, rfl⟩ (by decide) (by decide)) pa_nil))) pss_nil)
 (pss_cons (ps_dput (hu_of hr) (pv 3) (pv 9) (pe_tup (pa_cons (pv 6) (pa_cons (pv 7) pa_nil))) rfl)
 (pss_one (ps_expr (pe_bm PySem.F.plainAttrs_list PySem.F.slot_list_append PySem.F.type_list_append mt_append (pv 4) (pa_cons (pv 9) pa_nil)))))) pss_nil))))))))
 (pss_one (ps_ret (pv 3)))))))), ?_⟩
  refine ⟨_, rfl, a, _, rfl, .inl ⟨ha, fun t0 nt0 => ?_⟩⟩
  have s1 := same_upd (o := .tup (ns.map V.int)) nt0
  have h1 := upd_same (H := H) (a := t0) (o := .tup (ns.map V.int))
  generalize upd H t0 _ = H1 at s1 h1 ⊢
  refine fun d nd => ⟨_, rfl, _, _, t0, kyI ns, rfl, rfl, by rw [kyI_kV]; exact same_upd nd _ _ h1, upd_same, ?_⟩
  rw [upd_upd]
  have s2 := same_upd (o := .dT [(kyI ns, V.non)]) nd
  have h2 := s2 _ _ h1
  have hd2 := upd_same (H := H1) (a := d) (o := .dT [(kyI ns, V.non)])
  have nd0 := Same.free s1 nd
  generalize upd H1 d _ = H2 at s2 h2 hd2 ⊢
  refine ⟨_, rfl, by show 1 ≤ sizeLine; decide, fun p np => ?_⟩
  have s3 := same_upd (o := .lst [V.ref t0]) np
  have h3 := s3 _ _ h2
  have hd3 := s3 _ _ hd2
  have hp3 := upd_same (H := H2) (a := p) (o := .lst [V.ref t0])
  have np0 := Same.free (s1.trans s2) np
  have S3 := s1.trans (s2.trans s3)
  generalize upd H2 p _ = H3 at s3 h3 hd3 hp3 S3 ⊢
  refine while_by (fun σ H4 => ∃ (i : Nat) (as : List Addr) (vs : List V) (x6 x7 x8 x9 : Option V), σ = [some v, some (.ref a), some (.ref t0), some (.ref d), some (.ref p), some (.int i), x6, x7, x8, x9] ∧ Same H H4 ∧ StepD K H4 d (webS l ns i) vs ∧ Ord H4 p as (webS l ns i) ∧ i ≤ (webS l ns i).length ∧ (webS l ns i).length ≤ 300)
   at5 ⟨0, [t0], [.non], none, none, none, none, rfl, S3, ⟨hd3, rfl, fun i e v' he hv' => ?_⟩, ⟨hp3, rfl, fun i b e hb he => ?_⟩, Nat.zero_le _, by simp [webS]⟩ ?_ ?_
  ·match i, he, hv' with
   | 0, he, hv' => cases he; cases hv'; rfl
  ·match i, hb, he with
   | 0, hb, he => cases hb; cases he; exact h3
  ·rintro σ H4 ⟨i, as, vs, x6, x7, x8, x9, rfl, S4, hs4, ho4, hi, h300⟩
   have E4 := webS_ok ok T hne i
   refine ⟨_, rfl, _, rfl, p, _, rfl, .inl (SqL.of ho4.at_), _, _, rfl, rfl, _, rfl, ite2 (fun hlt => ?_) (fun hlt => ?_)⟩
   ·have hlt : (i : Int) < ((as.map V.ref).length : Int) := by simpa using hlt
    rw [List.length_map, ho4.len] at hlt
    have hi2 : i < (webS l ns i).length := by omega
    have he : (webS l ns i)[i]? = some ((webS l ns i)[i]) := by simp
    generalize (webS l ns i)[i] = e at he
    obtain ⟨b, hb⟩ : ∃ b, as[i]? = some b := ⟨as[i]'(by rw [ho4.len]; exact hi2), List.getElem?_eq_getElem _⟩
    have hbt := ho4.each i b e hb he
    obtain ⟨T1, T2, T3⟩ := E4.tr e (List.mem_of_getElem? he)
    refine ⟨_, rfl, _, rfl, p, _, _, _, rfl, rfl, SqL.of ho4.at_, at_nat (v := V.ref b) (by omega) (by rw [List.getElem?_map, show ((i : Int)).toNat = i by omega, hb]; rfl), ?_⟩
    refine ⟨_, rfl, _, _, rfl, rfl, ?_⟩
    refine ⟨_, rfl, _, rfl, b, _, rfl, .inr (SqT.of hbt), fun q nq => ?_⟩
    have s5 := same_upd (o := .lst (e.1.map V.int)) nq
    have hq5 := upd_same (H := H4) (a := q) (o := .lst (e.1.map V.int))
    generalize upd H4 q _ = H5 at s5 hq5 ⊢
    refine ⟨_, _, l, e.1, rfl, Da.same (S4.trans s5) hv, da_new hq5, ok, T3, by omega, fun pm vm H6 s6 hpm hpm2 Dm => ?_⟩
    have s46 := s5.trans s6
    have S6 := S4.trans s46
    have hs6 := hs4.same s46
    have ho6 := ho4.same s46
    have mlen : (mvs l e.1).length = vm.length := by have := Dm.length; rw [List.length_map] at this; exact this.symm
    have hbt6 := s46 _ _ hbt
    have pmp : pm ≠ p := Ne.symm (ne_of_none (s5 _ _ ho4.at_) hpm)
    have pmd : pm ≠ d := Ne.symm (ne_of_none (s5 _ _ hs4.at_) hpm)
    refine ⟨pm, rfl, ⟨_, SqL.of hpm2⟩, for_list (K := K) (a := pm) (xs := vm) (fun j σ H7 => ∃ (as' : List Addr) (vs' : List V) (x7 x8 x9 : Option V), σ = [some v, some (.ref a), some (.ref t0), some (.ref d), some (.ref p), some (.int ((i : Int) + 1)), some (.ref b), x7, x8, x9] ∧
      Same H H7 ∧ Same (hid2 d p H6) H7 ∧ StepD K H7 d (scanS e.1 ((mvs l e.1).take j) (webS l ns i)) vs' ∧ Ord H7 p as' (scanS e.1 ((mvs l e.1).take j) (webS l ns i)) ∧ (scanS e.1 ((mvs l e.1).take j) (webS l ns i)).length ≤ 300)
     ⟨as, vs, x7, x8, x9, rfl, S6, fun b u h => hid_same (p := d) b u (hid_same (p := p) b u h), hs6, ho6, h300⟩ (fun j σ H7 _ ⟨_, _, _, _, _, _, _, sm, _⟩ => SqL.of (sm _ _ (by rw [hid2_ne pmd pmp]; exact hpm2))) ?_ ?_⟩
    ·rintro j y σ H7 hj ⟨as', vs', y7, y8, y9, rfl, S7, sm, hs7, ho7, h300'⟩
     obtain ⟨m, ad, p1, bb, hm, rfl, ht, dm, hbb, nbb, _⟩ := mv_at Dm hj
     obtain ⟨a1, ea1, htm⟩ := da_M dm
     cases ea1
     have bbp : bb ≠ p := Ne.symm (ne_of_none (s5 _ _ ho4.at_) nbb)
     have bbd : bb ≠ d := Ne.symm (ne_of_none (s5 _ _ hs4.at_) nbb)
     have ht7 := same_tseq sm (hid2_tup hs6.at_ ho6.at_ ht)
     have htm7 := same_tseq sm (hid2_tup hs6.at_ ho6.at_ htm)
     have hbb7 : H7 bb = some (.lst (m.2.map V.int)) := sm _ _ (by rw [hid2_ne bbd bbp]; exact hbb)
     have hb7 : H7 b = some (.tup (e.1.map V.int)) := sm _ _ (by rw [hid2_ne (ne_of hbt6 hs6.at_ (by intro z; cases z)) (ne_of hbt6 ho6.at_ (by intro z; cases z))]; exact hbt6)
     refine ⟨ad, _, rfl, ht7, rfl, _, _, rfl, _, _, rfl, rfl, ?_⟩
     refine ⟨_, rfl, bb, _, rfl, .inl ⟨SqL.of hbb7, fun st nst => ?_⟩⟩
     have s8 := same_upd (o := .tup (m.2.map V.int)) nst
     have hst := upd_same (H := H7) (a := st) (o := .tup (m.2.map V.int))
     have hs8 := hs7.same s8
     have ho8 := ho7.same s8
     have S8 := S7.trans s8
     have sm8 := sm.trans s8
     have hb8 := s8 _ _ hb7
     have htm8 := same_tseq s8 htm7
     generalize upd H7 st _ = H8 at s8 hst hs8 ho8 S8 sm8 hb8 htm8 ⊢
     refine ⟨_, rfl, _, rfl, d, _, rfl, DGet.t (k := kyI m.2) hs8.at_ (by rw [kyI_kV]; exact hst), _, rfl, ?_⟩
     rw [hs8.mem m.2]
     have stepE : scanS e.1 ((mvs l e.1).take (j + 1)) (webS l ns i) = add1 e.1 (scanS e.1 ((mvs l e.1).take j) (webS l ns i)) m := scanS_take hm
     refine ite2 (fun hn => ?_) (fun hn => ?_)
     ·have hn : m.2 ∉ (scanS e.1 ((mvs l e.1).take j) (webS l ns i)).map (·.1) := by simpa using hn
      have stepN : scanS e.1 ((mvs l e.1).take (j + 1)) (webS l ns i) = scanS e.1 ((mvs l e.1).take j) (webS l ns i) ++ [(m.2, some (e.1, m.1))] := by
       rw [stepE]; unfold add1; rw [if_neg hn]
      refine ⟨_, rfl, p, _, rfl, .inl (SqL.of ho8.at_), _, _, rfl, rfl, _, rfl, ite2 (fun h3 => ?_) (fun h3 => ?_)⟩
      ·have h3 : ((as'.map V.ref).length : Int) = 300 := by simpa using h3
       rw [List.length_map, ho8.len] at h3
       refine fun z => ⟨by show 1 ≤ sizeLine; decide, fun x hx => k2 ⟨i + 1, ?_⟩ H8 S8 x hx⟩
       rw [webS_next he]
       have := (scanS_take_pre (t := e.1) (mvs l e.1) (webS l ns i) (j + 1)).length_le
       rw [stepN, List.length_append, List.length_singleton] at this
       omega
      ·have h3 : ¬ ((as'.map V.ref).length : Int) = 300 := by simpa using h3
       rw [List.length_map, ho8.len] at h3
       refine ⟨_, rfl, _, rfl, by show 2 ≤ sizeLine; decide, fun tp ntp => ?_⟩
       have s9 := same_upd (o := .tup [.ref b, .ref p1]) ntp
       have htp := upd_same (H := H8) (a := tp) (o := .tup [.ref b, .ref p1])
       have hs9 := hs8.same s9
       have ho9 := ho8.same s9
       have hst9 := s9 _ _ hst
       have hb9 := s9 _ _ hb8
       have htm9 := same_tseq s9 htm8
       have S9 := S8.trans s9
       have sm9 := sm8.trans s9
       generalize upd H8 tp _ = H9 at s9 htp hs9 ho9 hst9 hb9 htm9 S9 sm9 ⊢
       have dl : ((List.zip (scanS e.1 ((mvs l e.1).take j) (webS l ns i)) vs').map fun p => (kyI p.1.1, p.2)).length ≤ 300 := by rw [List.length_map, List.length_zip]; omega
       refine ⟨_, rfl, _, rfl, d, _, rfl, DPut.t (k := kyI m.2) hs9.at_ (by rw [kyI_kV]; exact hst9) (big_l (by omega)), ?_⟩
       obtain ⟨g1, g2⟩ := push_step hs9 ho9 hst9 htp hb9 htm9 hn
       have pd : p ≠ d := ne_of ho9.at_ hs9.at_ (by intro z; cases z)
       have hp9 : upd H9 d (.dT (putK ((List.zip (scanS e.1 ((mvs l e.1).take j) (webS l ns i)) vs').map fun p => (kyI p.1.1, p.2)) (kyI m.2) (.ref tp))) p = some (.lst (as'.map V.ref)) := by rw [upd_ne pd]; exact ho9.at_
       refine ⟨_, rfl, .inl ⟨rfl, _, SqL.of hp9⟩, _, rfl, p, _, _, rfl, rfl, hp9, big_l (by rw [List.length_map, ho9.len]; omega), ?_⟩
       refine ⟨as' ++ [st], vs' ++ [.ref tp], _, _, _, rfl, Same.upd (Same.upd S9 nd0) np0, hid2_upd sm9, by rw [stepN]; exact g1, by rw [stepN]; exact g2, ?_⟩
       rw [stepN, List.length_append, List.length_singleton]
       omega
     ·have hn : m.2 ∈ (scanS e.1 ((mvs l e.1).take j) (webS l ns i)).map (·.1) := by simpa using hn
      have stepO : scanS e.1 ((mvs l e.1).take (j + 1)) (webS l ns i) = scanS e.1 ((mvs l e.1).take j) (webS l ns i) := by
       rw [stepE]; unfold add1; rw [if_pos hn]
      exact ⟨as', vs', _, _, _, rfl, S8, sm8, by rw [stepO]; exact hs8, by rw [stepO]; exact ho8, by rw [stepO]; exact h300'⟩
    ·rintro σ H7 ⟨as', vs', y7, y8, y9, rfl, S7, sm, hs7, ho7, h300'⟩
     rw [← mlen, List.take_length, ← webS_next he] at hs7 ho7 h300'
     have hpre := (webS_pre1 l ns i).length_le
     refine ⟨⟨i + 1, as', vs', _, _, _, _, rfl, S7, hs7, ho7, by omega, h300'⟩, ?_⟩
     show (301 - ((i : Int) + 1)).toNat < (301 - (i : Int)).toNat
     omega
   ·have hlt : ¬ (i : Int) < ((as.map V.ref).length : Int) := by simpa using hlt
    rw [List.length_map, ho4.len] at hlt
    have e1 : (webS l ns i).length = i := by omega
    exact ⟨_, rfl, k1 i d vs H4 e1 (by omega) S4 nd0 hs4⟩
  ·rintro σ H Q Q' hq ⟨x, e1, y, e2, p', ys, e3, h4, i', j', e5, e6, c, e7, q⟩
   exact ⟨x, e1, y, e2, p', ys, e3, h4, i', j', e5, e6, c, e7, hq _ _ q⟩
theorem ok_lists_of (F : Fn K mg "lists_of" s_lists_of ["standings"] f fd) (B : Bm mg) : FnOk P w K mg base CX0 1 f fd ["standings"] (sp_listsof K) := by
 refine F.F.ok sc_lists_of (fun vs H Q E h => ?_) (fun cdv A outer s H vs Q E hr h => ?_)
 ·obtain ⟨d, es, us, rfl, _⟩ := h; rfl
 ·obtain ⟨d, es, us, rfl, hs, hl, k⟩ := h
  have hd := hs.at_
  have kl : ((es.zip us).map fun p => (kyI p.1.1, p.2)).length = es.length := by rw [List.length_map, List.length_zip, hs.len]; omega
  have kat : ∀ (i : Nat) (p : List Key × V), ((es.zip us).map fun p => (kyI p.1.1, p.2))[i]? = some p → ∃ t, (es.map (·.1))[i]? = some t ∧ p.1 = kyI t := fun i p hp => by
   have h1 : (((es.zip us).map fun p => (kyI p.1.1, p.2)).map (·.1))[i]? = some p.1 := by rw [List.getElem?_map, hp]; rfl
   rw [keys_zip hs.len, List.getElem?_map] at h1
   cases q : es[i]? with
   | none => rw [q] at h1; cases h1
   | some e => rw [q] at h1; exact ⟨e.1, by rw [List.getElem?_map, q]; rfl, (Option.some.inj h1).symm⟩
  generalize (es.zip us).map (fun p => (kyI p.1.1, p.2)) = kvs at hd kl kat
  refine ⟨_, (pss_one (ps_ret (pe_frz (pe_lc (pi_keys (pv 0)) rfl cc_lists_of_0 (.name (by decide)) (fun _ _ _ _ => (pg_name (i := 0) cc_lists_of_0.nd rfl (Or.inl rfl))) (fun _ _ _ _ => pifs_nil) (fun _ _ _ _ => (pe_callTy (call_list_ofk (K := K) rfl) rfl B.list boot_list (pa_cons (pv 0) pa_nil))))))), ?_⟩
  refine ⟨d, kvs, hd, fun o => ⟨_, rfl, d, o, kvs, rfl, upd_same, fun q nq => ?_⟩⟩
  have qd : q ≠ d := fun z => by subst z; rw [upd_same] at nq; cases nq
  have nq0 : H q = none := by rw [upd_ne qd] at nq; exact nq
  have hf := upd_same (H := H) (a := d) (o := .frz o (.dT kvs))
  have hfo : ∀ b, b ≠ d → upd H d (.frz o (.dT kvs)) b = H b := fun b hb => upd_ne hb
  generalize upd H d (.frz o (.dT kvs)) = HF at nq hf hfo ⊢
  refine lc_any es.length (fun i acc H' => ∃ bs : List Addr, acc = bs.map V.ref ∧ bs.length = i ∧ Same HF H' ∧ H' q = some (.lst acc) ∧ (∀ (j : Nat) b t, bs[j]? = some b → (es.map (·.1))[j]? = some t → HF b = none ∧ b ≠ q ∧ H' b = some (.lst (t.map V.int))) ∧ bs.Nodup)
   ⟨[], rfl, rfl, same_upd nq, upd_same, fun j b t h => by simp at h, by simp⟩ (fun i acc H' hi ⟨_, _, _, sm, _⟩ => ⟨sm _ _ hf, by rw [kl]; exact hi⟩) (fun acc H' ⟨_, _, _, sm, _⟩ => ⟨sm _ _ hf, by rw [kl]; exact Nat.le_refl _⟩) ?_ ?_
  ·rintro i x acc H4 H5 hi ⟨bs, rfl, bl, sm, hq, ea, nd⟩ ⟨e5, b, p, hp, rfl, hb⟩
   subst e5
   obtain ⟨t, ht, hpt⟩ := kat i p hp
   rw [hpt, kyI_kV] at hb
   refine name_yes ?_
   refine ⟨_, rfl, b, _, rfl, .inr (SqT.of hb), fun nb nnb => ?_⟩
   have s6 := same_upd (o := .lst (t.map V.int)) nnb
   have nbq : nb ≠ q := Ne.symm (ne_of_none hq nnb)
   refine ⟨s6 _ _ hq, big_l (by rw [List.length_map]; omega), bs ++ [nb], by rw [List.map_append]; rfl, by rw [List.length_append, bl]; rfl, Same.upd (sm.trans s6) nq, upd_same, fun j c u hc hu => ?_, ?_⟩
   ·by_cases hj : j < bs.length
    ·rw [List.getElem?_append_left hj] at hc
     obtain ⟨z1, z2, z3⟩ := ea j c u hc hu
     exact ⟨z1, z2, by rw [upd_ne z2]; exact s6 _ _ z3⟩
    ·have hj2 : j = bs.length := by
      have := (List.getElem?_eq_some_iff.mp hc).1
      rw [List.length_append, List.length_singleton] at this
      omega
     rw [hj2, List.getElem?_append_right (Nat.le_refl _), Nat.sub_self] at hc
     cases hc
     rw [hj2, bl, ht] at hu
     cases hu
     exact ⟨Same.free sm nnb, nbq, by rw [upd_ne nbq]; exact upd_same⟩
   ·rw [List.nodup_append]
    refine ⟨nd, by simp, fun x hx y hy => ?_⟩
    have hy : y = nb := by simpa using hy
    subst hy
    obtain ⟨j, hj, e⟩ := List.mem_iff_getElem.mp hx
    have hje : j < (es.map (·.1)).length := by rw [List.length_map]; omega
    obtain ⟨_, _, z3⟩ := ea j x ((es.map (·.1))[j]'hje) (by rw [List.getElem?_eq_getElem hj, e]) (List.getElem?_eq_getElem _)
    exact ne_of_none z3 nnb
  ·rintro acc H' ⟨bs, rfl, bl, sm, hq, ea, nd⟩
   refine ⟨sm _ _ hf, k q bs _ ⟨fun b u h => ?_, nq0, by rw [upd_ne qd]; exact hq, by rw [List.length_map]; exact bl, fun j b t hb ht => ?_, nd⟩⟩
   ·by_cases e : b = d
    ·subst e; rw [upd_same, ← hd]; exact h
    ·rw [upd_ne e]; exact sm _ _ (by rw [hfo b e]; exact h)
   ·obtain ⟨z1, z2, z3⟩ := ea j b t hb ht
    have bd : b ≠ d := fun e => by subst e; rw [hf] at z1; cases z1
    exact ⟨by rw [← hfo b bd]; exact z1, z2, by rw [upd_ne bd]; exact z3⟩
theorem ok_run_back_from (F : Fn K mg "run_back_from" s_run_back_from ["steps", "goal"] f fd) : FnOk P w K mg base CX0 1 f fd ["steps", "goal"] (sp_back K) := by
 refine F.F.ok sc_run_back_from (fun vs H Q E h => ?_) (fun cdv A outer s H vs Q E hr h => ?_)
 ·obtain ⟨d, g, es, us, t, rfl, _⟩ := h; rfl
 ·obtain ⟨d, g, es, us, t, rfl, hs, hg, ht, bk, nd, hl, k⟩ := h
  refine ⟨_, (pss_cons (ps_set (i := 2) sc_run_back_from.nd rfl (Or.inl rfl) (pe_lst pa_nil))
 (pss_cons (ps_set (i := 3) sc_run_back_from.nd rfl (Or.inl rfl) (pe_dget (hu_of hr) (pv 0) (pv 1) (fun _ _ => rfl)))
 (pss_cons (ps_while PassesOwn.never (pt_cmp (pc_notN (pv 3)))
 (pss_cons (ps_asg (pv 3) (pg_tup (n := 2) rfl (pgs_cons (pg_name (i := 4) sc_run_back_from.nd rfl (Or.inl rfl)) (pgs_cons (pg_name (i := 5) sc_run_back_from.nd rfl (Or.inl rfl)) pgs_nil))))
 (pss_cons (ps_if (pt_cmp (pc_notN (pv 5)))
 (pss_one (ps_expr (pe_bm PySem.F.plainAttrs_list PySem.F.slot_list_append PySem.F.type_list_append mt_append (pv 2) (pa_cons (pv 5) pa_nil)))) pss_nil)
 (pss_one (ps_set (i := 3) sc_run_back_from.nd rfl (Or.inl rfl) (pe_dget (hu_of hr) (pv 0) (pv 4) (fun _ _ => rfl)))))))
 (pss_cons (ps_expr (pe_bm0 PySem.F.plainAttrs_list PySem.F.slot_list_reverse PySem.F.type_list_reverse mt_reverse (pv 2)))
 (pss_one (ps_ret (pv 2))))))), ?_⟩
  refine ⟨Nat.zero_le _, fun p np => ?_⟩
  have s1 := same_upd (o := .lst []) np
  have hp1 := upd_same (H := H) (a := p) (o := .lst [])
  generalize upd H p _ = H1 at s1 hp1 ⊢
  obtain ⟨e0, he0, rfl⟩ := List.mem_map.mp ht
  obtain ⟨j0, hj0, ej0⟩ := List.mem_iff_getElem.mp he0
  have hj0' : es[j0]? = some e0 := by rw [List.getElem?_eq_getElem hj0, ej0]
  have uat : ∀ j, j < es.length → ∃ v, us[j]? = some v := fun j hj => ⟨us[j]'(by rw [hs.len]; exact hj), List.getElem?_eq_getElem _⟩
  obtain ⟨v0, hv0⟩ := uat j0 hj0
  have hs1 := hs.same s1
  refine ⟨_, rfl, _, rfl, d, v0, rfl, by rw [← hs1.get nd hj0' hv0]; exact DGet.t (k := kyI e0.1) hs1.at_ (by rw [kyI_kV]; exact s1 _ _ hg), ?_⟩
  refine while_ix (fun n σ H3 => ∃ (e : Ent) (sv : V) (rr : List (Str × Int)) (vs : List V) (x4 x5 : Option V), σ = [some (.ref d), some (.ref g), some (.ref p), some sv, x4, x5] ∧ es[n]? = some e ∧ us[n]? = some sv ∧ Same H H3 ∧ H3 p = some (.lst vs) ∧ Das K (hid p H3) (rr.map dM) vs ∧
    (∀ k ∈ rr, PyData.strOk k.1 = true) ∧ rr.length + n ≤ es.length ∧ ∀ r, PathTo es e.1 r → PathTo es e0.1 (r ++ rr.reverse))
   j0 ⟨e0, v0, [], [], none, none, rfl, hj0', hv0, s1, hp1, dgs_nil.mpr rfl, (fun k hk => by cases hk), by simp; omega, fun r hr => by simpa using hr⟩ ?_ ?_
  ·rintro n σ H3 ⟨e, sv, rr, vs, x4, x5, rfl, hn, hsv, S3, hp3, D3, okr, ln, PT⟩
   have hs3 := hs.same S3
   have sv3 := hs3.each n e sv hn hsv
   have vl : vs.length = rr.length := by have := Dgs.length D3; rw [List.length_map] at this; exact this
   refine ⟨_, rfl, _, rfl, ite2 (fun hb => ?_) (fun hb => ?_)⟩
   ·obtain ⟨t', o'⟩ := e
    cases o' with
    | none =>
     have z : sv = .non := sv3
     rw [z] at hb
     exact absurd hb (by decide)
    | some tk =>
     obtain ⟨t1, k1⟩ := tk
     obtain ⟨a, b, c, rfl, ha, hb1, hc⟩ := sv3
     refine ⟨_, rfl, a, _, rfl, SqT.of ha, rfl, _, _, rfl, _, _, rfl, rfl, ?_⟩
     refine ⟨_, rfl, _, rfl, iteT ?_⟩
     refine ⟨_, rfl, .inl ⟨rfl, _, SqL.of hp3⟩, _, rfl, p, _, _, rfl, rfl, hp3, big_l (by omega), ?_⟩
     obtain ⟨i, e1, hi, he1, rfl⟩ := bk.back n t' t1 k1 hn
     have hlt := (List.getElem?_eq_some_iff.mp he1).1
     obtain ⟨v1, hv1⟩ := uat i hlt
     have dp : d ≠ p := ne_of hs3.at_ hp3 (by intro z; cases z)
     have bp : b ≠ p := ne_of hb1 hp3 (by intro z; cases z)
     have S4 := Same.upd (o := .lst (vs ++ [V.ref c])) S3 np
     have hs4 := hs.same S4
     refine ⟨_, rfl, _, rfl, d, v1, rfl, by rw [← hs4.get nd he1 hv1]; exact DGet.t (k := kyI e1.1) hs4.at_ (by rw [kyI_kV, upd_ne bp]; exact hb1), ?_⟩
     refine ⟨i, hi, e1, v1, rr ++ [k1], vs ++ [V.ref c], _, _, rfl, he1, hv1, S4, upd_same, ?_, fun k' hk' => ?_, by rw [List.length_append, List.length_singleton]; omega, fun r hr => ?_⟩
     ·rw [hid_upd, List.map_append]
      exact Dgs.append D3 (Dgs.one (da_M' (hid_tup hp3 hc)))
     ·rcases List.mem_append.mp hk' with z | z
      ·exact okr k' z
      ·have z : k' = k1 := by simpa using z
       rw [z]; exact bk.ok n t' e1.1 k1 hn
     ·have := PT (r ++ [k1]) (.snoc (List.mem_of_getElem? hn) hr)
      rw [List.reverse_append, List.reverse_cons, List.reverse_nil, List.nil_append]
      rw [List.append_assoc] at this
      exact this
   ·obtain ⟨t', o'⟩ := e
    cases o' with
    | some tk =>
     obtain ⟨t1, k1⟩ := tk
     obtain ⟨a, b, c, rfl, ha, hb1, hc⟩ := sv3
     exact absurd rfl hb
    | none =>
     refine ⟨_, rfl, .inl ⟨rfl, _, SqL.of hp3⟩, p, _, rfl, rfl, hp3, ?_⟩
     refine ⟨_, rfl, k p rr.reverse _ (Same.upd S3 np) np ⟨⟨_, upd_same, ?_⟩, fun k' hk' => okr k' (by simpa using hk')⟩ ?_⟩
     ·rw [hid_upd, List.map_reverse]
      exact Dgs.rev D3
     ·have := PT [] (.nil (List.mem_of_getElem? hn))
      simpa using this
  ·rintro σ H Q Q' hq ⟨x, e1, c, e2, q⟩
   exact ⟨x, e1, c, e2, hq _ _ q⟩
end
end K34
namespace K34
open PySem L2 TL PyProof.Rows
def sp_nums (K : PySem.W.Frag) : Sp := fun vs H Q _ => ∃ (d : Addr) (es : List Ent) (us : List V), vs = [.ref d] ∧ StepD K H d es us ∧ Backs es ∧ (es.map (·.1)).Nodup ∧ es.length ≤ 5000000 ∧ ∀ q us' H', Same H H' → RowsN H H' q (rowsE es) us' → Q (.ref q) H'
abbrev s_numbers_of : Stmt := top 23
theorem sc_numbers_of : FnScope ["steps", "numbers", "standing", "step"] ["steps"] (defScope s_numbers_of) := ⟨rfl, rfl, rfl, by decide +kernel, rfl, by decide +kernel, by decide +kernel⟩
theorem cc_numbers_of_0 : CompOk (defScope s_numbers_of) ["steps", "numbers", "standing", "step"] { kind := .function, names := [(Str.ofString ".0", .local), (Str.ofString "standing", .local), (Str.ofString "number", .local), (Str.ofString "list", .globalImplicit)], isGenerator := false, isCoroutine := false, more := [] } ["standing", "number"] 2 [none, none] := ⟨rfl, by decide +kernel, by decide +kernel, by decide +kernel, rfl, by decide +kernel, rfl, by decide +kernel⟩
section
variable {P : Program} {w : World} {K : PySem.W.Frag} {mg : Str → Option Value} {base : Heap} {f : Addr} {fd : FuncData}
theorem ok_numbers_of (F : Fn K mg "numbers_of" s_numbers_of ["steps"] f fd) (B : Bm mg) : FnOk P w K mg base CX0 1 f fd ["steps"] (sp_nums K) := by
 refine F.F.ok sc_numbers_of (fun vs H Q E h => ?_) (fun cdv A outer s H vs Q E hr h => ?_)
 ·obtain ⟨d, es, us, rfl, _⟩ := h; rfl
 ·obtain ⟨d, es, us, rfl, hs, bk, nd, hl, k⟩ := h
  have hd := hs.at_
  have kl : ((es.zip us).map fun p => (kyI p.1.1, p.2)).length = es.length := by rw [List.length_map, List.length_zip, hs.len]; omega
  have kat : ∀ (i : Nat) (p : List Key × V), ((es.zip us).map fun p => (kyI p.1.1, p.2))[i]? = some p → ∃ e, es[i]? = some e ∧ p.1 = kyI e.1 ∧ StepV K H e p.2 := fun i p hp => by
   rw [List.getElem?_map] at hp
   cases q : (es.zip us)[i]? with
   | none => rw [q] at hp; cases hp
   | some r =>
    rw [q] at hp
    cases hp
    obtain ⟨h1, h2⟩ := List.getElem?_zip_eq_some.mp (show (es.zip us)[i]? = some (r.1, r.2) from q)
    exact ⟨r.1, h1, rfl, hs.each i _ _ h1 h2⟩
  generalize (es.zip us).map (fun p => (kyI p.1.1, p.2)) = kvs at hd kl kat
  refine ⟨_, (pss_cons (ps_set (i := 1) sc_numbers_of.nd rfl (Or.inl rfl) pe_dnewT)
 (pss_cons (ps_frz (ps_for PassesOwn.never rfl (pi_items (pv 0)) (pg_tup (n := 2) rfl (pgs_cons (pg_name (i := 2) sc_numbers_of.nd rfl (Or.inl rfl)) (pgs_cons (pg_name (i := 3) sc_numbers_of.nd rfl (Or.inl rfl)) pgs_nil)))
 (pss_one (ps_dput (hu_of hr) (pv 1) (pv 2) (pe_ifExp (pt_cmp (pc_isN (pv 3))) pe_int (pe_op op_add (pe_dget (hu_of hr) (pv 1) (pe_ix ix_tup (pv 3) pe_int (fun _ _ => rfl)) (fun _ _ => rfl)) pe_int)) rfl))))
 (pss_one (ps_ret (pe_frz (pe_lc (pi_items (pv 1)) rfl cc_numbers_of_0 (.tup (.cons (.name (by decide)) (.cons (.name (by decide)) .nil))) (fun _ _ _ _ => (pg_tup (n := 2) rfl (pgs_cons (pg_name (i := 0) cc_numbers_of_0.nd rfl (Or.inl rfl)) (pgs_cons (pg_name (i := 1) cc_numbers_of_0.nd rfl (Or.inl rfl)) pgs_nil)))) (fun _ _ _ _ => pifs_nil) (fun _ _ _ _ => (pe_tup (pa_cons (pe_callTy (call_list_ofk (K := K) rfl) rfl B.list boot_list (pa_cons (pv 0) pa_nil)) (pa_cons (pv 1) pa_nil)))))))))), ?_⟩
  refine fun n nn => ?_
  have nd_ : n ≠ d := fun z => by subst z; rw [hd] at nn; cases nn
  refine ⟨d, kvs, by rw [upd_ne (Ne.symm nd_)]; exact hd, fun o => ⟨_, rfl, d, o, kvs, rfl, upd_same, ?_⟩⟩
  rw [upd_comm nd_]
  have hf := upd_same (H := H) (a := d) (o := .frz o (.dT kvs))
  have hfo : ∀ b, b ≠ d → upd H d (.frz o (.dT kvs)) b = H b := fun b hb => upd_ne hb
  have st0 : ∀ (i : Nat) (p : List Key × V), kvs[i]? = some p → ∃ e, es[i]? = some e ∧ p.1 = kyI e.1 ∧ StepV K (upd H d (.frz o (.dT kvs))) e p.2 := fun i p hp => by
   obtain ⟨e, h1, h2, h3⟩ := kat i p hp
   exact ⟨e, h1, h2, h3.updD hd⟩
  have nnF : upd H d (.frz o (.dT kvs)) n = none := by rw [upd_ne nd_]; exact nn
  generalize upd H d (.frz o (.dT kvs)) = HF at hf hfo st0 nnF ⊢
  refine for_any es.length (fun i σ H3 => ∃ (x2 x3 : Option V), σ = [some (.ref d), some (.ref n), x2, x3] ∧ Same HF H3 ∧ H3 n = some (.dT (kvR (rowsE (es.take i)))))
   ⟨none, none, rfl, same_upd nnF, upd_same⟩ (fun i σ H3 hi ⟨_, _, _, sm, _⟩ => ⟨sm _ _ hf, by rw [kl]; exact hi⟩) (fun σ H3 ⟨_, _, _, sm, _⟩ => ⟨sm _ _ hf, by rw [kl]; exact Nat.le_refl _⟩) ?_ ?_
  ·rintro i x σ H4 H5 hi ⟨x2, x3, rfl, S4, N4⟩ ⟨p, b, kv, np, rfl, hkv, hb, rfl⟩
   obtain ⟨e, he, hk, hst⟩ := st0 i kv hkv
   rw [hk, kyI_kV] at hb
   have s5 := same_upd (o := .tup [.ref b, kv.2]) np
   have hp5 := upd_same (H := H4) (a := p) (o := .tup [.ref b, kv.2])
   have N5 := s5 _ _ N4
   have S5 := S4.trans s5
   have hb5 := s5 _ _ hb
   generalize upd H4 p _ = H5 at s5 hp5 N5 S5 hb5 ⊢
   have st5 := hst.same S5
   have rl : (rowsE (es.take i)).length = i := by rw [rowsE_len, List.length_take]; omega
   refine ⟨p, _, rfl, SqT.of hp5, rfl, _, _, rfl, _, _, rfl, rfl, ?_⟩
   have hnew : e.1 ∉ (rowsE (es.take i)).map (·.1) := by
    rw [rowsE_fst]
    intro hm
    obtain ⟨e', hm, hk⟩ := List.mem_map.mp hm
    obtain ⟨j, hj, ej⟩ := List.mem_iff_getElem.mp hm
    rw [List.length_take] at hj
    rw [List.getElem_take] at ej
    obtain ⟨hi, ei⟩ := List.getElem?_eq_some_iff.mp he
    have h2 : (es.map (·.1))[j]'(by rw [List.length_map]; omega) = (es.map (·.1))[i]'(by rw [List.length_map]; omega) := by
     rw [List.getElem_map, List.getElem_map, ej, ei]
     exact hk
    have := (List.getElem_inj nd).mp h2
    omega
   have hval : valV (kvR (rowsE (es.take i))) (kyI e.1) = none := by
    rw [kvR_val]
    cases q : lookR (rowsE (es.take i)) e.1 with
    | none => rfl
    | some z => exact absurd (List.mem_map.mpr ⟨_, lookR_some q, rfl⟩) hnew
   have fin : ∀ z : Int, z = num1 (rowsE (es.take i)) e → ∃ a H4, (V.ref n) = .ref a ∧ DPut H5 a (.ref b) (.int z) H4 ∧ ∃ (x2 x3 : Option V), [some (V.ref d), some (.ref n), some (.ref b), some kv.2] = [some (.ref d), some (.ref n), x2, x3] ∧ Same HF H4 ∧ H4 n = some (.dT (kvR (rowsE (es.take (i + 1))))) := fun z hz =>
    ⟨n, _, rfl, .inr ⟨_, kyI e.1, b, N5, rfl, by rw [kyI_kV]; exact hb5, big_l (by unfold kvR; rw [List.length_map]; omega), rfl⟩, _, _, rfl, Same.upd S5 nnF, by
     rw [upd_same, putK_new _ hval, List.take_add_one, he, hz]
     show _ = some (HO.dT (kvR (rowsE (es.take i ++ [e]))))
     rw [rowsE_snoc]
     unfold kvR
     rw [List.map_append]
     rfl⟩
   refine ⟨_, rfl, _, rfl, ite2 (fun hh => ?_) (fun hh => ?_)⟩
   ·refine ⟨_, rfl, _, rfl, fin _ ?_⟩
    obtain ⟨t', o'⟩ := e
    cases o' with
    | none => rfl
    | some tk =>
     exfalso
     obtain ⟨t1, k1⟩ := tk
     obtain ⟨a, b1, c, hkv2, _⟩ := st5
     rw [hkv2] at hh
     exact absurd (of_decide_eq_true hh) (by intro z; cases z)
   ·obtain ⟨t', o'⟩ := e
    cases o' with
    | none =>
     have z : kv.2 = .non := st5
     rw [z] at hh
     exact absurd rfl hh
    | some tk =>
     obtain ⟨t1, k1⟩ := tk
     obtain ⟨a, b1, c, hkv2, ha, hb1, hc⟩ := st5
     obtain ⟨j, e1, hj, he1, rfl⟩ := bk.back i t' t1 k1 he
     obtain ⟨z, hz⟩ := lookR_in (rows := rowsE (es.take i)) (t := e1.1) (by
      rw [rowsE_fst]
      exact List.mem_map.mpr ⟨e1, List.mem_of_getElem? (by rw [List.getElem?_take, if_pos hj]; exact he1), rfl⟩)
     refine ⟨_, rfl, _, rfl, a, _, _, _, hkv2, rfl, SqT.of ha, rfl, n, V.int z, rfl, ?_, _, _, rfl, rfl, ?_⟩
     ·have g := DGet.t (k := kyI e1.1) N5 (by rw [kyI_kV]; exact hb1)
      rw [kvR_val, hz] at g
      exact g
     ·refine ⟨_, rfl, _, rfl, fin _ ?_⟩
      show z + 1 = (lookR (rowsE (es.take i)) e1.1).getD 0 + 1
      rw [hz]; rfl
  ·rintro σ H3 ⟨x2, x3, rfl, S3, N3⟩
   rw [List.take_length] at N3
   refine ⟨S3 _ _ hf, ?_⟩
   have S4 : Same H (upd H3 d (.dT kvs)) := fun b u h => by
    by_cases e : b = d
    ·subst e; rw [upd_same, ← hd]; exact h
    ·rw [upd_ne e]; exact S3 _ _ (by rw [hfo b e]; exact h)
   have hn4 : upd H3 d (.dT kvs) n = some (.dT (kvR (rowsE es))) := by rw [upd_ne nd_]; exact N3
   have nl : (kvR (rowsE es)).length = es.length := by unfold kvR; rw [List.length_map, rowsE_len]
   generalize upd H3 d (.dT kvs) = H4 at S4 hn4 ⊢
   refine ⟨n, _, hn4, fun o2 => ⟨_, rfl, n, o2, _, rfl, upd_same, fun q nq => ?_⟩⟩
   have S5 := Same.upd (o := .frz o2 (.dT (kvR (rowsE es)))) S4 nn
   have hf5 := upd_same (H := H4) (a := n) (o := .frz o2 (.dT (kvR (rowsE es))))
   generalize upd H4 n (.frz o2 (.dT (kvR (rowsE es)))) = H5 at nq S5 hf5 ⊢
   have hqn : q ≠ n := fun e => by rw [e, hf5] at nq; cases nq
   refine lc_pw es.length (rowsE es) (Row1N H) (fun r v => Row1N.mono r v) nq (rowsE_len es).symm (big_l (by omega)) (fun i H' sm hi => ⟨sm _ _ hf5, by rw [nl]; exact hi⟩) (fun H' sm => ⟨sm _ _ hf5, by rw [nl]; exact Nat.le_refl _⟩) ?_ ?_
   ·rintro i x r H6 H7 sm ⟨acc, hq⟩ ⟨p, b, kv, np, rfl, hkv, hb, rfl⟩ hr P1 P0 kk
    have ekv : kv = (kyI r.1, V.int r.2) := by
     unfold kvR at hkv
     rw [List.getElem?_map, hr] at hkv
     exact (Option.some.inj hkv).symm
    subst ekv
    have hb : _ = some (HO.tup ((kyI r.1).map kV)) := hb
    rw [kyI_kV] at hb
    have s7 := same_upd (o := .tup [.ref b, .int r.2]) np
    have hp7 := upd_same (H := H6) (a := p) (o := .tup [.ref b, .int r.2])
    have hb7 := s7 _ _ hb
    have hq7 := s7 _ _ hq
    have S7 := sm.trans s7
    dsimp only at hp7 ⊢
    generalize upd H6 p _ = H7 at s7 hp7 hb7 hq7 S7 ⊢
    refine ⟨p, _, rfl, SqT.of hp7, rfl, _, _, rfl, _, _, rfl, rfl, ?_⟩
    refine t_yes ?_
    refine ⟨_, rfl, b, _, rfl, .inr (SqT.of hb7), fun nb nnb => ?_⟩
    have s8 := same_upd (o := .lst (r.1.map V.int)) nnb
    refine ⟨_, rfl, by show 2 ≤ sizeLine; decide, fun nt nnt => kk _ _ (s7.trans (s8.trans (same_upd nnt))) ?_⟩
    have nbq : nb ≠ q := (ne_of_none hq7 nnb).symm
    have ntq : nt ≠ q := (ne_of_none (s8 _ _ hq7) nnt).symm
    exact ⟨nt, nb, rfl, by rw [hid_ne ntq, upd_same], by rw [hid_ne nbq]; exact same_upd nnt _ _ upd_same, Same.free (S5.trans S7) nnb⟩
   ·intro vs8 H8 sm h8 D8
    refine ⟨sm _ _ hf5, k q vs8 _ (Same.upd (S5.trans sm) nn) ?_⟩
    refine ⟨by rw [upd_ne hqn]; exact h8, Same.free S5 nq, ?_⟩
    have hh : hid q (upd H8 n (.dT (kvR (rowsE es)))) = upd (hid q H8) n (.dT (kvR (rowsE es))) := by
     funext c
     by_cases e1 : c = q
     ·subst e1; rw [hid_self, upd_ne hqn, hid_self]
     ·rw [hid_ne e1]
      by_cases e2 : c = n
      ·subst e2; rw [upd_same, upd_same]
      ·rw [upd_ne e2, upd_ne e2, hid_ne e1]
    rw [hh]
    exact D8.imp fun r v => Row1N.updF r v (by rw [hid_ne (Ne.symm hqn)]; exact sm _ _ hf5)
end
end K34
namespace K34
open PySem L2 TL PyProof.Rows
theorem Fresh.post {H H' H'' : Hp} {p : Addr} {bs : List Addr} {ts : List (List Int)} (s : Same H' H'') (h : Fresh H H' p bs ts) : Fresh H H'' p bs ts :=
 ⟨h.same.trans s, h.new, s _ _ h.at_, h.len, fun i b t h1 h2 => ⟨(h.each i b t h1 h2).1, (h.each i b t h1 h2).2.1, s _ _ (h.each i b t h1 h2).2.2⟩, h.nd⟩
def gOk (l : Ln) (ns gs : List Int) : Prop := isT l gs ∧ gs.length = ns.length
def sp_goal (K : PySem.W.Frag) (c2 : Addr) : Sp := fun vs H Q E => ∃ (v u g : V) (l : Ln) (ns gs : List Int), vs = [v, u, g] ∧ Da K H (dL l) v ∧ Da K H (dI ns) u ∧ Da K H (dI gs) g ∧ LineOk l ∧ gs.length ≤ 900 ∧
 (gOk l ns gs → ∀ H', Same H H' → Q .non H') ∧ (¬ gOk l ns gs → ∀ H', Same H H' → ∀ e, H' e = none → E (.ref c2) (some e) H')
structure Least (K : PySem.W.Frag) (c2 c5 : Addr) (l : Ln) (ns gs : List Int) (H : Hp) (Q : VK) (E : XK) : Prop where
 bad : ¬ gOk l ns gs → ∀ H', Same H H' → ∀ e, H' e = none → E (.ref c2) (some e) H'
 many : gOk l ns gs → (∃ i, 300 < (webS l ns i).length) → ∀ H', Same H H' → ∀ e, H' e = none → E (.ref c5) (some e) H'
 no : gOk l ns gs → ∀ i, (webS l ns i).length = i → i ≤ 300 → gs ∉ (webS l ns i).map (·.1) → ∀ r q bs H', Fresh H H' q bs ((webS l ns i).map (·.1)) → H' r = some (.tup [.str "none", .ref q]) → H r = none → Q (.ref r) H'
 yes : gOk l ns gs → ∀ i, (webS l ns i).length = i → i ≤ 300 → gs ∈ (webS l ns i).map (·.1) → ∀ r q1 run q2 us H', Same H H' → RunAt K H' q1 run → H q1 = none → PathTo (webS l ns i) gs run → RowsN H H' q2 (rowsE (webS l ns i)) us → q1 ≠ q2 → H' r = some (.tup [.str "run", .ref q1, .ref q2]) → H r = none → Q (.ref r) H'
def sp_least (K : PySem.W.Frag) (c2 c5 : Addr) : Sp := fun vs H Q E => ∃ (v u g : V) (l : Ln) (ns gs : List Int), vs = [v, u, g] ∧ Da K H (dL l) v ∧ Da K H (dI ns) u ∧ Da K H (dI gs) g ∧ LineOk l ∧ ns ≠ [] ∧ ns.length ≤ 900 ∧ TrOk l ns ∧ gs.length ≤ 900 ∧ Least K c2 c5 l ns gs H Q E
abbrev s_check_goal : Stmt := top 19
theorem sc_check_goal : FnScope ["line", "train", "goal"] ["line", "train", "goal"] (defScope s_check_goal) := ⟨rfl, rfl, rfl, by decide +kernel, rfl, by decide +kernel, by decide +kernel⟩
abbrev s_least : Stmt := top 24
theorem sc_least : FnScope ["line", "train", "goal", "steps", "aim"] ["line", "train", "goal"] (defScope s_least) := ⟨rfl, rfl, rfl, by decide +kernel, rfl, by decide +kernel, by decide +kernel⟩
section
variable {P : Program} {w : World} {K : PySem.W.Frag} {mg : Str → Option Value} {base : Heap} {f : Addr} {fd : FuncData} {c2 c5 : Addr}
theorem ok_check_goal {f1 : Addr} {fd1 : FuncData} (F : Fn K mg "check_goal" s_check_goal ["line", "train", "goal"] f fd) (XS : Xr K mg c2) (B : Bm mg)
  (F_check_train : Fn K mg "check_train" s_check_train ["line", "train"] f1 fd1) (G_check_train : FnOk P w K mg base (CXr P w base) 2 f1 fd1 ["line", "train"] (sp_check K c2)) : FnOk P w K mg base (CXr P w base) 3 f fd ["line", "train", "goal"] (sp_goal K c2) := by
 refine F.F.okX sc_check_goal (fun vs H Q E h => ?_) (fun cdv A outer s H vs Q E hr h => ?_)
 ·obtain ⟨v, u, g, l, ns, gs, rfl, _⟩ := h; rfl
 ·obtain ⟨v, u, g, l, ns, gs, rfl, hv, hu, hg, ok, gl, k1, k2⟩ := h
  obtain ⟨a, rfl, ha⟩ := da_ints.mp hu
  obtain ⟨b, rfl, hb⟩ := da_ints.mp hg
  refine ⟨_, (pss_cons (ps_expr (pe_call G_check_train (hr.mono (by decide)) rfl F_check_train.m F_check_train.F.kp F_check_train.b .nil passes_cx (pa_cons (pv 0) (pa_cons (pv 2) pa_nil))))
 (pss_one (ps_if (pt_cmp (pc_neI (pe_callB call_len_seq rfl B.len boot_len (pa_cons (pv 2) pa_nil)) (pe_callB call_len_seq rfl B.len boot_len (pa_cons (pv 1) pa_nil))))
 (pss_one (ps_raise raises_cx rfl rfl XS.NoTrain.m XS.NoTrain.q PySem.F.excBase_ValueError (pa_cons pe_str pa_nil))) pss_nil))), ?_⟩
  refine ⟨_, rfl, _, rfl, _, _, l, gs, rfl, hv, hg, ok, gl, fun it H1 s1 => ?_, fun z H1 s1 e he => k2 (fun y => z y.1) H1 s1 e he⟩
  refine ⟨_, rfl, b, _, rfl, .inl (s1.seq hb), _, rfl, a, _, rfl, .inl (s1.seq ha), _, _, rfl, rfl, _, rfl, ite2 (fun h => ?_) (fun h => ?_)⟩
  ·have h : ((gs.map V.int).length : Int) ≠ ((ns.map V.int).length : Int) := by simpa using h
   rw [List.length_map, List.length_map] at h
   exact ⟨by decide, fun e he => k2 (fun z => h (by rw [z.2])) H1 s1 e he⟩
  ·have h : ((gs.map V.int).length : Int) = ((ns.map V.int).length : Int) := by simpa using h
   rw [List.length_map, List.length_map] at h
   exact k1 ⟨it, by omega⟩ _ s1
theorem ok_least {f1 f2 f3 f4 f5 : Addr} {fd1 fd2 fd3 fd4 fd5 : FuncData} (F : Fn K mg "least" s_least ["line", "train", "goal"] f fd) (B : Bm mg)
  (F_check_goal : Fn K mg "check_goal" s_check_goal ["line", "train", "goal"] f1 fd1) (G_check_goal : FnOk P w K mg base (CXr P w base) 3 f1 fd1 ["line", "train", "goal"] (sp_goal K c2))
  (F_first_steps : Fn K mg "first_steps" s_first_steps ["line", "train"] f2 fd2) (G_first_steps : FnOk P w K mg base (CXr P w base) 4 f2 fd2 ["line", "train"] (sp_steps K c5))
  (F_lists_of : Fn K mg "lists_of" s_lists_of ["standings"] f3 fd3) (F_run_back_from : Fn K mg "run_back_from" s_run_back_from ["steps", "goal"] f4 fd4) (F_numbers_of : Fn K mg "numbers_of" s_numbers_of ["steps"] f5 fd5) :
  FnOk P w K mg base (CXr P w base) 5 f fd ["line", "train", "goal"] (sp_least K c2 c5) := by
 have G_lists_of : FnOk P w K mg base CX0 1 f3 fd3 ["standings"] (sp_listsof K) := ok_lists_of F_lists_of B
 have G_run_back_from : FnOk P w K mg base CX0 1 f4 fd4 ["steps", "goal"] (sp_back K) := ok_run_back_from F_run_back_from
 have G_numbers_of : FnOk P w K mg base CX0 1 f5 fd5 ["steps"] (sp_nums K) := ok_numbers_of F_numbers_of B
 refine F.F.okX sc_least (fun vs H Q E h => ?_) (fun cdv A outer s H vs Q E hr h => ?_)
 ·obtain ⟨v, u, g, l, ns, gs, rfl, _⟩ := h; rfl
 ·obtain ⟨v, u, g, l, ns, gs, rfl, hv, hu, hg, ok, hne, hz, T, gl, k⟩ := h
  obtain ⟨b, rfl, hb⟩ := da_ints.mp hg
  refine ⟨_, (pss_cons (ps_expr (pe_call G_check_goal (hr.mono (by decide)) rfl F_check_goal.m F_check_goal.F.kp F_check_goal.b .nil passes_cx (pa_cons (pv 0) (pa_cons (pv 1) (pa_cons (pv 2) pa_nil)))))
 (pss_cons (ps_set (i := 3) sc_least.nd rfl (Or.inl rfl) (pe_call G_first_steps (hr.mono (by decide)) rfl F_first_steps.m F_first_steps.F.kp F_first_steps.b .nil passes_cx (pa_cons (pv 0) (pa_cons (pv 1) pa_nil))))
 (pss_cons (ps_set (i := 4) sc_least.nd rfl (Or.inl rfl) (pe_callTy call_tuple_of rfl B.tuple boot_tuple (pa_cons (pv 2) pa_nil)))
 (pss_cons (ps_if (pt_cmp (pc_dnotin (hu_of hr) (pv 4) (pv 3)))
 (pss_one (ps_ret (pe_tup (pa_cons pe_str (pa_cons (pe_call G_lists_of (hr.mono (by decide)) rfl F_lists_of.m F_lists_of.F.kp F_lists_of.b .nil pass0 (pa_cons (pv 3) pa_nil)) pa_nil))))) pss_nil)
 (pss_one (ps_ret (pe_tup (pa_cons pe_str (pa_cons (pe_call G_run_back_from (hr.mono (by decide)) rfl F_run_back_from.m F_run_back_from.F.kp F_run_back_from.b .nil pass0 (pa_cons (pv 3) (pa_cons (pv 4) pa_nil))) (pa_cons (pe_call G_numbers_of (hr.mono (by decide)) rfl F_numbers_of.m F_numbers_of.F.kp F_numbers_of.b .nil pass0 (pa_cons (pv 3) pa_nil)) pa_nil)))))))))), ?_⟩
  refine ⟨_, rfl, _, rfl, _, rfl, _, _, _, l, ns, gs, rfl, hv, hu, hg, ok, gl, fun go H1 s1 => ?_, fun go H1 s1 e he => k.bad go H1 s1 e he⟩
  refine ⟨_, rfl, _, rfl, _, _, l, ns, rfl, Da.same s1 hv, Da.same s1 hu, ok, hne, hz, T, fun i d us H2 hi i300 s2 nd hs2 => ?_, fun z H2 s2 e he => k.many go z H2 (s1.trans s2) e he⟩
  have E2 := webS_ok ok T hne i
  have S2 := s1.trans s2
  refine ⟨_, rfl, b, _, rfl, .inl ⟨S2.seq hb, fun t nt => ?_⟩⟩
  have s3 := same_upd (o := .tup (gs.map V.int)) nt
  have ht := upd_same (H := H2) (a := t) (o := .tup (gs.map V.int))
  have hs3 := hs2.same s3
  have S3 := S2.trans s3
  generalize upd H2 t _ = H3 at s3 ht hs3 S3 ⊢
  refine ⟨_, rfl, _, rfl, d, _, rfl, DGet.t (k := kyI gs) hs3.at_ (by rw [kyI_kV]; exact ht), _, rfl, ?_⟩
  rw [hs3.mem gs]
  refine ite2 (fun hn => ?_) (fun hn => ?_)
  ·have hn : gs ∉ (webS l ns i).map (·.1) := by simpa using hn
   refine ⟨_, rfl, d, _, _, rfl, hs3, by omega, fun q bs H4 FR => ⟨by show 2 ≤ sizeLine; decide, fun r nr => ?_⟩⟩
   have s5 := same_upd (o := .tup [.str "none", .ref q]) nr
   exact k.no go i hi i300 hn r q bs _ (Fresh.post s5 (FR.pre S3)) upd_same (Same.free (S3.trans FR.same) nr)
  ·have hn : gs ∈ (webS l ns i).map (·.1) := by simpa using hn
   refine ⟨_, rfl, _, rfl, d, t, _, _, gs, rfl, hs3, ht, hn, webS_back l ns i, E2.nd, by omega, fun q run H4 s4 nq ra pt => ?_⟩
   refine ⟨_, rfl, d, _, _, rfl, hs3.same s4, webS_back l ns i, E2.nd, by omega, fun q2 us2 H5 s5 R5 => ⟨by show 3 ≤ sizeLine; decide, fun r nr => ?_⟩⟩
   have s6 := same_upd (o := .tup [.str "run", .ref q, .ref q2]) nr
   have hqq : q ≠ q2 := by
    obtain ⟨vs, h1, _⟩ := ra.ex
    exact ne_of_none h1 R5.new
   exact k.yes go i hi i300 hn r q run q2 us2 _ (((S3.trans s4).trans s5).trans s6) (ra.same (s5.trans s6)) (Same.free S3 nq) pt ((R5.same s6).pre (S3.trans s4)) hqq upd_same (Same.free ((S3.trans s4).trans s5) nr)
end
end K34
namespace K34
open PySem L2 TL PyProof.Rows
def sp_train (K : PySem.W.Frag) : Sp := fun vs H Q _ => ∃ (v : V) (l : Int × List (Int × Int)) (c n : Int), vs = [v, .int c, .int n] ∧ Da K H (dL l) v ∧ LineOk l ∧ 0 ≤ n ∧ n ≤ 40 ∧
 ∀ (p : Addr) (ns : List Int) (H' : Hp), Same H H' → H p = none → H' p = some (.lst (ns.map V.int)) → ns ≠ [] → ns.length ≤ 40 → (ns.length : Int) ≤ max 1 n → TrOk l ns → Q (.ref p) H'
abbrev s_law_train : Stmt := top 39
theorem sc_law_train : FnScope ["_law_line_here", "_law_cell", "_law_length", "_law_train_here", "_law_k", "_law_pieces", "_law_some"] ["_law_line_here", "_law_cell", "_law_length"] (defScope s_law_train) := ⟨rfl, rfl, rfl, by decide +kernel, rfl, by decide +kernel, by decide +kernel⟩
theorem cc_law_train_0 : CompOk (defScope s_law_train) ["_law_line_here", "_law_cell", "_law_length", "_law_train_here", "_law_k", "_law_pieces", "_law_some"] { kind := .function, names := [(Str.ofString ".0", .local), (Str.ofString "_law_end", .local)], isGenerator := false, isCoroutine := false, more := [] } ["_law_end"] 1 [none] := ⟨rfl, by decide +kernel, by decide +kernel, by decide +kernel, rfl, by decide +kernel, rfl, by decide +kernel⟩
theorem cc_law_train_1 : CompOk (defScope s_law_train) ["_law_line_here", "_law_cell", "_law_length", "_law_train_here", "_law_k", "_law_pieces", "_law_some"] { kind := .function, names := [(Str.ofString ".0", .local), (Str.ofString "_law_end", .local), (Str.ofString "_law_pieces", .free)], isGenerator := false, isCoroutine := false, more := [] } ["_law_end", "_law_pieces"] 1 [none, some 5] := ⟨rfl, by decide +kernel, by decide +kernel, by decide +kernel, rfl, by decide +kernel, rfl, by decide +kernel⟩
section
variable {P : Program} {w : World} {K : PySem.W.Frag} {mg : Str → Option Value} {base : Heap} {f : Addr} {fd : FuncData} {D c1 c2 c3 c4 c5 c6 c7 : Addr}
theorem ok_law_train {f1 f2 f3 : Addr} {fd1 fd2 fd3 : FuncData} (F : Fn K mg "_law_train" s_law_train ["_law_line_here", "_law_cell", "_law_length"] f fd) (F_law_mix : Fn K mg "_law_mix" s_law_mix ["_law_cell", "_law_k"] f1 fd1) (F_law_other : Fn K mg "_law_other" s_law_other ["_law_end"] f2 fd2)
  (F_law_joined : Fn K mg "_law_joined" s_law_joined ["_law_line_here", "_law_end"] f3 fd3) (B : Bl mg) : FnOk P w K mg base CX0 2 f fd ["_law_line_here", "_law_cell", "_law_length"] (sp_train K) := by
 have G_law_mix : FnOk P w K mg base CX0 1 f1 fd1 ["_law_cell", "_law_k"] sp_mix := ok_law_mix F_law_mix B
 have G_law_other : FnOk P w K mg base CX0 1 f2 fd2 ["_law_end"] sp_other := ok_law_other F_law_other
 have G_law_joined : FnOk P w K mg base CX0 1 f3 fd3 ["_law_line_here", "_law_end"] (sp_joined K) := ok_law_joined F_law_joined B
 refine F.F.ok sc_law_train (fun vs H Q E h => ?_) (fun cdv A outer s H vs Q E hr h => ?_)
 ·obtain ⟨v, l, c, n, rfl, _⟩ := h; rfl
 ·obtain ⟨v, l, c, n, rfl, hv, ok, h1, h40, k⟩ := h
  obtain ⟨a, b, rfl, ht, us, hl, hq⟩ := da_line hv
  have o1 := ok.one
  refine ⟨_, (pss_cons (ps_set (i := 3) sc_law_train.nd rfl (Or.inl rfl) (pe_lst (pa_cons (pe_op op_mod (pe_call G_law_mix (hr.mono (by decide)) rfl F_law_mix.m F_law_mix.F.kp F_law_mix.b .nil pass0 (pa_cons (pv 1) (pa_cons pe_int pa_nil))) (pe_op op_mul pe_int (pe_ix ix_tup (pv 0) pe_int (fun _ _ => rfl)))) pa_nil)))
 (pss_cons (ps_for PassesOwn.never rfl (pi_range2 rfl B.range (pa_cons pe_int (pa_cons (pv 2) pa_nil))) (pg_name (i := 4) sc_law_train.nd rfl (Or.inl rfl))
 (pss_cons (ps_set (i := 5) sc_law_train.nd rfl (Or.inr rfl) (pe_lc (pi_list (pv 3)) rfl cc_law_train_0 (.name (by decide)) (fun _ _ _ _ => (pg_name (i := 0) cc_law_train_0.nd rfl (Or.inl rfl))) (fun _ _ _ _ => pifs_nil) (fun _ _ _ _ => (pe_op op_fdiv (pv 0) pe_int))))
 (pss_cons (ps_lc (i := 6) sc_law_train.nd rfl rfl (pi_list (pe_call G_law_joined (hr.mono (by decide)) rfl F_law_joined.m F_law_joined.F.kp F_law_joined.b .nil pass0 (pa_cons (pv 0) (pa_cons (pe_call G_law_other (hr.mono (by decide)) rfl F_law_other.m F_law_other.F.kp F_law_other.b .nil pass0 (pa_cons (pe_ix ix_list (pv 3) (pe_un un_neg pe_int) (fun _ _ => rfl)) pa_nil)) pa_nil)))) rfl cc_law_train_1 (.name (by decide)) (fun _ _ _ _ => (pg_name (i := 0) cc_law_train_1.nd rfl (Or.inl rfl))) (fun _ _ _ _ => (pifs_one (pt_cmpR (op_notInDk (K := K) rfl hr.units) (pe_op op_fdiv (pv 0) pe_int) (pv 1) (by with_unfolding_all rfl)))) (fun _ _ _ _ => (pv 0)))
 (pss_cons (ps_if (pt_cmpR (op_eqD hr.units) (pv 6) (pe_lst pa_nil) (nomark _))
 (pss_one (ps_ret (pv 3))) pss_nil)
 (pss_one (ps_expr (pe_bm PySem.F.plainAttrs_list PySem.F.slot_list_append PySem.F.type_list_append mt_append (pv 3) (pa_cons (pe_ix ix_list (pv 6) (pe_op op_mod (pe_call G_law_mix (hr.mono (by decide)) rfl F_law_mix.m F_law_mix.F.kp F_law_mix.b .nil pass0 (pa_cons (pv 1) (pa_cons (pv 4) pa_nil))) (pe_callB call_len_seq rfl B.len boot_len (pa_cons (pv 6) pa_nil))) (fun _ _ => rfl)) pa_nil))))))))
 (pss_one (ps_ret (pv 3))))), ?_⟩
  refine ⟨_, rfl, c, 0, rfl, by decide, by decide, fun m m0 m1 => ⟨_, rfl, a, _, _, _, rfl, rfl, ht, rfl, _, _, rfl, rfl, .inl ⟨by decide, by decide⟩, _, _, rfl, rfl, (by show (0 : Int) < 2 * l.1; omega), by show 1 ≤ sizeLine; decide, fun t nt => ?_⟩⟩
  have e0 : 0 ≤ m % (2 * l.1) := Int.emod_nonneg _ (by omega)
  have e1 : m % (2 * l.1) < 2 * l.1 := Int.emod_lt_of_pos _ (by omega)
  refine ⟨_, rfl, 1, n, rfl, ⟨by decide, by decide, by omega, by omega⟩, for_range (fun i σ H3 => ∃ (ns : List Int) (x4 x5 x6 : Option V), σ = [some (.ref a), some (.int c), some (.int n), some (.ref t), x4, x5, x6] ∧ Same H H3 ∧ H3 t = some (.lst (ns.map V.int)) ∧ ns ≠ [] ∧ ns.length = i + 1 ∧ TrOk l ns)
   ⟨[m % (2 * l.1)], none, none, none, rfl, same_upd nt, upd_same, by simp, rfl, ⟨fun e he => (by rw [List.mem_singleton.mp he]; exact ⟨e0, e1⟩), by simp, fun i x y hx hy => by simp at hy⟩⟩ ?_ ?_⟩
  ·rintro i σ H3 hi ⟨ns, x4, x5, x6, rfl, S3, ht3, hne, nl, T⟩
   have hi' : i + 1 ≤ 39 := by
    have h : i < (n - 1).toNat := hi
    omega
   refine ⟨_, rfl, t, rfl, ⟨_, SqL.of ht3⟩, fun pc npc => lc_pure ns (fun _ => true) (fun e => V.int (e / 2)) npc (SqL.of ht3) (by rw [List.length_map]) (by rw [List.length_map]; exact small_l (by omega)) ?_ ?_⟩
   ·intro j x d H' hx hd sm P1 P0 k1 k0
    rw [List.getElem?_map, hd] at hx
    cases hx
    refine name_yes ?_
    exact ⟨_, rfl, _, _, rfl, rfl, ⟨by decide, by decide⟩, k1 rfl⟩
   rw [filt_true]
   have e1 : (ns.map fun e => V.int (e / 2)) = (ns.map (· / 2)).map V.int := by rw [List.map_map]; rfl
   rw [e1]
   have s4 : Same H3 (upd H3 pc (.lst ((ns.map (· / 2)).map V.int))) := same_upd npc
   refine ⟨_, rfl, _, rfl, _, rfl, t, _, _, _, rfl, rfl, SqL.of (s4 _ _ ht3), at_last hne, _, rfl, _, l, _, rfl, Da.same (S3.trans s4) hv, ok, fun p H5 s5 hp hp2 => ⟨p, rfl, ⟨_, SqL.of hp2⟩, fun q nq => lc_pure (jn l.2 (oth (ns.getLastD 0))) (fun t => !decide (t / 2 ∈ ns.map (· / 2))) (fun t => V.int t) nq (SqL.of hp2) (by rw [List.length_map]) ?_ ?_ ?_⟩⟩
   ·rw [List.length_map]
    refine small_l ?_
    unfold jn
    rw [srt_length, List.length_append]
    have := below_len ok (oth (ns.getLastD 0))
    omega
   ·intro j x d H' hx hd sm P1 P0 k1 k0
    rw [List.getElem?_map, hd] at hx
    cases hx
    have hD : Da K H' (.list ((ns.map (· / 2)).map .int)) (.ref pc) := Da.same (s5.trans sm) (da_new upd_same)
    refine ⟨_, rfl, _, _, rfl, rfl, ⟨by decide, by decide⟩, _, rfl, _, .int (d / 2), hD, dg_int.mpr rfl, okDs_I _, okD_int _, _, rfl, ?_⟩
    rw [any_I]
    exact ite2 (fun h => ⟨_, rfl, k1 h⟩) (fun h => k0 (by simpa using h))
   have efr : ((jn l.2 (oth (ns.getLastD 0))).filter fun t => !decide (t / 2 ∈ ns.map (· / 2))) = fr l ns (oth (ns.getLastD 0)) := rfl
   rw [efr]
   have S6 : Same H3 (upd H5 q (.lst ((fr l ns (oth (ns.getLastD 0))).map V.int))) := (s4.trans s5).trans (same_upd nq)
   refine ⟨_, rfl, Nat.zero_le _, fun e ne => ?_⟩
   have s7 := same_upd (o := .lst []) ne
   have hq7 := s7 _ _ (upd_same (H := H5) (a := q) (o := .lst ((fr l ns (oth (ns.getLastD 0))).map V.int)))
   refine ⟨dI (fr l ns (oth (ns.getLastD 0))), .list [], da_new hq7, da_new (ns := []) upd_same, okD_ints _, okD_nil, _, rfl, ?_⟩
   have ee : PyData.eqv (dI (fr l ns (oth (ns.getLastD 0)))) (.list []) = ((fr l ns (oth (ns.getLastD 0))).map PyData.int).isEmpty := eqv_list_nil _
   rw [ee]
   refine ite2 (fun _ => ?_) (fun hem => ?_)
   ·exact ⟨_, rfl, k t ns _ (S3.trans (S6.trans s7)) nt (s7 _ _ (S6 _ _ ht3)) hne (by omega) (by have h : i < (n - 1).toNat := hi; omega) T⟩
   ·have hpos : 0 < (fr l ns (oth (ns.getLastD 0))).length := by
     cases hh : fr l ns (oth (ns.getLastD 0)) with
     | nil => rw [hh] at hem; exact absurd rfl hem
     | cons x r => simp
    refine ⟨_, rfl, .inl ⟨rfl, _, SqL.of (s7 _ _ (S6 _ _ ht3))⟩, _, rfl, _, rfl, _, rfl, c, _, rfl, by show (0 : Int) ≤ 1 + (i : Int); omega, by show 1 + (i : Int) ≤ 1000; omega, fun m m0 m1 => ?_⟩
    have r0 : 0 ≤ m % ((fr l ns (oth (ns.getLastD 0))).length : Int) := Int.emod_nonneg _ (by omega)
    have r1 : m % ((fr l ns (oth (ns.getLastD 0))).length : Int) < ((fr l ns (oth (ns.getLastD 0))).length : Int) := Int.emod_lt_of_pos _ (by omega)
    obtain ⟨x, _, hmem, hat⟩ := at_int r0 r1
    refine ⟨_, rfl, q, _, rfl, .inl (SqL.of hq7), _, _, rfl, rfl, ?_, q, _, _, V.int x, rfl, rfl, SqL.of hq7, ?_, t, _, _, rfl, rfl, s7 _ _ (S6 _ _ ht3), ?_, ?_⟩
    ·show (0 : Int) < (((fr l ns (oth (ns.getLastD 0))).map V.int).length : Int)
     rw [List.length_map]; omega
    ·show atI _ (m % (((fr l ns (oth (ns.getLastD 0))).map V.int).length : Int)) = _
     rw [List.length_map]; exact hat
    ·rw [List.length_map]; exact small_l (by omega)
    refine ⟨ns ++ [x], _, _, _, rfl, Same.upd (S3.trans (S6.trans s7)) nt, ?_, by simp, by rw [List.length_append, nl]; rfl, T.snoc ok hne hmem⟩
    rw [upd_same, List.map_append]; rfl
  rintro σ H3 ⟨ns, x4, x5, x6, rfl, S3, ht3, hne, nl, T⟩
  refine ⟨_, rfl, k t ns _ S3 nt ht3 hne ?_ (by rw [nl]; omega) T⟩
  have h : ns.length = (n - 1).toNat + 1 := nl
  omega
end
end K34
namespace K34
open PySem L2 TL PyProof.Rows
structure NumX (H : Hp) (d : Addr) (es : List Ent) : Prop where
 at_ : H d = some (.dT (kvR (rowsE es)))
theorem NumX.same {H H' : Hp} {d : Addr} {es : List Ent} (h : NumX H d es) (s : Same H H') : NumX H' d es := ⟨s _ _ h.at_⟩
theorem NumX.mem {H : Hp} {d : Addr} {es : List Ent} (h : NumX H d es) (t : List Int) : (valV (kvR (rowsE es)) (kyI t)).isSome = decide (t ∈ es.map (·.1)) := by
 rw [kvR_val, ← rowsE_fst]
 cases q : lookR (rowsE es) t with
 | none => rw [decide_eq_false (lookR_none q)]; rfl
 | some n => rw [decide_eq_true (List.mem_map.mpr ⟨_, lookR_some q, rfl⟩)]; rfl
theorem NumX.val {H : Hp} {d : Addr} {es : List Ent} (h : NumX H d es) {t : List Int} (ht : t ∈ es.map (·.1)) : ∃ n, lookR (rowsE es) t = some n ∧ valV (kvR (rowsE es)) (kyI t) = some (.int n) := by
 obtain ⟨n, hn⟩ := lookR_in (rows := rowsE es) (t := t) (by rw [rowsE_fst]; exact ht)
 exact ⟨n, hn, by rw [kvR_val, hn]; rfl⟩
theorem push_numX {H : Hp} {d p b : Addr} {es : List Ent} {as : List Addr} {t t' : List Int} {k : Str × Int} {n : Int} (hs : NumX H d es) (ho : OrdL H p as es) (hb : H b = some (.lst (t'.map V.int))) (bp : b ≠ p) (hn : t' ∉ es.map (·.1)) (hnum : n = num1 (rowsE es) (t', some (t, k))) :
  NumX (upd (upd H d (.dT (putK (kvR (rowsE es)) (kyI t') (.int n)))) p (.lst (as.map V.ref ++ [V.ref b]))) d (es ++ [(t', some (t, k))]) ∧
  OrdL (upd (upd H d (.dT (putK (kvR (rowsE es)) (kyI t') (.int n)))) p (.lst (as.map V.ref ++ [V.ref b]))) p (as ++ [b]) (es ++ [(t', some (t, k))]) := by
 have hd := hs.at_
 have hp := ho.at_
 have dp : d ≠ p := ne_of hd hp (by intro z; cases z)
 have hv : valV (kvR (rowsE es)) (kyI t') = none := by
  have := hs.mem t'
  rw [decide_eq_false hn] at this
  exact Option.isNone_iff_eq_none.mp (by rw [← Option.not_isSome, this]; rfl)
 have e1 : putK (kvR (rowsE es)) (kyI t') (.int n) = kvR (rowsE (es ++ [(t', some (t, k))])) := by
  rw [putK_new _ hv, rowsE_snoc, hnum]
  unfold kvR
  rw [List.map_append]; rfl
 have hl : ∀ c xs, c ≠ p → H c = some (.lst xs) → upd (upd H d (.dT (putK (kvR (rowsE es)) (kyI t') (.int n)))) p (.lst (as.map V.ref ++ [V.ref b])) c = some (.lst xs) := fun c xs cp q => by
  rw [upd_ne cp, upd_ne (ne_of q hd (by intro z; cases z))]; exact q
 refine ⟨⟨by rw [upd_ne dp, upd_same, e1]⟩, ⟨by rw [upd_same, List.map_append]; rfl, by rw [List.length_append, List.length_append, ho.len]; rfl, fun i c e hc he => ?_⟩⟩
 by_cases hi : i < es.length
 ·rw [List.getElem?_append_left hi] at he
  rw [List.getElem?_append_left (by rw [ho.len]; exact hi)] at hc
  obtain ⟨z1, z2⟩ := ho.each i c e hc he
  exact ⟨z1, hl c _ z1 z2⟩
 ·have hi2 : i = es.length := by
   have := (List.getElem?_eq_some_iff.mp he).1
   rw [List.length_append, List.length_singleton] at this
   omega
  rw [hi2, List.getElem?_append_right (Nat.le_refl _), Nat.sub_self] at he
  rw [hi2, ← ho.len, List.getElem?_append_right (Nat.le_refl _), Nat.sub_self] at hc
  cases he
  cases hc
  exact ⟨bp, hl b _ bp hb⟩
def sp_web (K : PySem.W.Frag) : Sp := fun vs H Q _ => ∃ (v : V) (u : Addr) (l : Ln) (ns : List Int), vs = [v, .ref u] ∧ Da K H (dL l) v ∧ H u = some (.lst (ns.map V.int)) ∧ LineOk l ∧ ns ≠ [] ∧ ns.length ≤ 6 ∧ TrOk l ns ∧
 ∀ i t p d as H', (webS l ns i).length = i → Same H H' → H' t = some (.tup [.ref p, .ref d]) → OrdL H' p as (webS l ns i) → NumX H' d (webS l ns i) → Q (.ref t) H'
def at4 (σ : L2.St) (_ : Hp) : Nat := match (σ[4]? : Option (Option V)) with
 | some (some (V.int i)) => (4096001 - i).toNat
 | _ => 0
abbrev s_law_web : Stmt := top 42
theorem sc_law_web : FnScope ["_law_line_here", "_law_train_here", "_law_order", "_law_numbers", "_law_at", "_law_move", "_law_behind"] ["_law_line_here", "_law_train_here"] (defScope s_law_web) := ⟨rfl, rfl, rfl, by decide +kernel, rfl, by decide +kernel, by decide +kernel⟩
section
variable {P : Program} {w : World} {K : PySem.W.Frag} {mg : Str → Option Value} {base : Heap} {f : Addr} {fd : FuncData}
theorem ok_law_web {f1 : Addr} {fd1 : FuncData} (F : Fn K mg "_law_web" s_law_web ["_law_line_here", "_law_train_here"] f fd) (B : Bm mg) (F_law_moves : Fn K mg "_law_moves" s_law_moves ["_law_line_here", "_law_train_here"] f1 fd1)
  (G_law_moves : FnOk P w K mg base CX0 2 f1 fd1 ["_law_line_here", "_law_train_here"] (sp_moves K)) : FnOk P w K mg base CX0 3 f fd ["_law_line_here", "_law_train_here"] (sp_web K) := by
 refine F.F.ok sc_law_web (fun vs H Q E h => ?_) (fun cdv A outer s H vs Q E hr h => ?_)
 ·obtain ⟨v, u, l, ns, rfl, _⟩ := h; rfl
 ·obtain ⟨v, u, l, ns, rfl, hv, hu, ok, hne, hz, T, k⟩ := h
  refine ⟨_, (pss_cons (ps_set (i := 2) sc_law_web.nd rfl (Or.inl rfl) (pe_lst (pa_cons (pv 1) pa_nil)))
 (pss_cons (ps_set (i := 3) sc_law_web.nd rfl (Or.inl rfl) (pe_disp1 (hu_of hr) (pe_callTy call_tuple_of rfl B.tuple boot_tuple (pa_cons (pv 1) pa_nil)) pe_int))
 (pss_cons (ps_set (i := 4) sc_law_web.nd rfl (Or.inl rfl) pe_int)
 (pss_cons (ps_while PassesOwn.never (pt_cmp (pc_lt (pv 4) (pe_callB call_len_seq rfl B.len boot_len (pa_cons (pv 2) pa_nil))))
 (pss_cons (ps_for PassesOwn.never rfl (pi_list (pe_call G_law_moves (hr.mono (by decide)) rfl F_law_moves.m F_law_moves.F.kp F_law_moves.b .nil pass0 (pa_cons (pv 0) (pa_cons (pe_ix ix_list (pv 2) (pv 4) (fun _ _ => rfl)) pa_nil)))) (pg_tup (n := 2) rfl (pgs_cons (pg_name (i := 5) sc_law_web.nd rfl (Or.inl rfl)) (pgs_cons (pg_name (i := 6) sc_law_web.nd rfl (Or.inl rfl)) pgs_nil)))
 (pss_one (ps_if (pt_cmp (pc_dnotin (hu_of hr) (pe_callTy call_tuple_of rfl B.tuple boot_tuple (pa_cons (pv 6) pa_nil)) (pv 3)))
 (pss_cons (ps_dput (hu_of hr) (pv 3) (pe_callTy call_tuple_of rfl B.tuple boot_tuple (pa_cons (pv 6) pa_nil)) (pe_op op_add (pe_dget (hu_of hr) (pv 3) (pe_callTy call_tuple_of rfl B.tuple boot_tuple (pa_cons (pe_ix ix_list (pv 2) (pv 4) (fun _ _ => rfl)) pa_nil)) (fun _ _ => rfl)) pe_int) rfl)
 (pss_one (ps_expr (pe_bm PySem.F.plainAttrs_list PySem.F.slot_list_append PySem.F.type_list_append mt_append (pv 2) (pa_cons (pv 6) pa_nil))))) pss_nil)))
 (pss_one (ps_set (i := 4) sc_law_web.nd rfl (Or.inl rfl) (pe_op op_add (pv 4) pe_int)))))
 (pss_one (ps_ret (pe_tup (pa_cons (pv 2) (pa_cons (pv 3) pa_nil))))))))), ?_⟩
  refine ⟨_, rfl, by show 1 ≤ sizeLine; decide, fun p np => ?_⟩
  have s1 := same_upd (o := .lst [V.ref u]) np
  have hp1 := upd_same (H := H) (a := p) (o := .lst [V.ref u])
  have hu1 := s1 _ _ hu
  have up : u ≠ p := ne_of_none hu np
  generalize upd H p _ = H1 at s1 hp1 hu1 ⊢
  refine fun d nd => ⟨_, rfl, u, _, rfl, .inl ⟨SqL.of (same_upd nd _ _ hu1), fun t0 nt0 => ?_⟩⟩
  have nd0 := Same.free s1 nd
  have s2 := same_upd (o := .dT []) nd
  have s3 := same_upd (o := .tup (ns.map V.int)) nt0
  refine ⟨_, _, t0, kyI ns, rfl, rfl, by rw [kyI_kV]; exact upd_same, s3 _ _ upd_same, ?_⟩
  have hp3 := s3 _ _ (s2 _ _ hp1)
  have hu3 := s3 _ _ (s2 _ _ hu1)
  have S3 := s1.trans (s2.trans s3)
  have dp : p ≠ d := ne_of_none hp1 nd
  have du : u ≠ d := ne_of_none hu1 nd
  have S4 : Same H (upd (upd (upd H1 d (.dT [])) t0 (.tup (ns.map V.int))) d (.dT [(kyI ns, V.int 0)])) := Same.upd S3 nd0
  have hp4 : (upd (upd (upd H1 d (.dT [])) t0 (.tup (ns.map V.int))) d (.dT [(kyI ns, V.int 0)])) p = some (.lst [V.ref u]) := by rw [upd_ne dp]; exact hp3
  have hu4 : (upd (upd (upd H1 d (.dT [])) t0 (.tup (ns.map V.int))) d (.dT [(kyI ns, V.int 0)])) u = some (.lst (ns.map V.int)) := by rw [upd_ne du]; exact hu3
  have hd4 := upd_same (H := upd (upd H1 d (.dT [])) t0 (.tup (ns.map V.int))) (a := d) (o := .dT [(kyI ns, V.int 0)])
  generalize upd (upd (upd H1 d (.dT [])) t0 (.tup (ns.map V.int))) d (.dT [(kyI ns, V.int 0)]) = H4 at S4 hp4 hu4 hd4 ⊢
  refine while_by (fun σ H4 => ∃ (i : Nat) (as : List Addr) (x5 x6 : Option V), σ = [some v, some (.ref u), some (.ref p), some (.ref d), some (.int i), x5, x6] ∧ Same H H4 ∧ NumX H4 d (webS l ns i) ∧ OrdL H4 p as (webS l ns i) ∧ i ≤ (webS l ns i).length)
   at4 ⟨0, [u], none, none, rfl, S4, ⟨hd4⟩, ⟨hp4, rfl, fun i b e hb he => ?_⟩, Nat.zero_le _⟩ ?_ ?_
  ·match i, hb, he with
   | 0, hb, he => cases hb; cases he; exact ⟨up, hu4⟩
  ·rintro σ H4 ⟨i, as, x5, x6, rfl, S4, hs4, ho4, hi⟩
   have E4 := webS_ok ok T hne i
   have b4 := E4.len ok hz
   refine ⟨_, rfl, _, rfl, p, _, rfl, .inl (SqL.of ho4.at_), _, _, rfl, rfl, _, rfl, ite2 (fun hlt => ?_) (fun hlt => ?_)⟩
   ·have hlt : (i : Int) < ((as.map V.ref).length : Int) := by simpa using hlt
    rw [List.length_map, ho4.len] at hlt
    have hi2 : i < (webS l ns i).length := by omega
    have he : (webS l ns i)[i]? = some ((webS l ns i)[i]) := by simp
    generalize (webS l ns i)[i] = e at he
    obtain ⟨b, hb, bp, hbt⟩ := ho4.get he
    obtain ⟨T1, T2, T3⟩ := E4.tr e (List.mem_of_getElem? he)
    have em : e.1 ∈ (webS l ns i).map (·.1) := List.mem_map.mpr ⟨e, List.mem_of_getElem? he, rfl⟩
    refine ⟨_, rfl, _, rfl, _, rfl, p, _, _, _, rfl, rfl, SqL.of ho4.at_, at_nat (v := V.ref b) (by omega) (by rw [List.getElem?_map, show ((i : Int)).toNat = i by omega, hb]; rfl), _, _, l, e.1, rfl, Da.same S4 hv, da_new hbt, ok, T3, by omega, fun pm vm H6 s6 hpm hpm2 Dm => ?_⟩
    have S6 := S4.trans s6
    have hs6 := hs4.same s6
    have ho6 := ho4.same s6
    have mlen : (mvs l e.1).length = vm.length := by have := Dm.length; rw [List.length_map] at this; exact this.symm
    have pmp : pm ≠ p := Ne.symm (ne_of_none ho4.at_ hpm)
    have pmd : pm ≠ d := Ne.symm (ne_of_none hs4.at_ hpm)
    have b7 : ∀ j, (scanS e.1 ((mvs l e.1).take j) (webS l ns i)).length ≤ 4096000 := fun j => by
     have h1 := (scanS_take_pre (t := e.1) (mvs l e.1) (webS l ns i) j).length_le
     rw [← webS_next he] at h1
     have h2 := (webS_ok ok T hne (i + 1)).len ok hz
     omega
    refine ⟨pm, rfl, ⟨_, SqL.of hpm2⟩, for_list (K := K) (a := pm) (xs := vm) (fun j σ H7 => ∃ (as' : List Addr) (x5 x6 : Option V), σ = [some v, some (.ref u), some (.ref p), some (.ref d), some (.int i), x5, x6] ∧
      Same H H7 ∧ Same (hid2 d p H6) H7 ∧ NumX H7 d (scanS e.1 ((mvs l e.1).take j) (webS l ns i)) ∧ OrdL H7 p as' (scanS e.1 ((mvs l e.1).take j) (webS l ns i)))
     ⟨as, x5, x6, rfl, S6, fun b u h => hid_same (p := d) b u (hid_same (p := p) b u h), hs6, ho6⟩ (fun j σ H7 _ ⟨_, _, _, _, _, sm, _⟩ => SqL.of (sm _ _ (by rw [hid2_ne pmd pmp]; exact hpm2))) ?_ ?_⟩
    ·rintro j y σ H7 hj ⟨as', y5, y6, rfl, S7, sm, hs7, ho7⟩
     obtain ⟨m, ad, p1, bb, hm, rfl, ht, dm, hbb, nbb, _⟩ := mv_at Dm hj
     have bbp : bb ≠ p := Ne.symm (ne_of_none ho4.at_ nbb)
     have bbd : bb ≠ d := Ne.symm (ne_of_none hs4.at_ nbb)
     have ht7 := same_tseq sm (hid2_tup hs6.at_ ho6.at_ ht)
     have hbb7 : H7 bb = some (.lst (m.2.map V.int)) := sm _ _ (by rw [hid2_ne bbd bbp]; exact hbb)
     have b7j := b7 j
     refine ⟨ad, _, rfl, ht7, rfl, _, _, rfl, _, _, rfl, rfl, ?_⟩
     refine ⟨_, rfl, bb, _, rfl, .inl ⟨SqL.of hbb7, fun st nst => ?_⟩⟩
     have s8 := same_upd (o := .tup (m.2.map V.int)) nst
     have hst := upd_same (H := H7) (a := st) (o := .tup (m.2.map V.int))
     have hs8 := hs7.same s8
     have ho8 := ho7.same s8
     have S8 := S7.trans s8
     have sm8 := sm.trans s8
     have hbb8 := s8 _ _ hbb7
     generalize upd H7 st _ = H8 at s8 hst hs8 ho8 S8 sm8 hbb8 ⊢
     refine ⟨_, rfl, d, _, rfl, DGet.t (k := kyI m.2) hs8.at_ (by rw [kyI_kV]; exact hst), _, rfl, ?_⟩
     rw [hs8.mem m.2]
     have stepE : scanS e.1 ((mvs l e.1).take (j + 1)) (webS l ns i) = add1 e.1 (scanS e.1 ((mvs l e.1).take j) (webS l ns i)) m := scanS_take hm
     have pre : webS l ns i <+: scanS e.1 ((mvs l e.1).take j) (webS l ns i) := scanS_pre _ _ _
     refine ite2 (fun hn => ?_) (fun hn => ?_)
     ·have hn : m.2 ∉ (scanS e.1 ((mvs l e.1).take j) (webS l ns i)).map (·.1) := by simpa using hn
      have stepN : scanS e.1 ((mvs l e.1).take (j + 1)) (webS l ns i) = scanS e.1 ((mvs l e.1).take j) (webS l ns i) ++ [(m.2, some (e.1, m.1))] := by
       rw [stepE]; unfold add1; rw [if_neg hn]
      have he7 : (scanS e.1 ((mvs l e.1).take j) (webS l ns i))[i]? = some e := by
       obtain ⟨r, hr⟩ := pre
       rw [← hr, List.getElem?_append_left hi2]; exact he
      have em7 : e.1 ∈ (scanS e.1 ((mvs l e.1).take j) (webS l ns i)).map (·.1) := List.mem_map.mpr ⟨e, List.mem_of_getElem? he7, rfl⟩
      generalize scanS e.1 ((mvs l e.1).take j) (webS l ns i) = es at *
      obtain ⟨b2, g1, g2, g3⟩ := ho8.get he7
      refine ⟨_, rfl, _, rfl, _, rfl, p, _, _, _, rfl, rfl, SqL.of ho8.at_, at_nat (v := V.ref b2) (by omega) (by rw [List.getElem?_map, show ((i : Int)).toNat = i by omega, g1]; rfl), b2, _, rfl, .inl ⟨SqL.of g3, fun st2 nst2 => ?_⟩⟩
      have s9 := same_upd (o := .tup (e.1.map V.int)) nst2
      have hst2 := upd_same (H := H8) (a := st2) (o := .tup (e.1.map V.int))
      have hs9 := hs8.same s9
      have ho9 := ho8.same s9
      have S9 := S8.trans s9
      have sm9 := sm8.trans s9
      have hbb9 := s9 _ _ hbb8
      generalize upd H8 st2 _ = H9 at s9 hst2 hs9 ho9 S9 sm9 hbb9 ⊢
      obtain ⟨n, hl9, hn9⟩ := hs9.val em7
      refine ⟨d, .int n, rfl, by rw [← hn9]; exact DGet.t (k := kyI e.1) hs9.at_ (by rw [kyI_kV]; exact hst2), _, _, rfl, rfl, _, rfl, _, rfl, bb, _, rfl, .inl ⟨SqL.of hbb9, fun st3 nst3 => ?_⟩⟩
      have s10 := same_upd (o := .tup (m.2.map V.int)) nst3
      have hst3 := upd_same (H := H9) (a := st3) (o := .tup (m.2.map V.int))
      have hs10 := hs9.same s10
      have ho10 := ho9.same s10
      have S10 := S9.trans s10
      have sm10 := sm9.trans s10
      have hbb10 := s10 _ _ hbb9
      generalize upd H9 st3 _ = H10 at s10 hst3 hs10 ho10 S10 sm10 hbb10 ⊢
      have dl : (kvR (rowsE es)).length ≤ 4096000 := by unfold kvR; rw [List.length_map, rowsE_len]; omega
      refine ⟨d, _, rfl, DPut.t (k := kyI m.2) hs10.at_ (by rw [kyI_kV]; exact hst3) (big_l (by omega)), ?_⟩
      obtain ⟨q1, q2⟩ := push_numX (t := e.1) (k := m.1) (n := n + 1) hs10 ho10 hbb10 bbp hn (by show n + 1 = (lookR (rowsE es) e.1).getD 0 + 1; rw [hl9]; rfl)
      have pd : p ≠ d := ne_of ho10.at_ hs10.at_ (by intro z; cases z)
      have hp10 : upd H10 d (.dT (putK (kvR (rowsE es)) (kyI m.2) (.int (n + 1)))) p = some (.lst (as'.map V.ref)) := by rw [upd_ne pd]; exact ho10.at_
      refine ⟨_, rfl, .inl ⟨rfl, _, SqL.of hp10⟩, _, rfl, p, _, _, rfl, rfl, hp10, big_l (by rw [List.length_map, ho10.len]; omega), ?_⟩
      exact ⟨as' ++ [bb], _, _, rfl, Same.upd (Same.upd S10 nd0) np, hid2_upd sm10, by rw [stepN]; exact q1, by rw [stepN]; exact q2⟩
     ·have hn : m.2 ∈ (scanS e.1 ((mvs l e.1).take j) (webS l ns i)).map (·.1) := by simpa using hn
      have stepO : scanS e.1 ((mvs l e.1).take (j + 1)) (webS l ns i) = scanS e.1 ((mvs l e.1).take j) (webS l ns i) := by
       rw [stepE]; unfold add1; rw [if_pos hn]
      exact ⟨as', _, _, rfl, S8, sm8, by rw [stepO]; exact hs8, by rw [stepO]; exact ho8⟩
    ·rintro σ H7 ⟨as', y5, y6, rfl, S7, sm, hs7, ho7⟩
     rw [← mlen, List.take_length, ← webS_next he] at hs7 ho7
     have hpre := (webS_pre1 l ns i).length_le
     refine ⟨_, rfl, _, _, rfl, rfl, ⟨i + 1, as', _, _, rfl, S7, hs7, ho7, by omega⟩, ?_⟩
     show (4096001 - ((i : Int) + 1)).toNat < (4096001 - (i : Int)).toNat
     omega
   ·have hlt : ¬ (i : Int) < ((as.map V.ref).length : Int) := by simpa using hlt
    rw [List.length_map, ho4.len] at hlt
    have e1 : (webS l ns i).length = i := by omega
    refine ⟨_, rfl, _, rfl, by show 2 ≤ sizeLine; decide, fun t nt => ?_⟩
    exact k i t p d as _ e1 (S4.trans (same_upd nt)) upd_same (ho4.same (same_upd nt)) (hs4.same (same_upd nt))
  ·rintro σ H Q Q' hq ⟨x, e1, y, e2, p', ys, e3, h4, i', j', e5, e6, c, e7, q⟩
   exact ⟨x, e1, y, e2, p', ys, e3, h4, i', j', e5, e6, c, e7, hq _ _ q⟩
end
end K34
namespace K34
open PySem L2 TL PyProof.Rows
structure Xm (K : PySem.W.Frag) (mg : Str → Option Value) (c3 : Addr) : Prop where
 NoMove : Xc K mg "NoMove" c3
def sp_done (K : PySem.W.Frag) (C : Addr) : Sp := fun vs H Q E => ∃ (v u m : V) (l : Int × List (Int × Int)) (ns : List Int) (k : Str × Int), vs = [v, u, m] ∧ Da K H (dL l) v ∧ Da K H (dI ns) u ∧ Da K H (dM k) m ∧ PyData.strOk k.1 = true ∧ LineOk l ∧ ns ≠ [] ∧ ns.length ≤ 900 ∧
 (∀ b, fnd (mvs l ns) k = some b → NewInts H b Q) ∧ (fnd (mvs l ns) k = none → ∀ H', Same H H' → ∀ e, H' e = none → E (.ref C) (some e) H')
def sp_walked (K : PySem.W.Frag) (C : Addr) : Sp := fun vs H Q E => ∃ (v u r : V) (l : Ln) (ns : List Int) (run : List (Str × Int)), vs = [v, u, r] ∧ Da K H (dL l) v ∧ Da K H (dI ns) u ∧ Da K H (dR run) r ∧ (∀ k ∈ run, PyData.strOk k.1 = true) ∧ LineOk l ∧ ns ≠ [] ∧ ns.length ≤ 900 ∧ run.length ≤ 100000 ∧
 (∀ ts, wkl l ns run = some ts → WkOk ns run.length ts → ∀ p bs H', Fresh H H' p bs ts → Q (.ref p) H') ∧ (wkl l ns run = none → ∀ H', Same H H' → ∀ e, H' e = none → E (.ref C) (some e) H')
theorem last_ref {bs : List Addr} {ts : List (List Int)} (hl : bs.length = ts.length) (hne : ts ≠ []) : ∃ b, bs[bs.length - 1]? = some b ∧ ts[bs.length - 1]? = some (ts.getLastD []) ∧ atI (bs.map V.ref) (-1) = some (V.ref b) := by
 have h1 : 1 ≤ ts.length := by cases ts with | nil => exact absurd rfl hne | cons x r => simp
 have h2 : bs.length - 1 < bs.length := by omega
 refine ⟨bs[bs.length - 1], List.getElem?_eq_getElem h2, ?_, ?_⟩
 ·rw [List.getLastD_eq_getLast?, List.getLast?_eq_getElem?, hl, List.getElem?_eq_getElem (by omega)]; rfl
 ·exact at_neg1 (by rw [List.length_map, List.getElem?_map, List.getElem?_eq_getElem h2]; rfl)
abbrev s_done : Stmt := top 16
theorem sc_done : FnScope ["line", "train", "move", "own", "behind"] ["line", "train", "move"] (defScope s_done) := ⟨rfl, rfl, rfl, by decide +kernel, rfl, by decide +kernel, by decide +kernel⟩
abbrev s_walked : Stmt := top 30
theorem sc_walked : FnScope ["line", "train", "run", "trains", "move"] ["line", "train", "run"] (defScope s_walked) := ⟨rfl, rfl, rfl, by decide +kernel, rfl, by decide +kernel, by decide +kernel⟩
section
variable {P : Program} {w : World} {K : PySem.W.Frag} {mg : Str → Option Value} {base : Heap} {f : Addr} {fd : FuncData} {c3 : Addr}
theorem ok_done {f1 : Addr} {fd1 : FuncData} (F : Fn K mg "done" s_done ["line", "train", "move"] f fd) (XS : Xm K mg c3) (F_moves_of : Fn K mg "moves_of" s_moves_of ["line", "train"] f1 fd1)
  (G_moves_of : FnOk P w K mg base CX0 3 f1 fd1 ["line", "train"] (sp_moves K)) : FnOk P w K mg base (CXr P w base) 4 f fd ["line", "train", "move"] (sp_done K c3) := by
 refine F.F.okX sc_done (fun vs H Q E h => ?_) (fun cdv A outer s H vs Q E hr h => ?_)
 ·obtain ⟨v, u, m, l, ns, k, rfl, _⟩ := h; rfl
 ·obtain ⟨v, u, m, l, ns, k, rfl, hv, hu, hm, hk, ok, hne, hz, k1, k2⟩ := h
  refine ⟨_, (pss_cons (ps_for PassesOwn.leaving rfl (pi_list (pe_call G_moves_of (hr.mono (by decide)) rfl F_moves_of.m F_moves_of.F.kp F_moves_of.b .nil pass0 (pa_cons (pv 0) (pa_cons (pv 1) pa_nil)))) (pg_tup (n := 2) rfl (pgs_cons (pg_name (i := 3) sc_done.nd rfl (Or.inl rfl)) (pgs_cons (pg_name (i := 4) sc_done.nd rfl (Or.inl rfl)) pgs_nil)))
 (pss_one (ps_if (pt_cmpR (op_eqD hr.units) (pv 3) (pv 2) (nomark _))
 (pss_one (ps_ret (pv 4))) pss_nil)))
 (pss_one (ps_raise raises_cx rfl rfl XS.NoMove.m XS.NoMove.q PySem.F.excBase_ValueError (pa_cons pe_str pa_nil)))), ?_⟩
  refine ⟨_, rfl, _, rfl, v, u, l, ns, rfl, hv, hu, ok, hne, hz, fun p vs H1 s1 hp hp1 D1 => ?_⟩
  refine ⟨p, rfl, ⟨_, SqL.of hp1⟩, for_list (K := K) (a := p) (xs := vs) (fun i σ H3 => ∃ (x3 x4 : Option V), σ = [some v, some u, some m, x3, x4] ∧ H3 = H1 ∧ ∀ j, j < i → ∀ n, (mvs l ns)[j]? = some n → n.1 ≠ k)
   ⟨none, none, rfl, rfl, fun j hj => absurd hj (Nat.not_lt_zero j)⟩ (fun i σ H3 _ ⟨_, _, _, e, _⟩ => e ▸ SqL.of hp1) ?_ ?_⟩
  ·rintro i y σ H3 hi ⟨x3, x4, rfl, rfl, no⟩
   obtain ⟨n, ad, p1, b, hn, rfl, ht, dm, hb, nb, _⟩ := mv_at D1 hi
   refine ⟨ad, _, rfl, ht, rfl, _, _, rfl, _, _, rfl, rfl, ?_⟩
   refine ⟨_, rfl, _, rfl, dM n.1, dM k, dm, Da.same s1 hm, okD_M (strOk_mvs l ns n (List.mem_of_getElem? hn)), okD_M hk, _, rfl, ?_⟩
   rw [eqv_M]
   refine ite2 (fun e => ?_) (fun e => ?_)
   ·have e : n.1 = k := by simpa using e
    exact ⟨_, rfl, k1 _ (fnd_hit hn e no) b H3 s1 nb hb⟩
   ·have e : n.1 ≠ k := by simpa using e
    refine ⟨_, _, rfl, rfl, fun j hj n' hn' => ?_⟩
    rcases Nat.lt_succ_iff_lt_or_eq.mp hj with z | z
    ·exact no j z n' hn'
    ·subst z; rw [hn] at hn'; cases hn'; exact e
  ·rintro σ H3 ⟨x3, x4, rfl, rfl, no⟩
   have hlen : (mvs l ns).length = vs.length := by have := D1.length; rw [List.length_map] at this; exact this.symm
   refine ⟨by decide, fun e he => k2 (fnd_miss fun j hj => no j (by omega)) H3 s1 e he⟩
theorem ok_walked {f1 : Addr} {fd1 : FuncData} (F : Fn K mg "walked" s_walked ["line", "train", "run"] f fd) (B : Bm mg) (F_done : Fn K mg "done" s_done ["line", "train", "move"] f1 fd1)
  (G_done : FnOk P w K mg base (CXr P w base) 4 f1 fd1 ["line", "train", "move"] (sp_done K c3)) : FnOk P w K mg base (CXr P w base) 5 f fd ["line", "train", "run"] (sp_walked K c3) := by
 refine F.F.okX sc_walked (fun vs H Q E h => ?_) (fun cdv A outer s H vs Q E hr h => ?_)
 ·obtain ⟨v, u, r, l, ns, run, rfl, _⟩ := h; rfl
 ·obtain ⟨v, u, r, l, ns, run, rfl, hv, hu, hr0, hk, ok, hne, hz, hzr, k1, k2⟩ := h
  obtain ⟨a, rfl, ha⟩ := da_ints.mp hu
  obtain ⟨ar, vr, rfl, har, hvr⟩ := dg_list.mp hr0
  have hlr : vr.length = run.length := by have := Dgs.length hvr; rw [List.length_map] at this; exact this
  refine ⟨_, (pss_cons (ps_set (i := 3) sc_walked.nd rfl (Or.inl rfl) (pe_lst (pa_cons (pe_callTy call_list_of rfl B.list boot_list (pa_cons (pv 1) pa_nil)) pa_nil)))
 (pss_cons (ps_for PassesOwn.leaving rfl (pi_list (pv 2)) (pg_name (i := 4) sc_walked.nd rfl (Or.inl rfl))
 (pss_one (ps_expr (pe_bm PySem.F.plainAttrs_list PySem.F.slot_list_append PySem.F.type_list_append mt_append (pv 3) (pa_cons (pe_call G_done (hr.mono (by decide)) rfl F_done.m F_done.F.kp F_done.b .nil passes_cx (pa_cons (pv 0) (pa_cons (pe_ix ix_list (pv 3) (pe_un un_neg pe_int) (fun _ _ => rfl)) (pa_cons (pv 4) pa_nil)))) pa_nil)))))
 (pss_one (ps_ret (pv 3))))), ?_⟩
  refine ⟨_, rfl, a, _, rfl, .inl ha, fun b0 nb0 => ⟨by show 1 ≤ sizeLine; decide, fun p np => ?_⟩⟩
  have s1 := same_upd (o := .lst (ns.map V.int)) nb0
  have s2 := same_upd (o := .lst [V.ref b0]) np
  have hb0 := s2 _ _ (upd_same (H := H) (a := b0) (o := .lst (ns.map V.int)))
  have hp := upd_same (H := upd H b0 (.lst (ns.map V.int))) (a := p) (o := .lst [V.ref b0])
  have np0 : H p = none := Same.free s1 np
  have hbp : b0 ≠ p := ne_of_none (upd_same (H := H) (a := b0) (o := .lst (ns.map V.int))) np
  have s12 := s1.trans s2
  clear s1 s2
  generalize upd (upd H b0 _) p _ = H1 at s12 hb0 hp ⊢
  refine ⟨_, rfl, ar, rfl, ⟨_, s12.seq har⟩, for_list (K := K) (a := ar) (xs := vr) (fun i σ H3 => ∃ (x4 : Option V) (ts : List (List Int)) (bs : List Addr), σ = [some v, some (.ref a), some (.ref ar), some (.ref p), x4] ∧ wkl l ns (run.take i) = some ts ∧ WkOk ns i ts ∧ Fresh H H3 p bs ts)
   ⟨none, [ns], [b0], rfl, rfl, ⟨rfl, fun t ht => by have e : t = ns := (by simpa using ht); rw [e]; exact ⟨hne, rfl⟩⟩, ⟨s12, np0, hp, rfl, fun i b t hb ht => ?_, by simp⟩⟩ (fun i σ H3 _ ⟨_, _, _, _, _, _, F⟩ => F.same.seq har) ?_ ?_⟩
  ·match i, hb, ht with
   | 0, hb, ht => cases hb; cases ht; exact ⟨nb0, hbp, hb0⟩
  ·rintro i y σ H3 hi ⟨x4, ts, bs, rfl, hw, wo, FR⟩
   obtain ⟨k, hki, dk⟩ := das_at hvr hi
   have tne : ts ≠ [] := fun e => by have := wo.len; rw [e] at this; simp at this
   obtain ⟨bl, g1, g2, g3⟩ := last_ref FR.len tne
   obtain ⟨e1, e2, e3⟩ := FR.each _ _ _ g1 g2
   obtain ⟨t1, t2⟩ := wo.each _ (List.mem_of_getElem? g2)
   have hil : i < run.length := by have := (List.getElem?_eq_some_iff.mp hi).1; omega
   refine ⟨_, rfl, .inl ⟨rfl, _, SqL.of FR.at_⟩, _, rfl, _, rfl, _, rfl, p, _, _, _, rfl, rfl, SqL.of FR.at_, g3, _, rfl, _, _, _, l, _, k, rfl, Da.same FR.same hv, da_new e3, Da.same FR.same dk, hk k (List.mem_of_getElem? hki), ok, t1, by omega, fun b hb => ?_, fun hno H4 s4 e he => ?_⟩
   ·intro q H4 s4 nq hq
    have hp4 := s4 _ _ FR.at_
    refine ⟨p, _, _, rfl, rfl, hp4, ?_, ?_⟩
    ·rw [List.length_map, FR.len, wo.len]
     show i + 1 < 16777216
     omega
    ·have qp : q ≠ p := Ne.symm (ne_of_none FR.at_ nq)
     refine ⟨_, ts ++ [b], bs ++ [q], rfl, by rw [wkl_take hki, hw]; show (fnd _ _).map _ = _; rw [hb]; rfl, wo.snoc hb, ⟨Same.upd (FR.same.trans s4) np0, np0, ?_, by rw [List.length_append, List.length_append, FR.len]; rfl, fun j c t hc ht => ?_, ?_⟩⟩
     ·rw [upd_same, List.map_append]; rfl
     ·by_cases hj : j < bs.length
      ·rw [List.getElem?_append_left hj] at hc
       rw [List.getElem?_append_left (by rw [← FR.len]; exact hj)] at ht
       obtain ⟨z1, z2, z3⟩ := FR.each j c t hc ht
       exact ⟨z1, z2, by rw [upd_ne z2]; exact s4 _ _ z3⟩
      ·have hj2 : j = bs.length := by
        have := (List.getElem?_eq_some_iff.mp hc).1
        rw [List.length_append, List.length_singleton] at this
        omega
       rw [hj2, List.getElem?_append_right (Nat.le_refl _), Nat.sub_self] at hc
       rw [hj2, FR.len, List.getElem?_append_right (Nat.le_refl _), Nat.sub_self] at ht
       cases hc
       cases ht
       exact ⟨Same.free FR.same nq, qp, by rw [upd_ne qp]; exact hq⟩
     ·rw [List.nodup_append]
      refine ⟨FR.nd, by simp, fun x hx y hy => ?_⟩
      have hy : y = q := by simpa using hy
      subst hy
      obtain ⟨j, hj, e⟩ := List.mem_iff_getElem.mp hx
      obtain ⟨_, _, z3⟩ := FR.each j x (ts[j]'(by rw [← FR.len]; exact hj)) (by rw [List.getElem?_eq_getElem hj, e]) (List.getElem?_eq_getElem _)
      exact ne_of_none z3 nq
   ·refine k2 (wkl_none (i := i + 1) ?_) H4 (FR.same.trans s4) e he
    rw [wkl_take hki, hw]
    show (fnd _ _).map _ = _
    rw [hno]; rfl
  rintro σ H3 ⟨x4, ts, bs, rfl, hw, wo, FR⟩
  rw [hlr, List.take_length] at hw
  rw [hlr] at wo
  exact ⟨_, rfl, k1 ts hw wo p bs H3 FR⟩
end
end K34
namespace K34
open PySem L2 TL PyProof.Rows
theorem ixN_in {n : Nat} {k : Int} (h0 : 0 ≤ k) (h1 : k < n) : ixN n k = some k.toNat := by
 unfold ixN
 rw [if_pos h0, if_pos h1]
theorem pf_set {ms : List Int} {i x v : Int} (h0 : 0 ≤ i) (h1 : i < ms.length) (x0 : 0 ≤ x) : pf (ms.set i.toNat v) x = if x = i then v else pf ms x := by
 unfold pf
 rw [List.getD_eq_getElem?_getD, List.getD_eq_getElem?_getD, List.getElem?_set]
 by_cases c : x = i
 ·rw [if_pos c, if_pos (by rw [c]), if_pos (by omega)]; rfl
 ·rw [if_neg c, if_neg (by omega)]
def alt (n : Nat) : List Int := (List.replicate n [(0 : Int), 1]).flatten
theorem alt_len (n : Nat) : (alt n).length = 2 * n := by
 unfold alt
 rw [len_rep]
 show n * 2 = _
 omega
theorem alt_map (n : Nat) : (List.replicate n [V.int 0, V.int 1]).flatten = (alt n).map V.int := by
 unfold alt
 rw [List.map_flatten, List.map_replicate]
 rfl
theorem alt_pf : ∀ (n : Nat) (x : Int), 0 ≤ x → x < 2 * n → pf (alt n) x = x % 2
 | 0, x, h0, h1 => by omega
 | n + 1, x, h0, h1 => by
  have e : alt (n + 1) = 0 :: 1 :: alt n := by unfold alt; rw [List.replicate_succ, List.flatten_cons]; rfl
  rw [e]
  by_cases c : x = 0
  ·subst c; rfl
  ·by_cases d : x = 1
   ·subst d; rfl
   ·have := alt_pf n (x - 2) (by omega) (by omega)
    unfold pf at this ⊢
    have e2 : x.toNat = (x - 2).toNat + 2 := by omega
    rw [e2, List.getD_cons_succ, List.getD_cons_succ, this]
    omega
structure Mq (n : Int) (es : List Int) (ms : List Int) : Prop where
 len : (ms.length : Int) = 2 * n
 val : ∀ x, 0 ≤ x → x < 2 * n → (x ∈ es → pf ms x = 0) ∧ (oth x ∈ es → pf ms x = 1) ∧ (x ∉ es → oth x ∉ es → pf ms x = x % 2)
theorem Mq.zero {n : Int} (h : 0 ≤ n) : Mq n [] (alt n.toNat) := ⟨by rw [alt_len]; omega, fun x h0 h1 => ⟨(fun z => by cases z), (fun z => by cases z), fun _ _ => alt_pf _ _ h0 (by omega)⟩⟩
theorem Mq.add {n : Int} {es ms : List Int} {e : Int} (h : Mq n es ms) (e0 : 0 ≤ e) (e1 : e < 2 * n) (ho : e ∉ es.map oth) : Mq n (es ++ [e]) ((ms.set e.toNat 0).set (oth e).toNat 1) := by
 have o0 : 0 ≤ oth e := by unfold oth; omega
 have o1 : oth e < 2 * n := by unfold oth; omega
 have hl := h.len
 have ne : oth e ≠ e := by unfold oth; omega
 have hv : ∀ x, 0 ≤ x → pf ((ms.set e.toNat 0).set (oth e).toNat 1) x = if x = oth e then 1 else if x = e then 0 else pf ms x := fun x x0 => by
  rw [pf_set o0 (by rw [List.length_set]; omega) x0, pf_set e0 (by omega) x0]
 refine ⟨by rw [List.length_set, List.length_set]; exact hl, fun x x0 x1 => ?_⟩
 rw [hv x x0]
 obtain ⟨v1, v2, v3⟩ := h.val x x0 x1
 have ho' : oth e ∉ es := fun z => ho (List.mem_map.mpr ⟨_, z, oth_oth e⟩)
 refine ⟨fun hx => ?_, fun hx => ?_, fun hx hy => ?_⟩
 ·rcases List.mem_append.mp hx with z | z
  ·rw [if_neg (fun y : x = oth e => ho' (by rw [← y]; exact z))]
   by_cases c : x = e
   ·rw [if_pos c]
   ·rw [if_neg c]; exact v1 z
  ·have z : x = e := by simpa using z
   rw [if_neg (fun y => ne (y.symm.trans z)), if_pos z]
 ·rcases List.mem_append.mp hx with z | z
  ·by_cases c : x = oth e
   ·rw [if_pos c]
   ·rw [if_neg c, if_neg (fun y : x = e => ho' (by rw [← y]; exact z))]; exact v2 z
  ·have z : oth x = e := by simpa using z
   rw [if_pos (by rw [← z, oth_oth])]
 ·have h1 : x ∉ es := fun z => hx (List.mem_append_left _ z)
  have h2 : oth x ∉ es := fun z => hy (List.mem_append_left _ z)
  have h3 : x ≠ e := fun z => hx (List.mem_append_right _ (by rw [z]; simp))
  have h4 : x ≠ oth e := fun z => hy (List.mem_append_right _ (by rw [z, oth_oth]; simp))
  rw [if_neg h4, if_neg h3]
  exact v3 h1 h2
def sp_mark (K : PySem.W.Frag) : Sp := fun vs H Q _ => ∃ (v : V) (p : Addr) (l : Ln) (bs : List Addr) (es : List Int), vs = [v, .ref p] ∧ Da K H (dL l) v ∧ LineOk l ∧ H p = some (.lst (bs.map V.ref)) ∧ bs.length = es.length ∧ (∀ (i : Nat) b e, bs[i]? = some b → es[i]? = some e → H b = some (.lst [.int e])) ∧
 (∀ e ∈ es, (0 ≤ e ∧ e < 2 * l.1) ∧ oth e ∉ es) ∧ ∀ q ms H', Same H H' → H q = none → H' q = some (.lst (ms.map V.int)) → Mq l.1 es ms → Q (.ref q) H'
structure Turned (K : PySem.W.Frag) (l : Ln) (x : Int) (H : Hp) (Q : VK) : Prop where
 yes : Rc l x (oth x) → ∀ i r q1 run q2 us H', (webS l [x] i).length = i → Same H H' → RunAt K H' q1 run → H q1 = none → PathTo (webS l [x] i) [oth x] run → RowsN H H' q2 (rowsE (webS l [x] i)) us → q1 ≠ q2 → H' r = some (.tup [.str "run", .ref q1, .ref q2]) → H r = none → Q (.ref r) H'
 no : ¬ Rc l x (oth x) → ∀ i r q bs H', (webS l [x] i).length = i → Fresh H H' q bs ((webS l [x] i).map (·.1)) → H' r = some (.tup [.str "none", .ref q]) → H r = none → Q (.ref r) H'
def sp_turn (K : PySem.W.Frag) : Sp := fun vs H Q _ => ∃ (v u : V) (l : Ln) (x : Int), vs = [v, u] ∧ Da K H (dL l) v ∧ Da K H (dI [x]) u ∧ UJ l ∧ 0 ≤ x ∧ x < 2 * l.1 ∧ Turned K l x H Q
structure Sided (K : PySem.W.Frag) (l : Ln) (n : Int) (H : Hp) (Q : VK) : Prop where
 yes : Rc l (2 * n) (oth (2 * n)) → ∀ i r q run H', (webS l [2 * n] i).length = i → Same H H' → H r = none → H' r = some (.tup [.str "run", .ref q]) → H q = none → RunAt K H' q run → PathTo (webS l [2 * n] i) [oth (2 * n)] run → Q (.ref r) H'
 no : ¬ Rc l (2 * n) (oth (2 * n)) → ∀ r q ms H', Same H H' → H r = none → H' r = some (.tup [.str "marking", .ref q]) → H q = none → H' q = some (.lst (ms.map V.int)) → Mg l (2 * n) ms → Q (.ref r) H'
def sp_sides (K : PySem.W.Frag) : Sp := fun vs H Q _ => ∃ (v : V) (l : Ln) (n : Int), vs = [v, .int n] ∧ Da K H (dL l) v ∧ UJ l ∧ 0 ≤ n ∧ n < l.1 ∧ Sided K l n H Q
def sp_turnG (K : PySem.W.Frag) (c2 c5 : Addr) : Sp := fun vs H Q E => ∃ (v u : V) (l : Ln) (ns : List Int), vs = [v, u] ∧ Da K H (dL l) v ∧ Da K H (dI ns) u ∧ LineOk l ∧ ns ≠ [] ∧ ns.length ≤ 900 ∧ TrOk l ns ∧ Least K c2 c5 l ns (ns.reverse.map oth) H Q E
theorem Least.pre {K : PySem.W.Frag} {c2 c5 : Addr} {l : Ln} {ns gs : List Int} {H H2 : Hp} {Q : VK} {E : XK} (s2 : Same H H2) (k : Least K c2 c5 l ns gs H Q E) : Least K c2 c5 l ns gs H2 Q E :=
 ⟨fun z H' s => k.bad z H' (s2.trans s), fun z i H' s => k.many z i H' (s2.trans s), fun g i hi h3 hn r q bs H' F hr nr => k.no g i hi h3 hn r q bs H' (F.pre s2) hr (Same.free s2 nr),
  fun g i hi h3 hn r q1 run q2 us H' s R n1 PT RN hne hr nr => k.yes g i hi h3 hn r q1 run q2 us H' (s2.trans s) R (Same.free s2 n1) PT (RN.pre s2) hne hr (Same.free s2 nr)⟩
structure Few (K : PySem.W.Frag) (l : Ln) (ns gs : List Int) (H : Hp) (Q : VK) : Prop where
 no : ∀ i, (webS l ns i).length = i → i ≤ 300 → gs ∉ (webS l ns i).map (·.1) → ∀ r q bs H', Fresh H H' q bs ((webS l ns i).map (·.1)) → H' r = some (.tup [.str "none", .ref q]) → H r = none → Q (.ref r) H'
 yes : ∀ i, (webS l ns i).length = i → i ≤ 300 → gs ∈ (webS l ns i).map (·.1) → ∀ r q1 run q2 us H', Same H H' → RunAt K H' q1 run → H q1 = none → PathTo (webS l ns i) gs run → RowsN H H' q2 (rowsE (webS l ns i)) us → q1 ≠ q2 → H' r = some (.tup [.str "run", .ref q1, .ref q2]) → H r = none → Q (.ref r) H'
theorem Few.least {K : PySem.W.Frag} {c2 c5 : Addr} {l : Ln} {ns gs : List Int} {H : Hp} {Q : VK} {E : XK} (g : gOk l ns gs) {i : Nat} (hi : (webS l ns i).length = i) (h3 : i ≤ 300) (k : Few K l ns gs H Q) : Least K c2 c5 l ns gs H Q E :=
 ⟨fun z => absurd g z, fun _ ⟨j, hj⟩ => absurd (web_le hi j) (by omega), fun _ => k.no, fun _ => k.yes⟩
theorem gOk_turn {l : Ln} {ns : List Int} (ok : LineOk l) (T : TrOk l ns) (hne : ns ≠ []) : gOk l ns (ns.reverse.map oth) := ⟨⟨fun z => hne (by have := congrArg List.length z; rw [List.length_map, List.length_reverse] at this; exact List.length_eq_zero_iff.mp this), trOk_turn ok T⟩, by rw [List.length_map, List.length_reverse]⟩
theorem one_few {l : Ln} {x : Int} (ok : LineOk l) (h : 0 ≤ x ∧ x < 2 * l.1) (i : Nat) : (webS l [x] i).length ≤ 300 := by
 have := EntOk.len1 (webS_ok ok (tr_single h) (by simp) i) rfl
 have := ok.most
 omega
structure Xp (K : PySem.W.Frag) (mg : Str → Option Value) (c : Addr) : Prop where
 NoPiece : Xc K mg "NoPiece" c
abbrev s_marking_by : Stmt := top 26
theorem sc_marking_by : FnScope ["line", "standings", "marking", "standing", "end"] ["line", "standings"] (defScope s_marking_by) := ⟨rfl, rfl, rfl, by decide +kernel, rfl, by decide +kernel, by decide +kernel⟩
abbrev s_turn : Stmt := top 28
theorem sc_turn : FnScope ["line", "train"] ["line", "train"] (defScope s_turn) := ⟨rfl, rfl, rfl, by decide +kernel, rfl, by decide +kernel, by decide +kernel⟩
abbrev s_sides : Stmt := top 27
theorem sc_sides : FnScope ["line", "piece", "told"] ["line", "piece"] (defScope s_sides) := ⟨rfl, rfl, rfl, by decide +kernel, rfl, by decide +kernel, by decide +kernel⟩
section
variable {P : Program} {w : World} {K : PySem.W.Frag} {mg : Str → Option Value} {base : Heap} {f : Addr} {fd : FuncData} {D c1 c2 c3 c4 c5 c6 c7 : Addr}
theorem ok_marking_by {f1 : Addr} {fd1 : FuncData} (F : Fn K mg "marking_by" s_marking_by ["line", "standings"] f fd) (B : Bm mg) (F_other_end : Fn K mg "other_end" s_other_end ["end"] f1 fd1) : FnOk P w K mg base CX0 2 f fd ["line", "standings"] (sp_mark K) := by
 have G_other_end : FnOk P w K mg base CX0 1 f1 fd1 ["end"] sp_other := ok_other_end F_other_end
 refine F.F.ok sc_marking_by (fun vs H Q E h => ?_) (fun cdv A outer s H vs Q E hr h => ?_)
 ·obtain ⟨v, p, l, bs, es, rfl, _⟩ := h; rfl
 ·obtain ⟨v, p, l, bs, es, rfl, hv, ok, hp, hbl, hh, hes, k⟩ := h
  obtain ⟨al, bl, rfl, hlt, us, hll, hlq⟩ := da_line hv
  refine ⟨_, (pss_cons (ps_set (i := 2) sc_marking_by.nd rfl (Or.inl rfl) (pe_op op_rep (pe_lst (pa_cons pe_int (pa_cons pe_int pa_nil))) (pe_ix ix_tup (pv 0) pe_int (fun _ _ => rfl))))
 (pss_cons (ps_for PassesOwn.never rfl (pi_list (pv 1)) (pg_name (i := 3) sc_marking_by.nd rfl (Or.inl rfl))
 (pss_cons (ps_set (i := 4) sc_marking_by.nd rfl (Or.inl rfl) (pe_ix ix_list (pv 3) pe_int (fun _ _ => rfl)))
 (pss_cons (ps_asg pe_int (pg_sub (pv 2) (pv 4) set_list))
 (pss_one (ps_asg pe_int (pg_sub (pv 2) (pe_call G_other_end (hr.mono (by decide)) rfl F_other_end.m F_other_end.F.kp F_other_end.b .nil pass0 (pa_cons (pv 4) pa_nil)) set_list))))))
 (pss_one (ps_ret (pv 2))))), ?_⟩
  have l1 := ok.one
  have l40 := ok.most
  refine ⟨by show 2 ≤ sizeLine; decide, fun t nt => ?_⟩
  have s1 := same_upd (o := .lst [V.int 0, V.int 1]) nt
  have ht := upd_same (H := H) (a := t) (o := .lst [V.int 0, V.int 1])
  generalize upd H t _ = H1 at s1 ht ⊢
  refine ⟨_, rfl, al, _, _, _, rfl, rfl, same_tseq s1 hlt, rfl, t, l.1, _, rfl, rfl, ht, by omega, by omega, Nat.le_trans (m := 80) (by show 2 * l.1.toNat ≤ 80; omega) (by decide), fun q nq => ?_⟩
  rw [alt_map]
  have nq0 := Same.free s1 nq
  have s2 := s1.trans (same_upd (o := .lst ((alt l.1.toNat).map V.int)) nq)
  have hq := upd_same (H := H1) (a := q) (o := .lst ((alt l.1.toNat).map V.int))
  have M0 : Mq l.1 [] (alt l.1.toNat) := Mq.zero (by omega)
  generalize alt l.1.toNat = ms0 at s2 hq M0 ⊢
  generalize upd H1 q _ = H2 at s2 hq ⊢
  refine ⟨_, rfl, p, rfl, ⟨_, SqL.of (s2 _ _ hp)⟩, for_list (K := K) (a := p) (xs := bs.map V.ref) (fun i σ H3 => ∃ (ms : List Int) (x3 x4 : Option V), σ = [some (.ref al), some (.ref p), some (.ref q), x3, x4] ∧ Same H H3 ∧ H3 q = some (.lst (ms.map V.int)) ∧ Mq l.1 (es.take i) ms)
   ⟨ms0, none, none, rfl, s2, hq, M0⟩ (fun i σ H3 _ ⟨_, _, _, _, S3, _⟩ => SqL.of (S3 _ _ hp)) ?_ ?_⟩
  ·rintro i y σ H3 hi ⟨ms, x3, x4, rfl, S3, hq3, M3⟩
   rw [List.getElem?_map] at hi
   obtain ⟨b, hb, rfl⟩ : ∃ b, bs[i]? = some b ∧ y = .ref b := by
    cases q : bs[i]? with
    | none => rw [q] at hi; cases hi
    | some e => rw [q] at hi; cases hi; exact ⟨e, rfl, rfl⟩
   have hil : i < es.length := by rw [← hbl]; exact (List.getElem?_eq_some_iff.mp hb).1
   obtain ⟨e, hee⟩ : ∃ e, es[i]? = some e := ⟨_, List.getElem?_eq_getElem hil⟩
   have h1 := hh i b e hb hee
   obtain ⟨he, hno⟩ := hes e (List.mem_of_getElem? hee)
   have ho : 0 ≤ oth e ∧ oth e < 2 * l.1 := by unfold oth; omega
   have ml := M3.len
   refine ⟨_, rfl, b, _, _, _, rfl, rfl, SqL.of (S3 _ _ h1), at_nat (v := V.int e) (by decide) rfl, ?_⟩
   refine ⟨_, rfl, _, rfl, q, _, e, _, rfl, rfl, hq3, ixN_in he.1 (by rw [List.length_map]; omega), ?_⟩
   refine ⟨_, rfl, _, rfl, e, rfl, q, _, _, _, rfl, rfl, upd_same, ixN_in ho.1 (by rw [List.length_set, List.length_map]; omega), ?_⟩
   refine ⟨(ms.set e.toNat 0).set (oth e).toNat 1, _, _, rfl, Same.upd (Same.upd S3 nq0) nq0, by rw [upd_same, List.map_set, List.map_set], ?_⟩
   rw [List.take_add_one, hee]
   refine M3.add he.1 he.2 fun z => ?_
   obtain ⟨y, hy, e1⟩ := List.mem_map.mp z
   exact hno (by rw [← e1, oth_oth]; exact List.mem_of_mem_take hy)
  ·rintro σ H3 ⟨ms, x3, x4, rfl, S3, hq3, M3⟩
   rw [List.length_map, hbl, List.take_length] at M3
   exact ⟨_, rfl, k q ms _ S3 nq0 hq3 M3⟩
theorem ok_turnG {f1 f2 f3 : Addr} {fd1 fd2 fd3 : FuncData} (F : Fn K mg "turn" s_turn ["line", "train"] f fd) (B : Bm mg)
  (F_least : Fn K mg "least" s_least ["line", "train", "goal"] f1 fd1) (G_least : FnOk P w K mg base (CXr P w base) 5 f1 fd1 ["line", "train", "goal"] (sp_least K c2 c5))
  (F_turned : Fn K mg "turned" s_turned ["train"] f2 fd2) (F_other_end : Fn K mg "other_end" s_other_end ["end"] f3 fd3) : FnOk P w K mg base (CXr P w base) 6 f fd ["line", "train"] (sp_turnG K c2 c5) := by
 have G_turned : FnOk P w K mg base CX0 2 f2 fd2 ["train"] (sp_round K) := ok_turned F_turned B.toBl F_other_end
 refine F.F.okX sc_turn (fun vs H Q E h => ?_) (fun cdv A outer s H vs Q E hr h => ?_)
 ·obtain ⟨v, u, l, ns, rfl, _⟩ := h; rfl
 ·obtain ⟨v, u, l, ns, rfl, hv, hu, ok, hne, h900, T, k⟩ := h
  refine ⟨_, (pss_one (ps_ret (pe_call G_least (hr.mono (by decide)) rfl F_least.m F_least.F.kp F_least.b .nil passes_cx (pa_cons (pv 0) (pa_cons (pv 1) (pa_cons (pe_call G_turned (hr.mono (by decide)) rfl F_turned.m F_turned.F.kp F_turned.b .nil pass0 (pa_cons (pv 1) pa_nil)) pa_nil)))))), ?_⟩
  refine ⟨_, rfl, _, rfl, _, rfl, _, ns, rfl, hu, by omega, fun r H2 s2 nr hr2 => ?_⟩
  exact ⟨_, _, _, l, ns, _, rfl, Da.same s2 hv, Da.same s2 hu, da_new hr2, ok, hne, h900, T, by rw [List.length_map, List.length_reverse]; exact h900, k.pre s2⟩
theorem turn_one (G_turn : FnOk P w K mg base (CXr P w base) 6 f fd ["line", "train"] (sp_turnG K c2 c5)) : FnOk P w K mg base (CXr P w base) 6 f fd ["line", "train"] (sp_turn K) := G_turn.imp fun vs H Q E h => by
 obtain ⟨v, u, l, x, rfl, hv, hu, U, x0, x1, k⟩ := h
 have ho : 0 ≤ oth x ∧ oth x < 2 * l.1 := by unfold oth; omega
 have it : gOk l [x] [oth x] := ⟨⟨by simp, tr_single ho⟩, rfl⟩
 refine ⟨v, u, l, [x], rfl, hv, hu, U.ok, by simp, by simp, tr_single ⟨x0, x1⟩, fun z => absurd it z, fun _ ⟨i, hi⟩ => absurd (one_few U.ok ⟨x0, x1⟩ i) (by omega), fun _ i hi _ hg r q bs H' F hr' nr' => ?_, fun _ i hi _ hg r q1 run q2 us H' s3 R n1 PT RN hne hr' nr' => ?_⟩
 ·exact k.no (fun z => hg ((web_rc U ⟨x0, x1⟩ hi _).mpr z)) i r q bs H' hi F hr' nr'
 ·exact k.yes ((web_rc U ⟨x0, x1⟩ hi _).mp hg) i r q1 run q2 us H' hi s3 R n1 PT RN hne hr' nr'
theorem ok_sides {f1 f2 f3 : Addr} {fd1 fd2 fd3 : FuncData} (F : Fn K mg "sides" s_sides ["line", "piece"] f fd) (B : Bm mg) (XS : Xp K mg c4)
  (F_turn : Fn K mg "turn" s_turn ["line", "train"] f1 fd1) (G_turn : FnOk P w K mg base (CXr P w base) 6 f1 fd1 ["line", "train"] (sp_turn K))
  (F_marking_by : Fn K mg "marking_by" s_marking_by ["line", "standings"] f2 fd2) (F_other_end : Fn K mg "other_end" s_other_end ["end"] f3 fd3) : FnOk P w K mg base (CXr P w base) 7 f fd ["line", "piece"] (sp_sides K) := by
 have G_marking_by : FnOk P w K mg base CX0 2 f2 fd2 ["line", "standings"] (sp_mark K) := ok_marking_by F_marking_by B F_other_end
 refine F.F.okX sc_sides (fun vs H Q E h => ?_) (fun cdv A outer s H vs Q E hr h => ?_)
 ·obtain ⟨v, l, n, rfl, _⟩ := h; rfl
 ·obtain ⟨v, l, n, rfl, hv, U, n0, n1, k⟩ := h
  obtain ⟨al, bl, rfl, hlt, us, hll, hlq⟩ := da_line hv
  refine ⟨_, (pss_cons (ps_if (PW.pt (pw_or (pt_cmp (pc_lt (pv 1) pe_int)) (pw_or1 (pt_cmp (pc_ge (pv 1) (pe_ix ix_tup (pv 0) pe_int (fun _ _ => rfl)))))))
 (pss_one (ps_raise raises_cx rfl rfl XS.NoPiece.m XS.NoPiece.q PySem.F.excBase_ValueError (pa_cons pe_str pa_nil))) pss_nil)
 (pss_cons (ps_set (i := 2) sc_sides.nd rfl (Or.inl rfl) (pe_call G_turn (hr.mono (by decide)) rfl F_turn.m F_turn.F.kp F_turn.b .nil passes_cx (pa_cons (pv 0) (pa_cons (pe_lst (pa_cons (pe_op op_mul pe_int (pv 1)) pa_nil)) pa_nil))))
 (pss_cons (ps_if (pt_cmpR op_eq (pe_ix ix_tup (pv 2) pe_int (fun _ _ => rfl)) pe_str (nomark _))
 (pss_one (ps_ret (pe_tup (pa_cons pe_str (pa_cons (pe_ix ix_tup (pv 2) pe_int (fun _ _ => rfl)) pa_nil))))) pss_nil)
 (pss_one (ps_ret (pe_tup (pa_cons pe_str (pa_cons (pe_call G_marking_by (hr.mono (by decide)) rfl F_marking_by.m F_marking_by.F.kp F_marking_by.b .nil pass0 (pa_cons (pv 0) (pa_cons (pe_ix ix_tup (pv 2) pe_int (fun _ _ => rfl)) pa_nil))) pa_nil)))))))), ?_⟩
  refine ⟨_, rfl, _, _, rfl, rfl, _, rfl, ite2 (fun h0 => ?_) (fun h0 => ?_)⟩
  ·have h0 : n < 0 := by simpa using h0
   omega
  refine ⟨_, rfl, _, rfl, al, _, _, _, rfl, rfl, hlt, rfl, _, _, rfl, rfl, _, rfl, ite2 (fun h1 => ?_) (fun h1 => ?_)⟩
  ·have h1 : l.1 ≤ n := by simpa using h1
   omega
  refine ⟨_, rfl, _, rfl, _, _, rfl, rfl, .inl ⟨by decide, by decide⟩, by show 1 ≤ sizeLine; decide, fun t nt => ?_⟩
  have s1 := same_upd (o := .lst [V.int (2 * n)]) nt
  have ht := upd_same (H := H) (a := t) (o := .lst [V.int (2 * n)])
  generalize upd H t _ = H1 at s1 ht ⊢
  refine ⟨_, _, l, 2 * n, rfl, Da.same s1 hv, da_new (ns := [2 * n]) ht, U, by omega, by omega, fun hR i r q1 run q2 us H2 hi s2 R nq1 PT RN hne hr2 nr2 => ?_, fun hR i r q bs H2 hi F2 hr2 nr2 => ?_⟩
  ·refine ⟨_, rfl, r, _, _, _, rfl, rfl, SqT.of hr2, rfl, rfl, _, rfl, ite2 (fun _ => ?_) (fun h => absurd (by simp) h)⟩
   refine ⟨_, rfl, r, _, _, _, rfl, rfl, SqT.of hr2, rfl, by show 2 ≤ sizeLine; decide, fun r3 nr3 => ?_⟩
   exact k.yes hR i r3 q1 run _ hi ((s1.trans s2).trans (same_upd nr3)) (Same.free (s1.trans s2) nr3) upd_same (Same.free s1 nq1) (R.same (same_upd nr3)) PT
  ·have s2 := F2.same
   refine ⟨_, rfl, r, _, _, _, rfl, rfl, SqT.of hr2, rfl, rfl, _, rfl, ite2 (fun h => absurd h (by decide)) (fun _ => ?_)⟩
   have hw : ∀ e ∈ webS l [2 * n] i, ∃ x, e.1 = [x] ∧ Rc l (2 * n) x := web_one U i
   have es_at : ∀ (j : Nat) t, ((webS l [2 * n] i).map (·.1))[j]? = some t → ∃ x, t = [x] ∧ Rc l (2 * n) x := fun j t hj => by
    obtain ⟨e, he, rfl⟩ := List.mem_map.mp (List.mem_of_getElem? hj)
    exact hw e he
   refine ⟨_, rfl, _, rfl, r, _, _, _, rfl, rfl, SqT.of hr2, rfl, _, q, l, bs, ((webS l [2 * n] i).map (·.1)).map (fun t => t.headD 0), rfl, Da.same (s1.trans s2) hv, U.ok, F2.at_, by rw [List.length_map]; exact F2.len, fun j b e hb he => ?_, fun e he => ?_, fun q3 ms H3 s3 nq3 hq3 M3 => ⟨by show 2 ≤ sizeLine; decide, fun r4 nr4 => ?_⟩⟩
   ·rw [List.getElem?_map] at he
    cases hj : ((webS l [2 * n] i).map (·.1))[j]? with
    | none => rw [hj] at he; cases he
    | some t =>
     rw [hj] at he
     obtain ⟨x, rfl, _⟩ := es_at j t hj
     cases he
     exact (F2.each j b [x] hb hj).2.2
   ·obtain ⟨t, ht2, rfl⟩ := List.mem_map.mp he
    obtain ⟨j, hj⟩ := List.mem_iff_getElem?.mp ht2
    obtain ⟨x, rfl, rx⟩ := es_at j t hj
    refine ⟨rx.ends U.ok ⟨by omega, by omega⟩, fun z => ?_⟩
    obtain ⟨t', ht', e'⟩ := List.mem_map.mp z
    obtain ⟨j', hj'⟩ := List.mem_iff_getElem?.mp ht'
    obtain ⟨x', rfl, rx'⟩ := es_at j' t' hj'
    have e' : x' = oth x := e'
    rw [e'] at rx'
    exact hR (rx.both U.ok rx')
   ·have s4 := (s1.trans s2).trans (s3.trans (same_upd (o := .tup [.str "marking", .ref q3]) nr4))
    refine k.no hR r4 q3 ms _ s4 (Same.free ((s1.trans s2).trans s3) nr4) upd_same (Same.free (s1.trans s2) nq3) ((same_upd nr4) _ _ hq3) ?_
    have hin : ∀ x, x ∈ ((webS l [2 * n] i).map (·.1)).map (fun t => t.headD 0) ↔ Rc l (2 * n) x := fun x => by
     rw [← web_rc U ⟨by omega, by omega⟩ hi x]
     constructor
     ·intro z
      obtain ⟨t, ht2, e⟩ := List.mem_map.mp z
      obtain ⟨j, hj⟩ := List.mem_iff_getElem?.mp ht2
      obtain ⟨y, rfl, _⟩ := es_at j t hj
      have e : y = x := e
      rw [← e]; exact ht2
     ·intro z
      exact List.mem_map.mpr ⟨[x], z, rfl⟩
    exact ⟨M3.len, fun x x0 x1 r => (M3.val x x0 x1).1 ((hin x).mpr r), fun x x0 x1 r => (M3.val x x0 x1).2.1 ((hin _).mpr r), fun x x0 x1 h1 h2 => (M3.val x x0 x1).2.2 (fun z => h1 ((hin x).mp z)) (fun z => h2 ((hin _).mp z))⟩
end
end K34
namespace K34
open PySem L2 TL PyProof.Rows
def sp_parts (K : PySem.W.Frag) : Sp := fun vs H Q _ => ∃ (v : V) (u : Addr) (l : Ln) (ns : List Int) (k : Nat), vs = [v, .ref u, .int k] ∧ Da K H (dL l) v ∧ SqL K H u (ns.map V.int) ∧ LineOk l ∧ ns ≠ [] ∧ ns.length ≤ 6 ∧ TrOk l ns ∧ Gd l ns k (ns.reverse.map oth) ∧ ∀ H', Same H H' → Q (.bl true) H'
theorem cut_win {f p : Nat} {ns : List Int} (h : f + p ≤ ns.length) : cutV (ns.map V.int) (some (f : Int)) (some ((f : Int) + p)) = (win f p ns).map V.int := by
 have e1 : HT.sIx (ns.map V.int).length 0 (some (f : Int)) = f := by
  have h := HT.clip_eq f (ns.map V.int).length 0
  rw [if_neg (by omega)] at h
  rw [List.length_map] at h ⊢
  omega
 have e2 : HT.sIx (ns.map V.int).length (ns.map V.int).length (some ((f : Int) + p)) = f + p := by
  have h := HT.clip_eq ((f : Int) + p) (ns.map V.int).length (ns.map V.int).length
  rw [if_neg (by omega)] at h
  rw [List.length_map] at h ⊢
  omega
 unfold cutV win
 rw [e1, e2, List.map_take, List.map_drop, Nat.add_sub_cancel_left]
abbrev s_law_parts_hold : Stmt := top 43
theorem sc_law_parts_hold : FnScope ["_law_line_here", "_law_train_here", "_law_many", "_law_first", "_law_last", "_law_part", "_law_found"] ["_law_line_here", "_law_train_here", "_law_many"] (defScope s_law_parts_hold) := ⟨rfl, rfl, rfl, by decide +kernel, rfl, by decide +kernel, by decide +kernel⟩
section
variable {P : Program} {w : World} {K : PySem.W.Frag} {mg : Str → Option Value} {base : Heap} {f : Addr} {fd : FuncData} {c2 c5 : Addr}
theorem ok_law_parts_hold {f1 f2 : Addr} {fd1 fd2 : FuncData} (F : Fn K mg "_law_parts_hold" s_law_parts_hold ["_law_line_here", "_law_train_here", "_law_many"] f fd) (B : Bm mg) (F_law_web : Fn K mg "_law_web" s_law_web ["_law_line_here", "_law_train_here"] f1 fd1) (G_law_web : FnOk P w K mg base CX0 3 f1 fd1 ["_law_line_here", "_law_train_here"] (sp_web K))
  (F_turn : Fn K mg "turn" s_turn ["line", "train"] f2 fd2) (G_turn : FnOk P w K mg base (CXr P w base) 6 f2 fd2 ["line", "train"] (sp_turnG K c2 c5)) : FnOk P w K mg base CX0 7 f fd ["_law_line_here", "_law_train_here", "_law_many"] (sp_parts K) := by
 refine F.F.ok sc_law_parts_hold (fun vs H Q E h => ?_) (fun cdv A outer s H vs Q E hr h => ?_)
 ·obtain ⟨v, u, l, ns, k, rfl, _⟩ := h; rfl
 ·obtain ⟨v, u, l, ns, k, rfl, hv, hu, ok, hne, h6, T, g, kk⟩ := h
  refine ⟨_, (pss_cons (ps_for PassesOwn.never rfl (pi_range1 rfl B.range (pa_cons (pe_callB call_len_seq rfl B.len boot_len (pa_cons (pv 1) pa_nil)) pa_nil)) (pg_name (i := 3) sc_law_parts_hold.nd rfl (Or.inl rfl))
 (pss_one (ps_for PassesOwn.never rfl (pi_range2 rfl B.range (pa_cons (pe_op op_add (pv 3) pe_int) (pa_cons (pe_op op_add (pe_callB call_len_seq rfl B.len boot_len (pa_cons (pv 1) pa_nil)) pe_int) pa_nil))) (pg_name (i := 4) sc_law_parts_hold.nd rfl (Or.inl rfl))
 (pss_cons (ps_set (i := 5) sc_law_parts_hold.nd rfl (Or.inl rfl) (pe_slice sl_list (pv 1) (po_some (pv 3)) (po_some (pv 4))))
 (pss_one (ps_if (pt_cmp (pc_le (pe_callB call_len_seq rfl B.len boot_len (pa_cons (pe_ix ix_tup (pe_call G_law_web (hr.mono (by decide)) rfl F_law_web.m F_law_web.F.kp F_law_web.b .nil pass0 (pa_cons (pv 0) (pa_cons (pv 5) pa_nil))) pe_int (fun _ _ => rfl)) pa_nil)) pe_int))
 (pss_cons (ps_set (i := 6) sc_law_parts_hold.nd rfl (Or.inl rfl) (pe_call G_turn (hr.mono (by decide)) rfl F_turn.m F_turn.F.kp F_turn.b .nil passes_no (pa_cons (pv 0) (pa_cons (pv 5) pa_nil))))
 (pss_one (ps_if (PW.pt (pw_or (pt_cmpR op_ne (pe_ix ix_tup (pv 6) pe_int (fun _ _ => rfl)) pe_str (nomark _)) (pw_or1 (pt_cmp (pc_gt (pe_callB call_len_seq rfl B.len boot_len (pa_cons (pe_ix ix_tup (pv 6) pe_int (fun _ _ => rfl)) pa_nil)) (pe_op op_sub (pe_op op_add (pv 2) (pe_callB call_len_seq rfl B.len boot_len (pa_cons (pv 1) pa_nil))) (pe_callB call_len_seq rfl B.len boot_len (pa_cons (pv 5) pa_nil))))))))
 (pss_one (ps_ret pe_bl)) pss_nil))) pss_nil))))))
 (pss_one (ps_ret pe_bl))), ?_⟩
  refine ⟨_, rfl, u, _, rfl, .inl hu, _, rfl, by omega, by rw [List.length_map]; omega,
   for_range (fun i σ H3 => ∃ (x3 x4 x5 x6 : Option V), σ = [some v, some (.ref u), some (.int k), x3, x4, x5, x6] ∧ Same H H3)
    ⟨none, none, none, none, rfl, Same.refl _⟩ ?_ ?_⟩
  ·rintro i σ H3 hi ⟨x3, x4, x5, x6, rfl, S3⟩
   rw [List.length_map] at hi
   have hi : i < ns.length := by simpa using hi
   rw [Int.zero_add]
   refine ⟨_, rfl, _, _, rfl, rfl, _, rfl, u, _, rfl, .inl (S3.seq hu), _, _, rfl, rfl, _, _, rfl, ⟨by omega, by omega, by rw [List.length_map]; omega, by rw [List.length_map]; omega⟩,
    for_range (fun j σ H4 => ∃ (x4 x5 x6 : Option V), σ = [some v, some (.ref u), some (.int k), some (.int i), x4, x5, x6] ∧ Same H H4)
     ⟨x4, x5, x6, rfl, S3⟩ ?_ ?_⟩
   ·rintro j σ H4 hj ⟨x4, x5, x6, rfl, S4⟩
    rw [List.length_map] at hj
    have hp : i + (j + 1) ≤ ns.length := by omega
    refine ⟨_, rfl, _, rfl, _, rfl, _, rfl, _, rfl, u, _, rfl, S4.seq hu, fun t nt => ?_⟩
    rw [show (i : Int) + 1 + (j : Int) = (i : Int) + ((j + 1 : Nat) : Int) by omega, cut_win hp]
    have wl := win_len hp
    have wne : win i (j + 1) ns ≠ [] := fun z => by rw [z] at wl; simp at wl
    have TW := T.win i (j + 1)
    obtain ⟨d, hd, gd⟩ := part_turned ok T hne g (f := i) (p := j + 1) (by omega) hp
    generalize win i (j + 1) ns = part at wl wne TW gd ⊢
    have s5 := same_upd (o := .lst (part.map V.int)) nt
    have ht5 := upd_same (H := H4) (a := t) (o := .lst (part.map V.int))
    generalize upd H4 t _ = H5 at s5 ht5 ⊢
    have S5 := S4.trans s5
    refine ⟨_, rfl, _, rfl, _, t, l, part, rfl, Da.same S5 hv, ht5, ok, wne, by omega, TW, fun n r p dd as H6 hn s6 hr6 OL _ => ?_⟩
    have S6 := S5.trans s6
    refine ⟨r, _, _, _, rfl, rfl, SqT.of hr6, rfl, p, _, rfl, .inl (SqL.of OL.at_), _, _, rfl, rfl, _, rfl, ite2 (fun h => ?_) (fun _ => ⟨_, _, _, rfl, S6⟩)⟩
    have h3 : n ≤ 300 := by
     have h : ((as.map V.ref).length : Int) ≤ 300 := by simpa using h
     rw [List.length_map, OL.len, hn] at h
     omega
    obtain ⟨n0, ln, nle⟩ := web_gd ok TW wne hn d _ gd
    have hin : part.reverse.map oth ∈ (webS l part n).map (·.1) := by
     have := List.mem_map_of_mem (f := (·.1)) (lookR_some ln)
     rwa [rowsE_fst] at this
    refine ⟨_, rfl, _, rfl, _, _, l, part, rfl, Da.same S6 hv, da_new (s6 _ _ ht5), ok, wne, by omega, TW, Few.least (gOk_turn ok TW wne) hn h3 ⟨fun n' hn' _ no => absurd hin (by rw [← web_two hn' hn]; exact no), fun n' hn' _ _ r7 q1 run q2 us H7 s7 R7 nq1 pt RN hne12 hr7 nr7 => ?_⟩⟩
    rw [web_two hn' hn] at pt
    have EI := webS_ok ok TW wne n
    have pl := path_len EI.nd (webS_back l part n) pt
    rw [ln] at pl
    have pl : n0 = (run.length : Int) := by simpa using pl
    obtain ⟨vr, hqr, Dr⟩ := R7.ex
    have vl : vr.length = run.length := by have := Dgs.length Dr; rw [List.length_map] at this; exact this
    refine ⟨_, rfl, r7, _, _, _, rfl, rfl, SqT.of hr7, rfl, rfl, _, rfl, ite2 (fun h => absurd h (by decide)) (fun _ => ?_)⟩
    refine ⟨_, rfl, r7, _, _, _, rfl, rfl, SqT.of hr7, rfl, q1, vr, rfl, .inl (SqL.of hqr), _, rfl, _, rfl, u, _, rfl, .inl ((S6.trans s7).seq hu), _, _, rfl, rfl, _, rfl, t, _, rfl, .inl (SqL.of ((s6.trans s7) _ _ ht5)), _, _, rfl, rfl, _, _, rfl, rfl, _, rfl, ite2 (fun h => ?_) (fun _ => ⟨_, _, _, rfl, S6.trans s7⟩)⟩
    have h : ((k : Int) + (ns.map V.int).length - (part.map V.int).length) < (vr.length : Int) := by simpa using h
    rw [List.length_map, List.length_map, vl] at h
    omega
   ·rintro σ H4 ⟨x4, x5, x6, rfl, S4⟩
    exact ⟨_, _, _, _, rfl, S4⟩
  ·rintro σ H3 ⟨x3, x4, x5, x6, rfl, S3⟩
   exact kk _ S3
end
end K34
namespace K34
open PySem L2 TL PyProof.Rows
theorem depth_I (ns : List Int) : (dI ns).depth ≤ 1 := by
 simp only [dI, PyData.depth]
 have := depthAll_map (f := PyData.int) (k := 0) (fun _ => by simp [PyData.depth]) ns
 omega
theorem depth_LI (ts : List (List Int)) : (dLI ts).depth ≤ 2 := by
 simp only [dLI, PyData.depth]
 have := depthAll_map depth_I ts
 omega
def dNone (ts : List (List Int)) : PyData := .tuple [.str "none", dLI ts]
theorem okD_none (ts : List (List Int)) : OkD (dNone ts) := by
 have h1 := okD_LI ts
 have hs : PyData.strOk (Str.ofString "none") = true := by decide +kernel
 refine ⟨?_, ?_⟩
 ·simp only [dNone, PyData.canLay0, PyData.canLayAll0, h1.1, hs, Bool.and_true]
 ·have d1 := depth_LI ts
  simp only [dNone, PyData.depth, PyData.depthAll]
  omega
theorem path_le {es : List Ent} (nd : (es.map (·.1)).Nodup) (bk : Backs es) {t : List Int} {run : List (Str × Int)} (h : PathTo es t run) : ∀ (j : Nat) e, es[j]? = some e → e.1 = t → run.length ≤ j := by
 induction h with
 | nil _ => exact fun j e _ _ => Nat.zero_le _
 | @snoc t' t k r hm _ ih =>
  intro j e he ee
  have := ent_one nd (List.mem_of_getElem? he) hm ee
  subst this
  obtain ⟨i, e1, hi, he1, e2⟩ := bk.back j t' t k he
  have := ih i e1 he1 e2
  rw [List.length_append, List.length_singleton]
  omega
def dRun (run : List (Str × Int)) (rows : Rows) : PyData := .tuple [.str "run", dR run, dRows rows]
theorem okD_run {run : List (Str × Int)} (rows : Rows) (h : ∀ k ∈ run, PyData.strOk k.1 = true) : OkD (dRun run rows) := by
 have h1 := okD_R h
 have h2 := okD_rows rows
 have hs : PyData.strOk (Str.ofString "run") = true := by decide +kernel
 refine ⟨?_, ?_⟩
 ·simp only [dRun, PyData.canLay0, PyData.canLayAll0, h1.1, h2.1, hs, Bool.and_true]
 ·have d1 : (dR run).depth ≤ 2 := by
   simp only [dR, PyData.depth]
   have := depthAll_map (f := dM) (k := 1) (fun m => by simp [dM, PyData.depth, PyData.depthAll]) run
   omega
  have d2 : (dRows rows).depth ≤ 4 := by
   simp only [dRows, PyData.depth]
   have := depthAll_map (f := dRow) (k := 3) (fun r => by
    simp only [dRow, PyData.depth, PyData.depthAll]
    have := depth_I r.1
    omega) rows
   omega
  simp only [dRun, PyData.depth, PyData.depthAll]
  omega
theorem at_pf {ms : List Int} {x : Int} (h0 : 0 ≤ x) (h1 : x < ms.length) : atI (ms.map V.int) x = some (V.int (pf ms x)) := by
 obtain ⟨z, z1, _, z2⟩ := at_int (ns := ms) (i := x) h0 h1
 rw [z2]
 unfold pf
 rw [List.getD_eq_getElem?_getD, z1]
 rfl
theorem way_wkl {l : Ln} {ns : List Int} {run : List (Str × Int)} {bs : List (List Int)} (W : Way l ns run bs) : ∀ j, j ≤ run.length → wkl l ns (run.take j) = some (bs.take (j + 1))
 | 0, _ => by
  have h := W.first
  rw [List.take_zero, List.take_add_one, List.take_zero, h]
  rfl
 | j + 1, hj => by
  have ih := way_wkl W j (by omega)
  have hr : run[j]? = some run[j] := List.getElem?_eq_getElem (by omega)
  have hl := W.len
  have h1 : bs[j]? = some (bs[j]'(by omega)) := List.getElem?_eq_getElem _
  have h2 : bs[j + 1]? = some (bs[j + 1]'(by omega)) := List.getElem?_eq_getElem _
  have hm := W.step j _ _ _ hr h1 h2
  have hf := fnd_mem hm
  have hlast : (bs.take (j + 1)).getLastD [] = bs[j]'(by omega) := by
   rw [List.getLastD_eq_getLast?, List.getLast?_eq_getElem?, List.length_take, Nat.min_eq_left (by omega), Nat.add_sub_cancel, List.getElem?_take_of_lt (by omega), h1]
   rfl
  rw [wkl_take hr, ih]
  show (fnd (mvs l ((bs.take (j + 1)).getLastD [])) run[j]).map _ = _
  rw [hlast, hf, List.take_add_one (i := j + 1), h2]
  rfl
structure Told (K : PySem.W.Frag) (W : List Ent) (gs : List Int) (H H' : Hp) (r : Addr) (kd : Str) (ps : List Addr) (d : PyData) : Prop where
 same : Same H H'
 nr : H r = none
 at_ : H' r = some (.tup (.str kd :: ps.map V.ref))
 new : ∀ q ∈ ps, H q = none ∧ ∃ xs, H' q = some (.lst xs) ∧ xs.length ≤ 5000
 le : ps.length ≤ 2
 da : ∀ p : Addr → Prop, (∀ a, p a → H a ≠ none ∧ ∃ ys, H' a = some (.lst ys)) → Da K (hidA p H') d (.ref r)
 ans : (kd = Str.ofString "none" ∧ gs ∉ W.map (·.1) ∧ d = dNone (W.map (·.1)) ∧ ps ≠ []) ∨ (kd = Str.ofString "run" ∧ gs ∈ W.map (·.1) ∧ ∃ q1 q2 run, ps = [q1, q2] ∧ PathTo W gs run ∧ (∀ k ∈ run, PyData.strOk k.1 = true) ∧ d = dRun run (rowsE W) ∧
  ∀ p : Addr → Prop, (∀ a, p a → H a ≠ none ∧ ∃ ys, H' a = some (.lst ys)) → RunAt K (hidA p H') q1 run)
theorem Told.okD {K : PySem.W.Frag} {W : List Ent} {gs : List Int} {H H' : Hp} {r : Addr} {kd : Str} {ps : List Addr} {d : PyData} (h : Told K W gs H H' r kd ps d) : OkD d := by
 rcases h.ans with ⟨_, _, e, _⟩ | ⟨_, _, _, _, run, _, _, h4, e, _⟩
 ·rw [e]; exact okD_none _
 ·rw [e]; exact okD_run _ h4
theorem Told.one {K : PySem.W.Frag} {W : List Ent} {gs : List Int} {H H' H1 H1' : Hp} {r r1 : Addr} {kd kd1 : Str} {ps ps1 : List Addr} {d d1 : PyData} (nd : (W.map (·.1)).Nodup) (h : Told K W gs H H' r kd ps d) (h1 : Told K W gs H1 H1' r1 kd1 ps1 d1) : d = d1 ∧ kd = kd1 := by
 rcases h.ans with ⟨a1, a2, e, _⟩ | ⟨a1, a2, _, _, run, _, pt, h4, e, _⟩ <;> rcases h1.ans with ⟨b1, b2, e1, _⟩ | ⟨b1, b2, _, _, run1, _, pt1, h41, e1, _⟩
 ·exact ⟨by rw [e, e1], by rw [a1, b1]⟩
 ·exact absurd b2 a2
 ·exact absurd a2 b2
 ·exact ⟨by rw [e, e1, path_one nd pt pt1], by rw [a1, b1]⟩
theorem Told.da0 {K : PySem.W.Frag} {W : List Ent} {gs : List Int} {H H' : Hp} {r : Addr} {kd : Str} {ps : List Addr} {d : PyData} (h : Told K W gs H H' r kd ps d) : Da K H' d (.ref r) := Da.same hidA_same (h.da (fun _ => False) fun a z => z.elim)
theorem few_told {K : PySem.W.Frag} {l : Ln} {ns gs : List Int} {H : Hp} {Q : VK} (ok : LineOk l) (T : TrOk l ns) (hne : ns ≠ []) {i : Nat} (hi : (webS l ns i).length = i) (h3 : i ≤ 300) (k : ∀ r kd ps d H', Told K (webS l ns i) gs H H' r kd ps d → Q (.ref r) H') : Few K l ns gs H Q := by
 refine ⟨fun i' hi' _ hn r q bs H' F hr nr => ?_, fun i' hi' _ hg r q1 run q2 us H' s R n1 PT RN hne12 hr nr => ?_⟩
 ·rw [web_two hi' hi] at hn F
  have tl : ((webS l ns i).map (·.1)).length ≤ 300 := by rw [List.length_map]; omega
  refine k r _ [q] _ H' ⟨F.same, nr, hr, fun q' hq => ?_, by simp, fun p hp => ?_, .inl ⟨rfl, hn, rfl, by simp⟩⟩
  ·have e : q' = q := by simpa using hq
   subst e
   exact ⟨F.new, _, F.at_, by rw [List.length_map, F.len]; omega⟩
  ·have nr' : ¬ p r := fun z => by obtain ⟨_, ys, hy⟩ := hp r z; rw [hr] at hy; cases hy
   have nn : ∀ a, H a = none → ¬ p a := fun a ha z => (hp a z).1 ha
   have F' : Fresh (fun _ => none) (hidA p H') q bs ((webS l ns i).map (·.1)) := ⟨fun b o hb => (by cases hb), rfl, by rw [hidA_ne (nn q F.new)]; exact F.at_, F.len, fun j b t hb ht => ⟨rfl, (F.each j b t hb ht).2.1, by rw [hidA_ne (nn b (F.each j b t hb ht).1)]; exact (F.each j b t hb ht).2.2⟩, F.nd⟩
   exact dg_tuple.mpr ⟨r, _, rfl, SqT.of (by rw [hidA_ne nr']; exact hr), Dgs.two (dg_str.mpr rfl) (F'.da (Same.refl _))⟩
 ·rw [web_two hi' hi] at hg PT RN
  obtain ⟨vr, hqr, Dr⟩ := R.ex
  have vl : vr.length = run.length := by have := Dgs.length Dr; rw [List.length_map] at this; exact this
  have EI := webS_ok ok T hne i
  have rle : run.length ≤ 300 := by
   obtain ⟨e, he, ee⟩ := List.mem_map.mp hg
   obtain ⟨j', hj', ej⟩ := List.mem_iff_getElem.mp he
   have := path_le EI.nd (webS_back l ns i) PT j' e (by rw [List.getElem?_eq_getElem hj', ej]) ee
   omega
  have ul : us.length = i := by have := RN.rows.len; rw [this, ← List.length_map (f := (·.1)), rowsE_fst, List.length_map, hi]
  have rat : ∀ p : Addr → Prop, (∀ a, p a → H a ≠ none ∧ ∃ ys, H' a = some (.lst ys)) → RunAt K (hidA p H') q1 run := fun p hp => by
   have nn : ∀ a, H a = none → ¬ p a := fun a ha z => (hp a z).1 ha
   refine ⟨⟨vr, by rw [hidA_ne (nn q1 n1)]; exact hqr, ?_⟩, R.ok⟩
   have h2 := das_M_hidA (p := p) (H := hid q1 H') (fun b hb => by
    obtain ⟨h1, ys, hy⟩ := hp b hb
    exact ⟨ys, by rw [hid_ne (fun z => h1 (by rw [z]; exact n1))]; exact hy⟩) Dr
   refine Das.same (fun b o hb => ?_) h2
   have hpb : ¬ p b := fun z => by rw [hidA_in z] at hb; cases hb
   rw [hidA_ne hpb] at hb
   have hbq : b ≠ q1 := fun z => by rw [z, hid_self] at hb; cases hb
   rw [hid_ne hbq] at hb ⊢
   rw [hidA_ne hpb]; exact hb
  refine k r _ [q1, q2] _ H' ⟨s, nr, hr, fun q' hq => ?_, by simp, fun p hp => ?_, .inr ⟨rfl, hg, q1, q2, run, rfl, PT, R.ok, rfl, rat⟩⟩
  ·rcases List.mem_cons.mp hq with e | e
   ·subst e
    exact ⟨n1, _, hqr, by omega⟩
   ·have e : q' = q2 := by simpa using e
    subst e
    exact ⟨RN.new, _, RN.at_, by omega⟩
  ·have nr' : ¬ p r := fun z => by obtain ⟨_, ys, hy⟩ := hp r z; rw [hr] at hy; cases hy
   have nn : ∀ a, H a = none → ¬ p a := fun a ha z => (hp a z).1 ha
   refine dg_tuple.mpr ⟨r, _, rfl, SqT.of (by rw [hidA_ne nr']; exact hr), dgs_cons.mpr ⟨_, _, rfl, dg_str.mpr rfl, Dgs.two (rat p hp).da ?_⟩⟩
   refine dg_list.mpr ⟨q2, us, rfl, SqL.of (by rw [hidA_ne (nn q2 RN.new)]; exact RN.at_), RN.pw.das fun rw v h => ?_⟩
   obtain ⟨ad, a', e, g1, g2, g3⟩ := h
   have g1 := hid_same _ _ g1
   have g2 := hid_same _ _ g2
   have nad : ¬ p ad := fun z => by obtain ⟨_, ys, hy⟩ := hp ad z; rw [g1] at hy; cases hy
   exact Row1.da rw v ⟨ad, a', e, by rw [hidA_ne nad]; exact g1, by rw [hidA_ne (nn a' g3)]; exact g2⟩
end K34
namespace K34
open PySem L2 TL PyProof.Rows
def sp_law (K : PySem.W.Frag) : Sp := fun vs H Q _ => ∃ (a : Addr) (ns : List Int), vs = [.ref a] ∧ SqL K H a (ns.map V.int) ∧ ∀ H', Q (.bl true) H'
abbrev s_law : Stmt := top 44
theorem sc_law : FnScope ["_law_script", "_law_line_here", "_law_train_here", "_law_order", "_law_found", "_law_kept", "_law_some", "_law_kind", "_law_marking", "_law_standing"] ["_law_script"] (defScope s_law) := ⟨rfl, rfl, rfl, by decide +kernel, rfl, by decide +kernel, by decide +kernel⟩
theorem cc_law_0 : CompOk (defScope s_law) ["_law_script", "_law_line_here", "_law_train_here", "_law_order", "_law_found", "_law_kept", "_law_some", "_law_kind", "_law_marking", "_law_standing"] { kind := .function, names := [(Str.ofString ".0", .local), (Str.ofString "_law_end", .local), (Str.ofString "_law_marking", .free), (Str.ofString "_law_train_here", .free)], isGenerator := false, isCoroutine := false, more := [] } ["_law_end", "_law_marking", "_law_train_here"] 1 [none, some 8, some 2] := ⟨rfl, by decide +kernel, by decide +kernel, by decide +kernel, rfl, by decide +kernel, rfl, by decide +kernel⟩
section
variable {P : Program} {w : World} {K : PySem.W.Frag} {mg : Str → Option Value} {base : Heap} {f : Addr} {fd : FuncData} {c2 c3 c5 : Addr}
set_option maxHeartbeats 16000000 in
theorem ok_law {f1 f2 f3 f4 f5 f6 f7 f8 f9 f10 f11 f12 : Addr} {fd1 fd2 fd3 fd4 fd5 fd6 fd7 fd8 fd9 fd10 fd11 fd12 : FuncData} (F : Fn K mg "law" s_law ["_law_script"] f fd) (B : Bm mg)
  (F_law_line : Fn K mg "_law_line" s_law_line ["_law_script"] f1 fd1) (G_law_line : FnOk P w K mg base CX0 3 f1 fd1 ["_law_script"] (sp_line K))
  (F_law_cell_at : Fn K mg "_law_cell_at" s_law_cell_at ["_law_script", "_law_k"] f2 fd2) (F_law_mix : Fn K mg "_law_mix" s_law_mix ["_law_cell", "_law_k"] f3 fd3)
  (F_law_train : Fn K mg "_law_train" s_law_train ["_law_line_here", "_law_cell", "_law_length"] f4 fd4) (G_law_train : FnOk P w K mg base CX0 2 f4 fd4 ["_law_line_here", "_law_cell", "_law_length"] (sp_train K))
  (F_law_web : Fn K mg "_law_web" s_law_web ["_law_line_here", "_law_train_here"] f5 fd5) (G_law_web : FnOk P w K mg base CX0 3 f5 fd5 ["_law_line_here", "_law_train_here"] (sp_web K))
  (F_turn : Fn K mg "turn" s_turn ["line", "train"] f6 fd6) (G_turn : FnOk P w K mg base (CXr P w base) 6 f6 fd6 ["line", "train"] (sp_turnG K c2 c5))
  (F_least : Fn K mg "least" s_least ["line", "train", "goal"] f7 fd7) (G_least : FnOk P w K mg base (CXr P w base) 5 f7 fd7 ["line", "train", "goal"] (sp_least K c2 c5))
  (F_turned : Fn K mg "turned" s_turned ["train"] f8 fd8) (G_turned : FnOk P w K mg base CX0 2 f8 fd8 ["train"] (sp_round K))
  (F_sides : Fn K mg "sides" s_sides ["line", "piece"] f9 fd9) (G_sides : FnOk P w K mg base (CXr P w base) 7 f9 fd9 ["line", "piece"] (sp_sides K))
  (F_law_round : Fn K mg "_law_round" s_law_round ["_law_train_here"] f10 fd10) (G_law_round : FnOk P w K mg base CX0 2 f10 fd10 ["_law_train_here"] (sp_round K))
  (F_walked : Fn K mg "walked" s_walked ["line", "train", "run"] f11 fd11) (G_walked : FnOk P w K mg base (CXr P w base) 5 f11 fd11 ["line", "train", "run"] (sp_walked K c3))
  (F_law_parts_hold : Fn K mg "_law_parts_hold" s_law_parts_hold ["_law_line_here", "_law_train_here", "_law_many"] f12 fd12) (G_law_parts_hold : FnOk P w K mg base CX0 7 f12 fd12 ["_law_line_here", "_law_train_here", "_law_many"] (sp_parts K)) :
  FnOk P w K mg base CX0 8 f fd ["_law_script"] (sp_law K) := by
 have G_law_mix : FnOk P w K mg base CX0 1 f3 fd3 ["_law_cell", "_law_k"] sp_mix := ok_law_mix F_law_mix B.toBl
 have G_law_cell_at : FnOk P w K mg base CX0 1 f2 fd2 ["_law_script", "_law_k"] (sp_cell K) := ok_law_cell_at F_law_cell_at B.toBl
 refine F.F.ok sc_law (fun vs H Q E h => ?_) (fun cdv A outer s H vs Q E hr h => ?_)
 ·obtain ⟨a, ns, rfl, _⟩ := h; rfl
 ·obtain ⟨a, ns, rfl, hS, k⟩ := h
  refine ⟨_, (pss_cons (ps_set (i := 1) sc_law.nd rfl (Or.inl rfl) (pe_call G_law_line (hr.mono (by decide)) rfl F_law_line.m F_law_line.F.kp F_law_line.b .nil pass0 (pa_cons (pv 0) pa_nil)))
 (pss_cons (ps_set (i := 2) sc_law.nd rfl (Or.inr rfl) (pe_call G_law_train (hr.mono (by decide)) rfl F_law_train.m F_law_train.F.kp F_law_train.b .nil pass0 (pa_cons (pv 1) (pa_cons (pe_call G_law_cell_at (hr.mono (by decide)) rfl F_law_cell_at.m F_law_cell_at.F.kp F_law_cell_at.b .nil pass0 (pa_cons (pv 0) (pa_cons pe_int pa_nil))) (pa_cons (pe_op op_add pe_int (pe_op op_mod (pe_call G_law_mix (hr.mono (by decide)) rfl F_law_mix.m F_law_mix.F.kp F_law_mix.b .nil pass0 (pa_cons (pe_call G_law_cell_at (hr.mono (by decide)) rfl F_law_cell_at.m F_law_cell_at.F.kp F_law_cell_at.b .nil pass0 (pa_cons (pv 0) (pa_cons pe_int pa_nil))) (pa_cons pe_int pa_nil))) pe_int)) pa_nil)))))
 (pss_cons (ps_set (i := 3) sc_law.nd rfl (Or.inl rfl) (pe_ix ix_tup (pe_call G_law_web (hr.mono (by decide)) rfl F_law_web.m F_law_web.F.kp F_law_web.b .nil pass0 (pa_cons (pv 1) (pa_cons (pv 2) pa_nil))) pe_int (fun _ _ => rfl)))
 (pss_cons (ps_if (pt_cmp (pc_gt (pe_callB call_len_seq rfl B.len boot_len (pa_cons (pv 3) pa_nil)) pe_int))
 (pss_one (ps_ret pe_bl)) pss_nil)
 (pss_cons (ps_set (i := 4) sc_law.nd rfl (Or.inl rfl) (pe_call G_turn (hr.mono (by decide)) rfl F_turn.m F_turn.F.kp F_turn.b .nil passes_no (pa_cons (pv 1) (pa_cons (pv 2) pa_nil))))
 (pss_cons (ps_if (pt_cmpR (op_neD hr.units) (pv 4) (pe_call G_least (hr.mono (by decide)) rfl F_least.m F_least.F.kp F_least.b .nil passes_no (pa_cons (pv 1) (pa_cons (pv 2) (pa_cons (pe_call G_turned (hr.mono (by decide)) rfl F_turned.m F_turned.F.kp F_turned.b .nil pass0 (pa_cons (pv 2) pa_nil)) pa_nil)))) (nomark _))
 (pss_one (ps_ret pe_bl)) pss_nil)
 (pss_cons (ps_set (i := 5) sc_law.nd rfl (Or.inl rfl) (pe_call G_least (hr.mono (by decide)) rfl F_least.m F_least.F.kp F_least.b .nil passes_no (pa_cons (pv 1) (pa_cons (pv 2) (pa_cons (pe_call G_turned (hr.mono (by decide)) rfl F_turned.m F_turned.F.kp F_turned.b .nil pass0 (pa_cons (pv 2) pa_nil)) pa_nil)))))
 (pss_cons (ps_for PassesOwn.never rfl (pi_tup (pe_slice sl_tup (pv 4) (po_some pe_int) po_none)) (pg_name (i := 6) sc_law.nd rfl (Or.inl rfl))
 (pss_one (ps_expr (pe_bm PySem.F.plainAttrs_list PySem.F.slot_list_append PySem.F.type_list_append mt_append (pv 6) (pa_cons pe_int pa_nil)))))
 (pss_cons (ps_if (pt_cmpR (op_neD hr.units) (pe_call G_turn (hr.mono (by decide)) rfl F_turn.m F_turn.F.kp F_turn.b .nil passes_no (pa_cons (pv 1) (pa_cons (pv 2) pa_nil))) (pv 5) (nomark _))
 (pss_one (ps_ret pe_bl)) pss_nil)
 (pss_cons (ps_set (i := 4) sc_law.nd rfl (Or.inl rfl) (pv 5))
 (pss_cons (ps_asg (pe_call G_sides (hr.mono (by decide)) rfl F_sides.m F_sides.F.kp F_sides.b .nil passes_no (pa_cons (pv 1) (pa_cons (pe_op op_fdiv (pe_ix ix_list (pv 2) pe_int (fun _ _ => rfl)) pe_int) pa_nil))) (pg_tup (n := 2) rfl (pgs_cons (pg_name (i := 7) sc_law.nd rfl (Or.inl rfl)) (pgs_cons (pg_name (i := 8) sc_law.nd rfl (Or.inr rfl)) pgs_nil))))
 (pss_cons (ps_if (pt_cmpR op_eq (pv 7) pe_str (nomark _))
 (pss_cons (ps_for PassesOwn.never rfl (pi_list (pv 3)) (pg_name (i := 9) sc_law.nd rfl (Or.inl rfl))
 (pss_one (ps_if (pt_cmpR (op_neD hr.units) (pe_lc (pi_list (pv 9)) rfl cc_law_0 (.name (by decide)) (fun _ _ _ _ => (pg_name (i := 0) cc_law_0.nd rfl (Or.inl rfl))) (fun _ _ _ _ => (pifs_one (pt_cmp (pc_neI (pe_ix (ix_listk (K := K) rfl) (pv 1) (pv 0) (fun _ _ => rfl)) (pe_ix (ix_listk (K := K) rfl) (pv 1) (pe_ix (ix_listk (K := K) rfl) (pv 2) pe_int (fun _ _ => rfl)) (fun _ _ => rfl)))))) (fun _ _ _ _ => (pv 0))) (pe_lst pa_nil) (nomark _))
 (pss_one (ps_ret pe_bl)) pss_nil)))
 (pss_one (ps_ret (pe_cmpR op_eq (pe_ix ix_tup (pv 4) pe_int (fun _ _ => rfl)) pe_str (nomark _))))) pss_nil)
 (pss_cons (ps_if (pt_cmpR op_eq (pe_ix ix_tup (pv 4) pe_int (fun _ _ => rfl)) pe_str (nomark _))
 (pss_one (ps_ret (pe_cmpR (op_notInD hr.units) (pe_call G_law_round (hr.mono (by decide)) rfl F_law_round.m F_law_round.F.kp F_law_round.b .nil pass0 (pa_cons (pv 2) pa_nil)) (pv 3) (by with_unfolding_all rfl)))) pss_nil)
 (pss_cons (ps_if (pt_cmpR (op_neD hr.units) (pe_ix ix_list (pe_call G_walked (hr.mono (by decide)) rfl F_walked.m F_walked.F.kp F_walked.b .nil passes_no (pa_cons (pv 1) (pa_cons (pv 2) (pa_cons (pe_ix ix_tup (pv 4) pe_int (fun _ _ => rfl)) pa_nil)))) (pe_un un_neg pe_int) (fun _ _ => rfl)) (pe_call G_law_round (hr.mono (by decide)) rfl F_law_round.m F_law_round.F.kp F_law_round.b .nil pass0 (pa_cons (pv 2) pa_nil)) (nomark _))
 (pss_one (ps_ret pe_bl)) pss_nil)
 (pss_one (ps_ret (pe_call G_law_parts_hold (hr.mono (by decide)) rfl F_law_parts_hold.m F_law_parts_hold.F.kp F_law_parts_hold.b .nil pass0 (pa_cons (pv 1) (pa_cons (pv 2) (pa_cons (pe_callB call_len_seq rfl B.len boot_len (pa_cons (pe_ix ix_tup (pv 4) pe_int (fun _ _ => rfl)) pa_nil)) pa_nil)))))))))))))))))))), ?_⟩
  refine ⟨_, rfl, a, ns, rfl, hS, fun v l H1 s1 hv GL => ?_⟩
  have U : UJ l := GL.uj
  have ok := U.ok
  refine ⟨_, rfl, _, rfl, a, ns, 10, rfl, s1.seq hS, by decide, fun c10 => ⟨_, rfl, a, ns, 11, rfl, s1.seq hS, by decide, fun c11 => ⟨c11, 0, rfl, by decide, by decide, fun n0 h00 h01 => ?_⟩⟩⟩
  refine ⟨_, _, rfl, rfl, (by show (0 : Int) < 5; decide), _, _, rfl, rfl, ?_⟩
  refine ⟨_, l, c10, _, rfl, hv, ok, by show 0 ≤ 2 + n0 % 5; omega, by show 2 + n0 % 5 ≤ 40; omega, fun p tr H4 s4 hp hp2 hne tl tn T => ?_⟩
  have tl6 : tr.length ≤ 6 := by
   have : (tr.length : Int) ≤ max 1 (2 + n0 % 5) := tn
   omega
  refine ⟨_, rfl, _, rfl, _, p, l, tr, rfl, Da.same s4 hv, hp2, ok, hne, tl6, T, fun i tt pd dd as H5 hi s5 htt O5 _ => ?_⟩
  refine ⟨tt, _, _, _, rfl, rfl, SqT.of htt, rfl, ?_⟩
  have EI := webS_ok ok T hne i
  have gOk := gOk_turn ok T hne
  have hp5 := s5 _ _ hp2
  have hv5 := Da.same (s4.trans s5) hv
  refine ⟨_, rfl, pd, _, rfl, .inl (SqL.of O5.at_), _, _, rfl, rfl, _, rfl, ite2 (fun _ => k _) (fun h => ?_)⟩
  have h3 : i ≤ 300 := by
   have h : ¬ (300 < ((as.map V.ref).length : Int)) := by simpa using h
   rw [List.length_map, O5.len, hi] at h
   omega
  clear h hv s4 hp2 s1 hS
  refine ⟨_, rfl, _, rfl, _, _, l, tr, rfl, hv5, da_new hp5, ok, hne, by omega, T, Few.least gOk hi h3 (few_told ok T hne hi h3 fun r6 kd6 ps6 d6 H6 T6 => ?_)⟩
  have S6 := T6.same
  refine ⟨_, rfl, _, rfl, _, rfl, _, rfl, _, tr, rfl, da_new (S6 _ _ hp5), by omega, fun g7 H7 s7 ng7 hg7 => ?_⟩
  have S7 := S6.trans s7
  refine ⟨_, _, _, l, tr, _, rfl, Da.same S7 hv5, da_new (S7 _ _ hp5), da_new hg7, ok, hne, by omega, T, by rw [List.length_map, List.length_reverse]; omega, Few.least gOk hi h3 (few_told ok T hne hi h3 fun r8 kd8 ps8 d8 H8 T8 => ?_)⟩
  obtain ⟨e68, _⟩ := T6.one EI.nd T8
  have S8 := S7.trans T8.same
  refine ⟨d6, d8, Da.same (s7.trans T8.same) T6.da0, T8.da0, T6.okD, T8.okD, _, rfl, ite2 (fun h => absurd h (by rw [e68, eqv_same T8.okD]; decide)) (fun _ => ?_)⟩
  have hr6 := (s7.trans T8.same) _ _ T6.at_
  have hn6 : ∀ q ∈ ps6, H5 q = none ∧ ∃ xs, H8 q = some (.lst xs) ∧ xs.length ≤ 5000 := fun q hq => by
   obtain ⟨h1, xs, h2, h4⟩ := T6.new q hq
   exact ⟨h1, xs, (s7.trans T8.same) _ _ h2, h4⟩
  have ok6 := T6.okD
  clear T8 e68 S7 s7 ng7 hg7
  refine ⟨_, rfl, _, rfl, _, rfl, _, tr, rfl, da_new (S8 _ _ hp5), by omega, fun g9 H9 s9 ng9 hg9 => ?_⟩
  have S9 := S8.trans s9
  refine ⟨_, _, _, l, tr, _, rfl, Da.same S9 hv5, da_new (S9 _ _ hp5), da_new hg9, ok, hne, by omega, T, by rw [List.length_map, List.length_reverse]; omega, Few.least gOk hi h3 (few_told ok T hne hi h3 fun r kd ps d H10 TT => ?_)⟩
  have s10 := s9.trans TT.same
  have S10 := S8.trans s10
  have old : ∀ q, q ∈ ps6 → H9 q ≠ none ∧ ∃ ys, H10 q = some (.lst ys) := fun q hq => by
   obtain ⟨_, xs, h2, _⟩ := hn6 q hq
   exact ⟨by rw [s9 _ _ h2]; exact fun z => (by cases z), xs, s10 _ _ h2⟩
  have da := TT.da (· ∈ ps6) old
  have ne6 : ps6 ≠ [] := by
   rcases T6.ans with ⟨_, _, _, z⟩ | ⟨_, _, _, _, _, z, _⟩
   ·exact z
   ·rw [z]; simp
  have le6 := T6.le
  refine ⟨_, rfl, _, rfl, r6, _, rfl, SqT.of (s10 _ _ hr6), fun z => ?_, fun t nt => ?_⟩
  ·have e : HT.sIx (V.str kd6 :: ps6.map V.ref).length 0 (some 1) = 1 := by
    have := HT.sIx_nat (V.str kd6 :: ps6.map V.ref).length 0 1
    have hl : (V.str kd6 :: ps6.map V.ref).length = ps6.length + 1 := by simp
    rw [hl] at this ⊢
    have e2 : HT.sIx (ps6.length + 1) 0 (some 1) = min 1 (ps6.length + 1) := this
    rw [e2]; omega
   omega
  have ec : cutV (V.str kd6 :: ps6.map V.ref) (some 1) none = ps6.map V.ref := by rw [cut_drop _ (by decide)]; rfl
  rw [ec]
  have s11 := same_upd (o := .tup (ps6.map V.ref)) nt
  have ht11 := upd_same (H := H10) (a := t) (o := .tup (ps6.map V.ref))
  generalize upd H10 t _ = H11 at s11 ht11 ⊢
  have S11 := S10.trans s11
  refine ⟨t, rfl, ⟨_, SqT.of ht11⟩, for_tup (K := K) (a := t) (xs := ps6.map V.ref) (fun j σ G => ∃ x6 : Option V, σ = [some (.ref a), some v, some (.ref p), some (.ref pd), some (.ref r6), some (.ref r), x6, none, none, none] ∧ Same H5 G ∧ Same (hidA (· ∈ ps6) H10) G ∧ G t = some (.tup (ps6.map V.ref)) ∧ ∀ q ∈ ps6, ∃ xs, G q = some (.lst xs) ∧ xs.length ≤ 5000 + j)
   ⟨none, rfl, S11, hidA_same.trans s11, ht11, fun q hq => ?_⟩ (fun j σ G _ ⟨_, _, _, _, h, _⟩ => SqT.of h) ?_ ?_⟩
  ·obtain ⟨_, xs, h2, h4⟩ := hn6 q hq
   exact ⟨xs, (s10.trans s11) _ _ h2, by omega⟩
  ·rintro j y σ G hj ⟨x6, rfl, A1, A2, A3, A4⟩
   obtain ⟨q, hq, rfl⟩ : ∃ q, ps6[j]? = some q ∧ V.ref q = y := by
    rw [List.getElem?_map] at hj
    cases hq : ps6[j]? with
    | none => rw [hq] at hj; cases hj
    | some q => rw [hq] at hj; exact ⟨q, rfl, by simpa using hj⟩
   have hqm := List.mem_of_getElem? hq
   have hjl := (List.getElem?_eq_some_iff.mp hq).1
   obtain ⟨xs, hx, hxl⟩ := A4 q hqm
   refine ⟨_, rfl, .inl ⟨rfl, _, SqL.of hx⟩, q, _, _, rfl, rfl, hx, big_l (by omega), ?_⟩
   have tq : t ≠ q := fun z => by rw [z, hx] at A3; cases A3
   refine ⟨_, rfl, Same.upd A1 (hn6 q hqm).1, hidA_updS hqm A2, by rw [upd_ne tq]; exact A3, fun q' hq' => ?_⟩
   by_cases e : q' = q
   ·subst e
    exact ⟨_, upd_same, by rw [List.length_append, List.length_singleton]; omega⟩
   ·obtain ⟨ys, hy, hyl⟩ := A4 q' hq'
    exact ⟨ys, by rw [upd_ne e]; exact hy, by omega⟩
  rintro σ H12 ⟨x6, rfl, A1, A2, _, _⟩
  clear ht11 s11 S11 nt ec
  refine ⟨_, rfl, _, rfl, _, _, l, tr, rfl, Da.same A1 hv5, da_new (A1 _ _ hp5), ok, hne, by omega, T, Few.least gOk hi h3 (few_told ok T hne hi h3 fun r13 kd13 ps13 d13 H13 T13 => ?_)⟩
  obtain ⟨e13, _⟩ := T13.one EI.nd TT
  have A3 := A2.trans T13.same
  refine ⟨_, rfl, d13, d, T13.da0, Da.same A3 da, T13.okD, TT.okD, _, rfl, ite2 (fun h => absurd h (by rw [e13, eqv_same TT.okD]; decide)) (fun _ => ?_)⟩
  have S13 := A1.trans T13.same
  have hr13 : H13 r = some (.tup (.str kd :: ps.map V.ref)) := A3 _ _ (by
   rw [hidA_ne (fun z => by obtain ⟨_, ys, hy⟩ := old r z; rw [TT.at_] at hy; cases hy)]
   exact TT.at_)
  have run13 : kd = Str.ofString "run" → ∃ q1 q2 run, ps = [q1, q2] ∧ PathTo (webS l tr i) (tr.reverse.map oth) run ∧ (∀ k ∈ run, PyData.strOk k.1 = true) ∧ RunAt K H13 q1 run := fun e => by
   rcases TT.ans with ⟨z, _⟩ | ⟨_, _, q1, q2, run, h1, h2, h4, _, h5⟩
   ·rw [z] at e; exact absurd e (by decide)
   ·exact ⟨q1, q2, run, h1, h2, h4, (h5 _ old).same A3⟩
  have kinds : (kd = Str.ofString "none" ∧ tr.reverse.map oth ∉ (webS l tr i).map (·.1)) ∨ (kd = Str.ofString "run" ∧ tr.reverse.map oth ∈ (webS l tr i).map (·.1)) := TT.ans.imp (fun z => ⟨z.1, z.2.1⟩) (fun z => ⟨z.1, z.2.1⟩)
  have O13 := O5.same S13
  have hp13 := S13 _ _ hp5
  have hv13 := Da.same S13 hv5
  clear A1 A2 A3 T13 da old TT T6 hn6 s10 S10 S8 S9 s9 e13 ok6
  obtain ⟨x0, rest0, etr⟩ : ∃ x r, tr = x :: r := by
   cases tr with
   | nil => exact absurd rfl hne
   | cons x r => exact ⟨x, r, rfl⟩
  have gx0 : atI (tr.map V.int) 0 = some (V.int x0) := atI_nat (j := 0) (by rw [etr]; rfl)
  have hx0 : 0 ≤ x0 ∧ x0 < 2 * l.1 := T.ends x0 (by rw [etr]; exact List.mem_cons_self)
  have hhd : tr.headD 0 = x0 := by rw [etr]; rfl
  clear etr
  refine ⟨_, rfl, ?_⟩
  have hat0 : atI (V.str kd :: ps.map V.ref) 0 = some (V.str kd) := atI_nat (j := 0) rfl
  refine ⟨_, rfl, _, rfl, p, _, _, _, rfl, rfl, SqL.of hp13, gx0, _, _, rfl, rfl, ⟨by decide, by decide⟩, _, l, x0 / 2, rfl, hv13, U, by omega, by omega, fun hR j rs q run H14 hj s14 nrs hrs _ _ _ => ?_, fun hR rs q ms H14 s14 nrs hrs nq hq M => ?_⟩
  ·refine ⟨rs, _, rfl, SqT.of hrs, rfl, _, _, rfl, _, _, rfl, rfl, ?_⟩
   refine ⟨_, rfl, rfl, _, rfl, ite2 (fun h => absurd h (by decide)) (fun _ => ?_)⟩
   refine ⟨_, rfl, r, _, _, _, rfl, rfl, SqT.of (s14 _ _ hr13), hat0, rfl, _, rfl, ?_⟩
   rcases kinds with ⟨e, no⟩ | ⟨e, yes⟩
   ·rw [e]
    refine ite2 (fun _ => ?_) (fun h => absurd (by decide) h)
    refine ⟨_, rfl, _, tr, rfl, da_new (s14 _ _ hp13), by omega, fun g H15 s15 ng hg => ?_⟩
    refine ⟨_, rfl, _, _, (O13.same (s14.trans s15)).da, da_new hg, okDs_LI _, okD_ints _, ?_⟩
    rw [any_LI, decide_eq_false no]
    exact k _
   ·rw [e]
    refine ite2 (fun h => absurd h (by decide)) (fun _ => ?_)
    obtain ⟨q1, q2, run, eps, pt, sok, R13⟩ := run13 e
    rw [eps] at hr13
    have hr14 := s14 _ _ hr13
    have rle : run.length ≤ 300 := by
     obtain ⟨e, he, ee⟩ := List.mem_map.mp yes
     obtain ⟨j', hj', ej⟩ := List.mem_iff_getElem.mp he
     have := path_le EI.nd (webS_back l tr i) pt j' e (by rw [List.getElem?_eq_getElem hj', ej]) ee
     omega
    obtain ⟨bs, W, wl⟩ := path_way (webS_moves l tr i) pt
    have hwk := way_wkl W run.length (Nat.le_refl _)
    rw [List.take_length, List.take_of_length_le (by rw [W.len]; omega)] at hwk
    obtain ⟨bg, hbg, gd⟩ := W.gd run.length (Nat.le_refl _)
    rw [wl] at hbg
    cases hbg
    refine ⟨_, rfl, _, rfl, _, rfl, r, _, _, _, rfl, rfl, SqT.of hr14, rfl, _, _, _, l, tr, run, rfl, Da.same s14 hv13, da_new (s14 _ _ hp13), (R13.same s14).da, sok, ok, hne, by omega, by omega, fun ts hw wo pw bw H15 F15 => ?_, fun z => absurd z (by rw [hwk]; simp)⟩
    rw [hwk] at hw
    cases hw
    have tne : bs ≠ [] := fun z => by have := W.len; rw [z] at this; simp at this
    obtain ⟨bl, g1, g2, g3⟩ := last_ref F15.len tne
    have g4 : bs[bw.length - 1]? = some (tr.reverse.map oth) := by rw [F15.len, W.len, Nat.add_sub_cancel]; exact wl
    have hbl := (F15.each _ _ _ g1 g4).2.2
    have s15 := F15.same
    refine ⟨_, rfl, pw, _, _, _, rfl, rfl, SqL.of F15.at_, g3, _, rfl, _, tr, rfl, da_new (s15 _ _ (s14 _ _ hp13)), by omega, fun g H16 s16 ng hg => ?_⟩
    refine ⟨dI _, dI _, da_new (s16 _ _ hbl), da_new hg, okD_ints _, okD_ints _, _, rfl, ite2 (fun h => absurd h (by rw [eqv_same (okD_ints _)]; decide)) (fun _ => ?_)⟩
    have s36 := s14.trans (s15.trans s16)
    obtain ⟨vr, hqr, Dr⟩ := (R13.same s36).ex
    have vl : vr.length = run.length := by have := Dgs.length Dr; rw [List.length_map] at this; exact this
    rw [← vl] at gd
    exact ⟨_, rfl, _, rfl, _, rfl, r, _, _, _, rfl, rfl, SqT.of (s36 _ _ hr13), rfl, q1, vr, rfl, .inl (SqL.of hqr), _, p, l, tr, vr.length, rfl, Da.same s36 hv13, SqL.of (s36 _ _ hp13), ok, hne, tl6, T, gd, fun H' _ => k _⟩
  ·refine ⟨rs, _, rfl, SqT.of hrs, rfl, _, _, rfl, _, _, rfl, rfl, ?_⟩
   refine ⟨_, rfl, rfl, _, rfl, ite2 (fun _ => ?_) (fun h => absurd (by decide) h)⟩
   have cl := web_cl T hhd hne (cl_first (l := l) x0) i
   have mlen := M.len
   refine ⟨_, rfl, pd, rfl, ⟨_, SqL.of (O13.same s14).at_⟩, for_list (K := K) (a := pd) (xs := as.map V.ref) (fun j σ G => ∃ x9 : Option V, σ = [some (.ref a), some v, some (.ref p), some (.ref pd), some (.ref r), some (.ref r), x6, some (.str "marking"), some (.ref q), x9] ∧ Same H14 G)
    ⟨none, rfl, Same.refl _⟩ (fun j σ G _ ⟨_, _, h⟩ => SqL.of (O13.same (s14.trans h)).at_) ?_ ?_⟩
   ·rintro j y σ G hj ⟨x9, rfl, sG⟩
    have hjl : j < (webS l tr i).length := by
     have := (List.getElem?_eq_some_iff.mp hj).1
     rwa [List.length_map, O13.len] at this
    have hej : (webS l tr i)[j]? = some (webS l tr i)[j] := List.getElem?_eq_getElem hjl
    obtain ⟨b, hb, _, hb13⟩ := O13.get hej
    have ey : y = V.ref b := by rw [List.getElem?_map, hb] at hj; simpa using hj.symm
    subst ey
    have hem := List.mem_of_getElem? hej
    have cle := cl _ hem
    have enl : ((webS l tr i)[j]).1.length ≤ 6 := by rw [(EI.tr _ hem).2.1]; exact tl6
    have eends := (EI.tr _ hem).1.ends
    generalize ((webS l tr i)[j]).1 = es at hb13 cle enl eends
    have hbG := sG _ _ (s14 _ _ hb13)
    refine ⟨_, rfl, b, rfl, ⟨_, SqL.of hbG⟩, fun z nz => lc_pureJ (js_list (SqL.of hbG)) es (fun x => decide (pf ms x ≠ pf ms x0)) V.int nz (by rw [List.length_map]) (big_l (by rw [List.length_map]; omega)) ?_ ?_⟩
    ·intro n x d' G' hx hd' sG' P1 P0 p1 p0
     have ex : x = V.int d' := by rw [List.getElem?_map, hd'] at hx; simpa using hx.symm
     subst ex
     have hdm := List.mem_of_getElem? hd'
     have hde := eends _ hdm
     have hqG : SqL K G' q (ms.map V.int) := SqL.of ((sG.trans sG') _ _ hq)
     have hpG : SqL K G' p (tr.map V.int) := SqL.of ((s14.trans (sG.trans sG')) _ _ hp13)
     refine ⟨_, rfl, _, rfl, q, _, _, _, rfl, rfl, hqG, at_pf hde.1 (by omega), _, rfl, _, rfl, p, _, _, _, rfl, rfl, hpG, gx0, q, _, _, _, rfl, rfl, hqG, at_pf hx0.1 (by omega), _, _, rfl, rfl, _, rfl, ite2 (fun h => ⟨_, rfl, p1 (by simpa using h)⟩) (fun h => p0 (by simpa using h))⟩
    have ef : (es.filter fun x => decide (pf ms x ≠ pf ms x0)) = [] := by
     rw [List.filter_eq_nil_iff]
     intro x hx y
     exact (by simpa using y : ¬ pf ms x = pf ms x0) (M.cl (eends x hx) hx0 (cle x hx))
    rw [ef]
    refine ⟨by show 0 ≤ sizeLine; decide, fun pz npz => ?_⟩
    have s5 := same_upd (o := .lst []) nz
    have s6 := same_upd (o := .lst []) npz
    refine ⟨.list [], .list [], dg_list.mpr ⟨z, [], rfl, SqL.of (s6 _ _ upd_same), dgs_nil.mpr rfl⟩, dg_list.mpr ⟨pz, [], rfl, SqL.of upd_same, dgs_nil.mpr rfl⟩, okD_nil, okD_nil, _, rfl, ite2 (fun h => absurd h (by rw [eqv_same okD_nil]; decide)) (fun _ => ⟨_, rfl, sG.trans (s5.trans s6)⟩)⟩
   rintro σ H15 ⟨x9, rfl, s15⟩
   have kn : kd = Str.ofString "none" := by
    rcases kinds with ⟨e, _⟩ | ⟨_, yes⟩
    ·exact e
    ·exfalso
     obtain ⟨e, he, ee⟩ := List.mem_map.mp yes
     have c1 := cl e he (oth x0) (by
      have ee : e.1 = tr.reverse.map oth := ee
      rw [ee]
      refine List.mem_map_of_mem (List.mem_reverse.mpr ?_)
      rw [← hhd]
      cases tr with
      | nil => exact absurd rfl hne
      | cons x r => exact List.mem_cons_self)
     exact M.two hx0 hx0 (cl_first x0) c1
   refine ⟨_, rfl, r, _, _, _, rfl, rfl, SqT.of (s15 _ _ (s14 _ _ hr13)), hat0, rfl, ?_⟩
   rw [kn]
   exact k _
end
end K34
namespace K34
open PySem L2 TL PyProof.Rows
theorem fn_mk {K : PySem.W.Frag} {h : Heap} {mg : Str → Option Value} {x : Str} {st : Stmt} {ps : List Str} {f : Addr} {oc : Value} {od an : Option Addr} {osl : Array (Option Value)} {kV doc pm cdv ct : Value} (X : K.In h) (G : h.Ns mainGlobals mg) (a : PySem.W.nsIn K mainGlobals x = some (some (.ref f)))
  (l : K.lookup f = some ⟨oc, od, .func (PySem.W.fnOf x x (defArgs st) (defBody st) (defScope st) .none kV doc pm an cdv ct), osl⟩) (c : PySem.W.codeIn K cdv x = true) (k : PySem.W.keepIn K (.ref f) = true)
  (hb : ∀ (kV doc pm : Value) (an : Option Addr) (cdv ct : Value) (us : List Value), us.length = ps.length → bindArgs (PySem.W.fnOf x x (defArgs st) (defBody st) (defScope st) .none kV doc pm an cdv ct) ⟨us, []⟩ = pure (ps.zip us)) :
  Fn K mg x st ps f (PySem.W.fnOf x x (defArgs st) (defBody st) (defScope st) .none kV doc pm an cdv ct) := ⟨fun_mk (st := st) l c k, PySem.W.mg_of X G a, (fun_mk (st := st) l c k).binds (ps := ps) hb⟩
structure En (K : PySem.W.Frag) (x : Str) (st : Stmt) (f : Addr) (oc : Value) (od : Option Addr) (osl : Array (Option Value)) (kV doc pm : Value) (an : Option Addr) (cdv ct : Value) : Prop where
 a : PySem.W.nsIn K mainGlobals x = some (some (.ref f))
 l : K.lookup f = some ⟨oc, od, .func (PySem.W.fnOf x x (defArgs st) (defBody st) (defScope st) .none kV doc pm an cdv ct), osl⟩
 c : PySem.W.codeIn K cdv x = true
 k : PySem.W.keepIn K (.ref f) = true
theorem all_mk {l : PySem.W.OpenLaw} {w : World} {K : PySem.W.Frag} {h : Heap} {mg : Str → Option Value} {fa f1 f2 f3 f4 f5 f6 f7 f8 f9 f10 f11 f12 f13 f14 f15 f16 f17 f18 f19 f20 f21 f22 f23 f24 f25 f26 f27 f28 f29 f30 f31 f32 : Addr} (X : K.In h) (G : h.Ns mainGlobals mg) (hfa : mg "law" = some (.ref fa))
  {od1 an1 od2 an2 od3 an3 od4 an4 od5 an5 od6 an6 od7 an7 od8 an8 od9 an9 od10 an10 od11 an11 od12 an12 od13 an13 od14 an14 od15 an15 od16 an16 od17 an17 od18 an18 od19 an19 od20 an20 od21 an21 od22 an22 od23 an23 od24 an24 od25 an25 od26 an26 od27 an27 od28 an28 od29 an29 od30 an30 od31 an31 od32 an32 : Option Addr} {sl1 sl2 sl3 sl4 sl5 sl6 sl7 sl8 sl9 sl10 sl11 sl12 sl13 sl14 sl15 sl16 sl17 sl18 sl19 sl20 sl21 sl22 sl23 sl24 sl25 sl26 sl27 sl28 sl29 sl30 sl31 sl32 : Array (Option Value)} {oc1 kV1 dc1 pm1 cd1 ct1 oc2 kV2 dc2 pm2 cd2 ct2 oc3 kV3 dc3 pm3 cd3 ct3 oc4 kV4 dc4 pm4 cd4 ct4 oc5 kV5 dc5 pm5 cd5 ct5 oc6 kV6 dc6 pm6 cd6 ct6 oc7 kV7 dc7 pm7 cd7 ct7 oc8 kV8 dc8 pm8 cd8 ct8 oc9 kV9 dc9 pm9 cd9 ct9 oc10 kV10 dc10 pm10 cd10 ct10 oc11 kV11 dc11 pm11 cd11 ct11 oc12 kV12 dc12 pm12 cd12 ct12 oc13 kV13 dc13 pm13 cd13 ct13 oc14 kV14 dc14 pm14 cd14 ct14 oc15 kV15 dc15 pm15 cd15 ct15 oc16 kV16 dc16 pm16 cd16 ct16 oc17 kV17 dc17 pm17 cd17 ct17 oc18 kV18 dc18 pm18 cd18 ct18 oc19 kV19 dc19 pm19 cd19 ct19 oc20 kV20 dc20 pm20 cd20 ct20 oc21 kV21 dc21 pm21 cd21 ct21 oc22 kV22 dc22 pm22 cd22 ct22 oc23 kV23 dc23 pm23 cd23 ct23 oc24 kV24 dc24 pm24 cd24 ct24 oc25 kV25 dc25 pm25 cd25 ct25 oc26 kV26 dc26 pm26 cd26 ct26 oc27 kV27 dc27 pm27 cd27 ct27 oc28 kV28 dc28 pm28 cd28 ct28 oc29 kV29 dc29 pm29 cd29 ct29 oc30 kV30 dc30 pm30 cd30 ct30 oc31 kV31 dc31 pm31 cd31 ct31 oc32 kV32 dc32 pm32 cd32 ct32 : Value}
  (e1 : En K "other_end" s_other_end f1 oc1 od1 sl1 kV1 dc1 pm1 an1 cd1 ct1)
  (e2 : En K "piece_of" s_piece_of f2 oc2 od2 sl2 kV2 dc2 pm2 an2 cd2 ct2)
  (e3 : En K "is_end" s_is_end f3 oc3 od3 sl3 kV3 dc3 pm3 an3 cd3 ct3)
  (e4 : En K "joined" s_joined f4 oc4 od4 sl4 kV4 dc4 pm4 an4 cd4 ct4)
  (e5 : En K "check_train" s_check_train f5 oc5 od5 sl5 kV5 dc5 pm5 an5 cd5 ct5)
  (e6 : En K "turned" s_turned f6 oc6 od6 sl6 kV6 dc6 pm6 an6 cd6 ct6)
  (e7 : En K "free_ends" s_free_ends f7 oc7 od7 sl7 kV7 dc7 pm7 an7 cd7 ct7)
  (e8 : En K "moves_of" s_moves_of f8 oc8 od8 sl8 kV8 dc8 pm8 an8 cd8 ct8)
  (e9 : En K "done" s_done f9 oc9 od9 sl9 kV9 dc9 pm9 an9 cd9 ct9)
  (e10 : En K "check_goal" s_check_goal f10 oc10 od10 sl10 kV10 dc10 pm10 an10 cd10 ct10)
  (e11 : En K "first_steps" s_first_steps f11 oc11 od11 sl11 kV11 dc11 pm11 an11 cd11 ct11)
  (e12 : En K "lists_of" s_lists_of f12 oc12 od12 sl12 kV12 dc12 pm12 an12 cd12 ct12)
  (e13 : En K "run_back_from" s_run_back_from f13 oc13 od13 sl13 kV13 dc13 pm13 an13 cd13 ct13)
  (e14 : En K "numbers_of" s_numbers_of f14 oc14 od14 sl14 kV14 dc14 pm14 an14 cd14 ct14)
  (e15 : En K "least" s_least f15 oc15 od15 sl15 kV15 dc15 pm15 an15 cd15 ct15)
  (e16 : En K "marking_by" s_marking_by f16 oc16 od16 sl16 kV16 dc16 pm16 an16 cd16 ct16)
  (e17 : En K "sides" s_sides f17 oc17 od17 sl17 kV17 dc17 pm17 an17 cd17 ct17)
  (e18 : En K "turn" s_turn f18 oc18 od18 sl18 kV18 dc18 pm18 an18 cd18 ct18)
  (e19 : En K "walked" s_walked f19 oc19 od19 sl19 kV19 dc19 pm19 an19 cd19 ct19)
  (e20 : En K "_law_cell_at" s_law_cell_at f20 oc20 od20 sl20 kV20 dc20 pm20 an20 cd20 ct20)
  (e21 : En K "_law_mix" s_law_mix f21 oc21 od21 sl21 kV21 dc21 pm21 an21 cd21 ct21)
  (e22 : En K "_law_turned_row" s_law_turned_row f22 oc22 od22 sl22 kV22 dc22 pm22 an22 cd22 ct22)
  (e23 : En K "_law_other" s_law_other f23 oc23 od23 sl23 kV23 dc23 pm23 an23 cd23 ct23)
  (e24 : En K "_law_joined" s_law_joined f24 oc24 od24 sl24 kV24 dc24 pm24 an24 cd24 ct24)
  (e25 : En K "_law_line" s_law_line f25 oc25 od25 sl25 kV25 dc25 pm25 an25 cd25 ct25)
  (e26 : En K "_law_renamed" s_law_renamed f26 oc26 od26 sl26 kV26 dc26 pm26 an26 cd26 ct26)
  (e27 : En K "_law_train" s_law_train f27 oc27 od27 sl27 kV27 dc27 pm27 an27 cd27 ct27)
  (e28 : En K "_law_round" s_law_round f28 oc28 od28 sl28 kV28 dc28 pm28 an28 cd28 ct28)
  (e29 : En K "_law_moves" s_law_moves f29 oc29 od29 sl29 kV29 dc29 pm29 an29 cd29 ct29)
  (e30 : En K "_law_web" s_law_web f30 oc30 od30 sl30 kV30 dc30 pm30 an30 cd30 ct30)
  (e31 : En K "_law_parts_hold" s_law_parts_hold f31 oc31 od31 sl31 kV31 dc31 pm31 an31 cd31 ct31)
  (e32 : En K "law" s_law f32 oc32 od32 sl32 kV32 dc32 pm32 an32 cd32 ct32)
  (z1 : PySem.W.nsIn K mainGlobals "len" = some none) (z2 : PySem.W.nsIn K mainGlobals "range" = some none) (z3 : PySem.W.nsIn K mainGlobals "sorted" = some none) (z4 : PySem.W.nsIn K mainGlobals "enumerate" = some none) (z5 : PySem.W.nsIn K mainGlobals "reversed" = some none) (z6 : PySem.W.nsIn K mainGlobals "min" = some none) (z7 : PySem.W.nsIn K mainGlobals "max" = some none) (z8 : PySem.W.nsIn K mainGlobals "list" = some none) (z9 : PySem.W.nsIn K mainGlobals "int" = some none) (z10 : PySem.W.nsIn K mainGlobals "isinstance" = some none) (z11 : PySem.W.nsIn K mainGlobals "zip" = some none) (z12 : PySem.W.nsIn K mainGlobals "sum" = some none) (z13 : PySem.W.nsIn K mainGlobals "all" = some none) (z14 : PySem.W.nsIn K mainGlobals "set" = some none) (z15 : PySem.W.nsIn K mainGlobals "tuple" = some none) (z16 : PySem.W.nsIn K mainGlobals "abs" = some none) (z17 : PySem.W.nsIn K mainGlobals "bool" = some none) (z18 : PySem.W.nsIn K mainGlobals "dict" = some none) (z19 : PySem.W.nsIn K mainGlobals "str" = some none)
  {E0 : Addr} (xo0 : XcIn K "NoTrain" E0)
  {E1 : Addr} (xo1 : XcIn K "TooMany" E1)
  {E2 : Addr} (xo2 : XcIn K "NoPiece" E2)
  {E3 : Addr} (xo3 : XcIn K "NoMove" E3)
  (xm0 : PySem.W.mroIn K E0 (.ref E0) = some true)
  {tk0 : Tok} (ck0 : PySem.W.nsIn K mainGlobals "MOST_STANDINGS" = some (some (.int 300 tk0))) :
  ∃ fd : FuncData, (∀ (s : Shared) (v : Value), BindsTo s fd ⟨[v], []⟩ [("_law_script", v)]) ∧ ∀ base : Heap, K.In base → base.Ns mainGlobals mg → FnOk l.prog w K mg base CX0 8 fa fd ["_law_script"] (sp_law K) := by
 have e := hfa.symm.trans (PySem.W.mg_of X G e32.a)
 cases e
 have B : Bm mg := ⟨⟨PySem.W.mg_none_of X G z1, PySem.W.mg_none_of X G z2, PySem.W.mg_none_of X G z3, PySem.W.mg_none_of X G z4, PySem.W.mg_none_of X G z5, PySem.W.mg_none_of X G z6, PySem.W.mg_none_of X G z7, PySem.W.mg_none_of X G z8, PySem.W.mg_none_of X G z9, PySem.W.mg_none_of X G z10⟩, PySem.W.mg_none_of X G z11, PySem.W.mg_none_of X G z12, PySem.W.mg_none_of X G z13, PySem.W.mg_none_of X G z14, PySem.W.mg_none_of X G z15, PySem.W.mg_none_of X G z16, PySem.W.mg_none_of X G z17, PySem.W.mg_none_of X G z18, PySem.W.mg_none_of X G z19⟩
 have X0 := xo0.xc X G
 have X1 := xo1.xc X G
 have X2 := xo2.xc X G
 have X3 := xo3.xc X G
 have C : Cm mg tk0 := ⟨PySem.W.mg_of X G ck0⟩
 have F_other_end := fn_mk (st := s_other_end) (ps := ["end"]) X G e1.a e1.l e1.c e1.k fun _ _ _ _ _ _ us hl => match us, hl with | [_], _ => rfl
 have F_piece_of := fn_mk (st := s_piece_of) (ps := ["end"]) X G e2.a e2.l e2.c e2.k fun _ _ _ _ _ _ us hl => match us, hl with | [_], _ => rfl
 have F_is_end := fn_mk (st := s_is_end) (ps := ["line", "end"]) X G e3.a e3.l e3.c e3.k fun _ _ _ _ _ _ us hl => match us, hl with | [_, _], _ => rfl
 have F_joined := fn_mk (st := s_joined) (ps := ["line", "end"]) X G e4.a e4.l e4.c e4.k fun _ _ _ _ _ _ us hl => match us, hl with | [_, _], _ => rfl
 have F_check_train := fn_mk (st := s_check_train) (ps := ["line", "train"]) X G e5.a e5.l e5.c e5.k fun _ _ _ _ _ _ us hl => match us, hl with | [_, _], _ => rfl
 have F_turned := fn_mk (st := s_turned) (ps := ["train"]) X G e6.a e6.l e6.c e6.k fun _ _ _ _ _ _ us hl => match us, hl with | [_], _ => rfl
 have F_free_ends := fn_mk (st := s_free_ends) (ps := ["line", "train", "end"]) X G e7.a e7.l e7.c e7.k fun _ _ _ _ _ _ us hl => match us, hl with | [_, _, _], _ => rfl
 have F_moves_of := fn_mk (st := s_moves_of) (ps := ["line", "train"]) X G e8.a e8.l e8.c e8.k fun _ _ _ _ _ _ us hl => match us, hl with | [_, _], _ => rfl
 have F_done := fn_mk (st := s_done) (ps := ["line", "train", "move"]) X G e9.a e9.l e9.c e9.k fun _ _ _ _ _ _ us hl => match us, hl with | [_, _, _], _ => rfl
 have F_check_goal := fn_mk (st := s_check_goal) (ps := ["line", "train", "goal"]) X G e10.a e10.l e10.c e10.k fun _ _ _ _ _ _ us hl => match us, hl with | [_, _, _], _ => rfl
 have F_first_steps := fn_mk (st := s_first_steps) (ps := ["line", "train"]) X G e11.a e11.l e11.c e11.k fun _ _ _ _ _ _ us hl => match us, hl with | [_, _], _ => rfl
 have F_lists_of := fn_mk (st := s_lists_of) (ps := ["standings"]) X G e12.a e12.l e12.c e12.k fun _ _ _ _ _ _ us hl => match us, hl with | [_], _ => rfl
 have F_run_back_from := fn_mk (st := s_run_back_from) (ps := ["steps", "goal"]) X G e13.a e13.l e13.c e13.k fun _ _ _ _ _ _ us hl => match us, hl with | [_, _], _ => rfl
 have F_numbers_of := fn_mk (st := s_numbers_of) (ps := ["steps"]) X G e14.a e14.l e14.c e14.k fun _ _ _ _ _ _ us hl => match us, hl with | [_], _ => rfl
 have F_least := fn_mk (st := s_least) (ps := ["line", "train", "goal"]) X G e15.a e15.l e15.c e15.k fun _ _ _ _ _ _ us hl => match us, hl with | [_, _, _], _ => rfl
 have F_marking_by := fn_mk (st := s_marking_by) (ps := ["line", "standings"]) X G e16.a e16.l e16.c e16.k fun _ _ _ _ _ _ us hl => match us, hl with | [_, _], _ => rfl
 have F_sides := fn_mk (st := s_sides) (ps := ["line", "piece"]) X G e17.a e17.l e17.c e17.k fun _ _ _ _ _ _ us hl => match us, hl with | [_, _], _ => rfl
 have F_turn := fn_mk (st := s_turn) (ps := ["line", "train"]) X G e18.a e18.l e18.c e18.k fun _ _ _ _ _ _ us hl => match us, hl with | [_, _], _ => rfl
 have F_walked := fn_mk (st := s_walked) (ps := ["line", "train", "run"]) X G e19.a e19.l e19.c e19.k fun _ _ _ _ _ _ us hl => match us, hl with | [_, _, _], _ => rfl
 have F_law_cell_at := fn_mk (st := s_law_cell_at) (ps := ["_law_script", "_law_k"]) X G e20.a e20.l e20.c e20.k fun _ _ _ _ _ _ us hl => match us, hl with | [_, _], _ => rfl
 have F_law_mix := fn_mk (st := s_law_mix) (ps := ["_law_cell", "_law_k"]) X G e21.a e21.l e21.c e21.k fun _ _ _ _ _ _ us hl => match us, hl with | [_, _], _ => rfl
 have F_law_turned_row := fn_mk (st := s_law_turned_row) (ps := ["_law_number", "_law_many"]) X G e22.a e22.l e22.c e22.k fun _ _ _ _ _ _ us hl => match us, hl with | [_, _], _ => rfl
 have F_law_other := fn_mk (st := s_law_other) (ps := ["_law_end"]) X G e23.a e23.l e23.c e23.k fun _ _ _ _ _ _ us hl => match us, hl with | [_], _ => rfl
 have F_law_joined := fn_mk (st := s_law_joined) (ps := ["_law_line_here", "_law_end"]) X G e24.a e24.l e24.c e24.k fun _ _ _ _ _ _ us hl => match us, hl with | [_, _], _ => rfl
 have F_law_line := fn_mk (st := s_law_line) (ps := ["_law_script"]) X G e25.a e25.l e25.c e25.k fun _ _ _ _ _ _ us hl => match us, hl with | [_], _ => rfl
 have F_law_renamed := fn_mk (st := s_law_renamed) (ps := ["_law_line_here", "_law_cell"]) X G e26.a e26.l e26.c e26.k fun _ _ _ _ _ _ us hl => match us, hl with | [_, _], _ => rfl
 have F_law_train := fn_mk (st := s_law_train) (ps := ["_law_line_here", "_law_cell", "_law_length"]) X G e27.a e27.l e27.c e27.k fun _ _ _ _ _ _ us hl => match us, hl with | [_, _, _], _ => rfl
 have F_law_round := fn_mk (st := s_law_round) (ps := ["_law_train_here"]) X G e28.a e28.l e28.c e28.k fun _ _ _ _ _ _ us hl => match us, hl with | [_], _ => rfl
 have F_law_moves := fn_mk (st := s_law_moves) (ps := ["_law_line_here", "_law_train_here"]) X G e29.a e29.l e29.c e29.k fun _ _ _ _ _ _ us hl => match us, hl with | [_, _], _ => rfl
 have F_law_web := fn_mk (st := s_law_web) (ps := ["_law_line_here", "_law_train_here"]) X G e30.a e30.l e30.c e30.k fun _ _ _ _ _ _ us hl => match us, hl with | [_, _], _ => rfl
 have F_law_parts_hold := fn_mk (st := s_law_parts_hold) (ps := ["_law_line_here", "_law_train_here", "_law_many"]) X G e31.a e31.l e31.c e31.k fun _ _ _ _ _ _ us hl => match us, hl with | [_, _, _], _ => rfl
 have F_law := fn_mk (st := s_law) (ps := ["_law_script"]) X G e32.a e32.l e32.c e32.k fun _ _ _ _ _ _ us hl => match us, hl with | [_], _ => rfl
 refine ⟨PySem.W.fnOf "law" "law" (defArgs s_law) (defBody s_law) (defScope s_law) .none kV32 dc32 pm32 an32 cd32 ct32, fun s v => .of_eq rfl, fun base _ _ => ?_⟩
 have XR : Xr K mg E0 := ⟨X0, ⟨xo0.t, xo0.isc, xo0.p, xm0⟩⟩
 have XT : Xt K mg E1 := ⟨X1⟩
 have XP : Xp K mg E2 := ⟨X2⟩
 have XM : Xm K mg E3 := ⟨X3⟩
 have G_law_renamed : FnOk l.prog w K mg base CX0 2 _ _ _ _ := ok_law_renamed F_law_renamed F_law_mix F_law_turned_row B.toBl
 have G_law_line : FnOk l.prog w K mg base CX0 3 _ _ _ _ := ok_law_line F_law_line F_law_mix F_law_cell_at F_law_other F_law_renamed G_law_renamed B.toBl
 have G_free_ends : FnOk l.prog w K mg base CX0 2 _ _ _ _ := ok_free_ends F_free_ends B.toBl F_piece_of F_joined
 have G_moves_of : FnOk l.prog w K mg base CX0 3 _ _ _ _ := ok_moves_of F_moves_of F_other_end F_free_ends G_free_ends
 have G_law_moves : FnOk l.prog w K mg base CX0 2 _ _ _ _ := ok_law_moves F_law_moves F_law_other F_law_joined B.toBl
 have G_law_round : FnOk l.prog w K mg base CX0 2 _ _ _ _ := ok_law_round F_law_round F_law_other
 have G_law_train : FnOk l.prog w K mg base CX0 2 _ _ _ _ := ok_law_train F_law_train F_law_mix F_law_other F_law_joined B.toBl
 have G_turned : FnOk l.prog w K mg base CX0 2 _ _ _ _ := ok_turned F_turned B.toBl F_other_end
 have G_check_train : FnOk l.prog w K mg base (CXr l.prog w base) 2 _ _ _ _ := ok_check_train F_check_train XR B F_is_end F_piece_of F_joined F_other_end
 have G_check_goal : FnOk l.prog w K mg base (CXr l.prog w base) 3 _ _ _ _ := ok_check_goal F_check_goal XR B F_check_train G_check_train
 have G_first_steps : FnOk l.prog w K mg base (CXr l.prog w base) 4 _ _ _ _ := ok_first_steps F_first_steps B C XT F_moves_of G_moves_of
 have G_least : FnOk l.prog w K mg base (CXr l.prog w base) 5 _ _ _ _ := ok_least F_least B F_check_goal G_check_goal F_first_steps G_first_steps F_lists_of F_run_back_from F_numbers_of
 have G_turn : FnOk l.prog w K mg base (CXr l.prog w base) 6 _ _ _ _ := ok_turnG F_turn B F_least G_least F_turned F_other_end
 have G_sides : FnOk l.prog w K mg base (CXr l.prog w base) 7 _ _ _ _ := ok_sides F_sides B XP F_turn (turn_one G_turn) F_marking_by F_other_end
 have G_law_web : FnOk l.prog w K mg base CX0 3 _ _ _ _ := ok_law_web F_law_web B F_law_moves G_law_moves
 have G_done : FnOk l.prog w K mg base (CXr l.prog w base) 4 _ _ _ _ := ok_done F_done XM F_moves_of G_moves_of
 have G_walked : FnOk l.prog w K mg base (CXr l.prog w base) 5 _ _ _ _ := ok_walked F_walked B F_done G_done
 have G_law_parts_hold : FnOk l.prog w K mg base CX0 7 _ _ _ _ := ok_law_parts_hold F_law_parts_hold B F_law_web G_law_web F_turn G_turn
 exact ok_law F_law B F_law_line G_law_line F_law_cell_at F_law_mix F_law_train G_law_train F_law_web G_law_web F_turn G_turn F_least G_least F_turned G_turned F_sides G_sides F_law_round G_law_round F_walked G_walked F_law_parts_hold G_law_parts_hold
theorem walk {l : PySem.W.OpenLaw} {q : Program} {loose : List Str} {XP : (Str → Option Value) → Heap → Prop} {YP : World → Heap → Prop} {d : DefRec} {K : Params → PySem.W.Frag} (hn : l.most = some 63) (hdf : d.params.defaults = [])
  (hY : ∀ (w : World) (h : Heap), YP w h → (K w.params).In h)
  (F : ∀ (w : World) (mg : Str → Option Value) (fa : Addr) (h : Heap), (K w.params).In h → h.Ns mainGlobals mg → mg d.name = some (.ref fa) →
   ∃ fd : FuncData, (∀ (s : Shared) (u : Value), BindsTo s fd ⟨[u], []⟩ [("_law_script", u)]) ∧ ∀ base : Heap, (K w.params).In base → base.Ns mainGlobals mg → FnOk l.prog w (K w.params) mg base CX0 8 fa fd ["_law_script"] (sp_law (K w.params))) :
  PySem.W.WalkO q loose XP YP l.row.toRowW d [] (fun f vs => PySem.call f vs) :=
 L2.walk_of (n := 63) (k := 8) (x := "_law_script") (CX := fun _ => CX0) (sp := fun w => sp_law (K w.params)) hn (by decide) hdf ⟨rfl, by decide, by decide⟩ hY F (fun _ _ a ns hl _ hS => ⟨a, ns, rfl, hS, fun _ => rfl⟩) fun _ _ _ _ _ z => z
end K34
namespace PySem.W.Fast
def tw10011407703313196054:=0
def tw1006533423856251516:=0
def tw10141900066587024135:=0
def tw10162479031612077236:=0
def tw10206231491578192851:=0
def tw10236989972759717132:=0
def tw10253069911113872843:=0
def tw10307891323356983252:=0
def tw10403372648591384211:=0
def tw10434613024029846370:=0
def tw10499317277115318989:=0
def tw10500678399040677378:=0
def tw10501655217382193332:=0
def tw10531751517272850697:=0
def tw10543605611682317143:=0
def tw10639311340806532154:=0
def tw10713580104109792001:=0
def tw108476165521162262:=0
def tw10912412419810431484:=0
def tw10964613835760637248:=0
def tw10970516683481357285:=0
def tw11030398121254082821:=0
def tw11126001479102369979:=0
def tw11163145214566740717:=0
def tw11249138995507727702:=0
def tw11264089045786283391:=0
def tw11265067626030373019:=0
def tw11314902343608720232:=0
def tw11588510263247257627:=0
def tw11734290403852652045:=0
def tw11783932434029553093:=0
def tw11913982533061548611:=0
def tw11922300133398698195:=0
def tw1193946708703405717:=0
def tw11956465429042815798:=0
def tw11991991717609322494:=0
def tw12019614547193741022:=0
def tw12123430437445541679:=0
def tw12146065789656525992:=0
def tw1226133886476659734:=0
def tw12399990466515555825:=0
def tw12550856574124777975:=0
def tw126375683767018816:=0
def tw12694945990779300679:=0
def tw12695201784067235652:=0
def tw12779233882874362530:=0
def tw12866941607073744268:=0
def tw12951794963785541582:=0
def tw13127216546826635045:=0
def tw1316893238420920929:=0
def tw13170009802350791304:=0
def tw13200725367659533863:=0
def tw13220958329562963151:=0
def tw13314680005049230315:=0
def tw13414648657663412185:=0
def tw13479402886132583326:=0
def tw13556568615680578513:=0
def tw13741590784287407552:=0
def tw13800392919935211435:=0
def tw1392377734525765679:=0
def tw13949595465387812084:=0
def tw1407218370824402353:=0
def tw14120087987829380987:=0
def tw1426483143816016876:=0
def tw1450378992276853211:=0
def tw14528101543042006923:=0
def tw1461409193148909282:=0
def tw14617093876219968894:=0
def tw14720307477549415978:=0
def tw14739817987775787258:=0
def tw14819594913975083874:=0
def tw14839860930100070286:=0
def tw14852968794944928228:=0
def tw14873885485486088863:=0
def tw14874126038204561757:=0
def tw14978943957132824494:=0
def tw1508085482039283965:=0
def tw15178682718163203676:=0
def tw15349553300117683894:=0
def tw15715314522540329023:=0
def tw15747367538766623466:=0
def tw15777730869469084947:=0
def tw15859619459238149198:=0
def tw1590849678651910087:=0
def tw15972784422801529943:=0
def tw16005801996224922771:=0
def tw16480244454021657192:=0
def tw16525947717868382191:=0
def tw16570193442220128152:=0
def tw16609925879583703904:=0
def tw16650391137473248828:=0
def tw16761669636064864207:=0
def tw16797365732755123350:=0
def tw16823390124288174155:=0
def tw16824661410992678029:=0
def tw16849851766314480810:=0
def tw16862763719845009325:=0
def tw16924295253401276115:=0
def tw16927736075383589861:=0
def tw16941344643374855924:=0
def tw16961949067232918102:=0
def tw170757059719691061:=0
def tw17133341884946465565:=0
def tw17142775386117375304:=0
def tw17178404049073402096:=0
def tw17205422412823210061:=0
def tw17238015773458946635:=0
def tw17323470824121205864:=0
def tw1740550266233603401:=0
def tw17427451983919339965:=0
def tw17429421244497451721:=0
def tw17503527252892323421:=0
def tw17522983051766137468:=0
def tw17541249457013128440:=0
def tw17583711646091666133:=0
def tw17686928305832452717:=0
def tw17969806165708750252:=0
def tw18046787722621402888:=0
def tw18118630376842551649:=0
def tw18162444448588871053:=0
def tw18177914152512632790:=0
def tw18267529494193605534:=0
def tw18328658522271853646:=0
def tw18396453801799193367:=0
def tw1951838964305030003:=0
def tw1963782110677941763:=0
def tw2108559760713673741:=0
def tw2114303218689852073:=0
def tw2129388165327762757:=0
def tw2132197832649316625:=0
def tw2146389111074432555:=0
def tw214958614586541745:=0
def tw2262470440441576174:=0
def tw2280639801258735459:=0
def tw233148029356476522:=0
def tw2332915152708868534:=0
def tw2387254364721396770:=0
def tw2442278298232840761:=0
def tw2455550882518639902:=0
def tw2526275812909330528:=0
def tw2555566212960832152:=0
def tw2595698712376987279:=0
def tw2603314842138177857:=0
def tw2750203215709504290:=0
def tw2805988370329321255:=0
def tw2808136241041639458:=0
def tw2821028305376853607:=0
def tw2826876078697300454:=0
def tw2870482389811883967:=0
def tw2913317085833887166:=0
def tw2965572537596026750:=0
def tw2977772293546748347:=0
def tw3064637602812371912:=0
def tw3143475831376224296:=0
def tw3253058237925966949:=0
def tw3258694192148129194:=0
def tw3336177391804011782:=0
def tw3394838424887744655:=0
def tw3406221203346643168:=0
def tw3525683025630012878:=0
def tw3574259616142622691:=0
def tw3594121574127797526:=0
def tw3615700778245448991:=0
def tw3776991957131539345:=0
def tw3790660005822796151:=0
def tw3870653237728717101:=0
def tw38733619640520388:=0
def tw3909971427123379522:=0
def tw3958835851862328687:=0
def tw402859959439600448:=0
def tw4033091888667877180:=0
def tw4078188452581499335:=0
def tw4121129665001827880:=0
def tw4170764296360939318:=0
def tw4183085887624255487:=0
def tw4217813727368382529:=0
def tw4233980005181706231:=0
def tw4439832342662103756:=0
def tw4491095831273883229:=0
def tw453619546216850966:=0
def tw4545705592335129696:=0
def tw4587716202217127383:=0
def tw4601173721494810763:=0
def tw4761454298948434716:=0
def tw4786438226689452311:=0
def tw4814139219814857872:=0
def tw4882507245701101796:=0
def tw4943784908029323481:=0
def tw4948121937958164643:=0
def tw4984280452771326994:=0
def tw5014835845888363813:=0
def tw5145298159093456609:=0
def tw5149677336948336155:=0
def tw5169266350325343065:=0
def tw5173657283749499075:=0
def tw5174298630901893659:=0
def tw5401187634411485864:=0
def tw5450924665275472570:=0
def tw5498795151602487353:=0
def tw554091841361392290:=0
def tw5542036908196526292:=0
def tw5556448239806289990:=0
def tw5561293655226293174:=0
def tw5664179927760515287:=0
def tw5704024290285427547:=0
def tw5746815539083732438:=0
def tw5796090563253012176:=0
def tw5813871442424337061:=0
def tw6056985243155606870:=0
def tw6148513331749504324:=0
def tw6216811689231146023:=0
def tw6232081393412937490:=0
def tw6265328856295219169:=0
def tw6301332769936211657:=0
def tw6336406276346626000:=0
def tw6392364454331376073:=0
def tw6695044013367019083:=0
def tw6699612776799485553:=0
def tw6868730427799131913:=0
def tw6951197675153227810:=0
def tw7065150492723874472:=0
def tw711954199829208898:=0
def tw7194117677038838612:=0
def tw7396869306109094848:=0
def tw7403025673542443821:=0
def tw740733312534861638:=0
def tw7466705494884745938:=0
def tw7647022074058648699:=0
def tw76735224891880118:=0
def tw7746451252548379759:=0
def tw7759652388208822338:=0
def tw776442287468410900:=0
def tw7772002445274071700:=0
def tw7772688535605771088:=0
def tw7882114037933600969:=0
def tw7985332959227837463:=0
def tw8038977914360229869:=0
def tw8289924263478256209:=0
def tw8290081459503282806:=0
def tw8301334079388118232:=0
def tw8424530586816902556:=0
def tw8440355252172886232:=0
def tw8473497577547444658:=0
def tw8734838920856104520:=0
def tw8837915356876537547:=0
def tw9015646370946187039:=0
def tw910681210598442064:=0
def tw9152439973498016796:=0
def tw9203041552983581709:=0
def tw9267326328612537634:=0
def tw9301926456702764902:=0
def tw9390476049069668536:=0
def tw9412607419937672355:=0
def tw9447854078479097618:=0
def tw9458017200537929144:=0
def tw963605721928102798:=0
def tw9636295863429048555:=0
def tw9677896022657449454:=0
def tw96851661645691419:=0
def tw9714741836178352552:=0
def tw9783360832139513741:=0
def tw9816373364213257582:=0
def tw9828888607425018435:=0
def tw9858094209618448981:=0
def tw9859136576291730767:=0
end PySem.W.Fast
open PySem PySem.W PyProof.Rows
set_option maxRecDepth 100000 in
set_option maxHeartbeats 0 in
theorem PySem.Challenge.cw_turnline_k34_whole_trains_turned_and_the_holds : PySem.Challenge.rw_turnline_k34_whole_trains_turned_and_the.Holds := by
 w_on; o_law; k_head; (case hw => w_witness2)
 k_fill
 refine K34.walk (l := PySem.Challenge.rw_turnline_k34_whole_trains_turned_and_the) rfl rfl (fun w h Y => PySem.W.kIn_of Y) ?F
 case F =>
  intro w mg fa h KX G hmg
  refine' K34.all_mk KX G hmg ⟨?a1, ?l1, ?c1, ?k1⟩ ⟨?a2, ?l2, ?c2, ?k2⟩ ⟨?a3, ?l3, ?c3, ?k3⟩ ⟨?a4, ?l4, ?c4, ?k4⟩ ⟨?a5, ?l5, ?c5, ?k5⟩ ⟨?a6, ?l6, ?c6, ?k6⟩ ⟨?a7, ?l7, ?c7, ?k7⟩ ⟨?a8, ?l8, ?c8, ?k8⟩ ⟨?a9, ?l9, ?c9, ?k9⟩ ⟨?a10, ?l10, ?c10, ?k10⟩ ⟨?a11, ?l11, ?c11, ?k11⟩ ⟨?a12, ?l12, ?c12, ?k12⟩ ⟨?a13, ?l13, ?c13, ?k13⟩ ⟨?a14, ?l14, ?c14, ?k14⟩ ⟨?a15, ?l15, ?c15, ?k15⟩ ⟨?a16, ?l16, ?c16, ?k16⟩ ⟨?a17, ?l17, ?c17, ?k17⟩ ⟨?a18, ?l18, ?c18, ?k18⟩ ⟨?a19, ?l19, ?c19, ?k19⟩ ⟨?a20, ?l20, ?c20, ?k20⟩ ⟨?a21, ?l21, ?c21, ?k21⟩ ⟨?a22, ?l22, ?c22, ?k22⟩ ⟨?a23, ?l23, ?c23, ?k23⟩ ⟨?a24, ?l24, ?c24, ?k24⟩ ⟨?a25, ?l25, ?c25, ?k25⟩ ⟨?a26, ?l26, ?c26, ?k26⟩ ⟨?a27, ?l27, ?c27, ?k27⟩ ⟨?a28, ?l28, ?c28, ?k28⟩ ⟨?a29, ?l29, ?c29, ?k29⟩ ⟨?a30, ?l30, ?c30, ?k30⟩ ⟨?a31, ?l31, ?c31, ?k31⟩ ⟨?a32, ?l32, ?c32, ?k32⟩ ?z1 ?z2 ?z3 ?z4 ?z5 ?z6 ?z7 ?z8 ?z9 ?z10 ?z11 ?z12 ?z13 ?z14 ?z15 ?z16 ?z17 ?z18 ?z19 ?xo0 ?xo1 ?xo2 ?xo3 ?xm0 ?ck0
  (case a1 => k_is); (case l1 => k_is); (case c1 => k_is); (case k1 => k_is)
  (case a2 => k_is); (case l2 => k_is); (case c2 => k_is); (case k2 => k_is)
  (case a3 => k_is); (case l3 => k_is); (case c3 => k_is); (case k3 => k_is)
  (case a4 => k_is); (case l4 => k_is); (case c4 => k_is); (case k4 => k_is)
  (case a5 => k_is); (case l5 => k_is); (case c5 => k_is); (case k5 => k_is)
  (case a6 => k_is); (case l6 => k_is); (case c6 => k_is); (case k6 => k_is)
  (case a7 => k_is); (case l7 => k_is); (case c7 => k_is); (case k7 => k_is)
  (case a8 => k_is); (case l8 => k_is); (case c8 => k_is); (case k8 => k_is)
  (case a9 => k_is); (case l9 => k_is); (case c9 => k_is); (case k9 => k_is)
  (case a10 => k_is); (case l10 => k_is); (case c10 => k_is); (case k10 => k_is)
  (case a11 => k_is); (case l11 => k_is); (case c11 => k_is); (case k11 => k_is)
  (case a12 => k_is); (case l12 => k_is); (case c12 => k_is); (case k12 => k_is)
  (case a13 => k_is); (case l13 => k_is); (case c13 => k_is); (case k13 => k_is)
  (case a14 => k_is); (case l14 => k_is); (case c14 => k_is); (case k14 => k_is)
  (case a15 => k_is); (case l15 => k_is); (case c15 => k_is); (case k15 => k_is)
  (case a16 => k_is); (case l16 => k_is); (case c16 => k_is); (case k16 => k_is)
  (case a17 => k_is); (case l17 => k_is); (case c17 => k_is); (case k17 => k_is)
  (case a18 => k_is); (case l18 => k_is); (case c18 => k_is); (case k18 => k_is)
  (case a19 => k_is); (case l19 => k_is); (case c19 => k_is); (case k19 => k_is)
  (case a20 => k_is); (case l20 => k_is); (case c20 => k_is); (case k20 => k_is)
  (case a21 => k_is); (case l21 => k_is); (case c21 => k_is); (case k21 => k_is)
  (case a22 => k_is); (case l22 => k_is); (case c22 => k_is); (case k22 => k_is)
  (case a23 => k_is); (case l23 => k_is); (case c23 => k_is); (case k23 => k_is)
  (case a24 => k_is); (case l24 => k_is); (case c24 => k_is); (case k24 => k_is)
  (case a25 => k_is); (case l25 => k_is); (case c25 => k_is); (case k25 => k_is)
  (case a26 => k_is); (case l26 => k_is); (case c26 => k_is); (case k26 => k_is)
  (case a27 => k_is); (case l27 => k_is); (case c27 => k_is); (case k27 => k_is)
  (case a28 => k_is); (case l28 => k_is); (case c28 => k_is); (case k28 => k_is)
  (case a29 => k_is); (case l29 => k_is); (case c29 => k_is); (case k29 => k_is)
  (case a30 => k_is); (case l30 => k_is); (case c30 => k_is); (case k30 => k_is)
  (case a31 => k_is); (case l31 => k_is); (case c31 => k_is); (case k31 => k_is)
  (case a32 => k_is); (case l32 => k_is); (case c32 => k_is); (case k32 => k_is)
  (case z1 => k_is)
  (case z2 => k_is)
  (case z3 => k_is)
  (case z4 => k_is)
  (case z5 => k_is)
  (case z6 => k_is)
  (case z7 => k_is)
  (case z8 => k_is)
  (case z9 => k_is)
  (case z10 => k_is)
  (case z11 => k_is)
  (case z12 => k_is)
  (case z13 => k_is)
  (case z14 => k_is)
  (case z15 => k_is)
  (case z16 => k_is)
  (case z17 => k_is)
  (case z18 => k_is)
  (case z19 => k_is)
  (case xo0 => refine' ⟨?u1, ?u2, ?u3, ?u4, ?u5, ?u6, ?u7, ?u8, ?u9⟩; (case u1 => k_is); (case u2 => k_exc); (case u3 => k_is); (case u4 => k_is); (case u5 => k_is); (case u6 => k_is); (case u7 => k_is); (case u8 => k_is); (case u9 => k_is))
  (case xo1 => refine' ⟨?u1, ?u2, ?u3, ?u4, ?u5, ?u6, ?u7, ?u8, ?u9⟩; (case u1 => k_is); (case u2 => k_exc); (case u3 => k_is); (case u4 => k_is); (case u5 => k_is); (case u6 => k_is); (case u7 => k_is); (case u8 => k_is); (case u9 => k_is))
  (case xo2 => refine' ⟨?u1, ?u2, ?u3, ?u4, ?u5, ?u6, ?u7, ?u8, ?u9⟩; (case u1 => k_is); (case u2 => k_exc); (case u3 => k_is); (case u4 => k_is); (case u5 => k_is); (case u6 => k_is); (case u7 => k_is); (case u8 => k_is); (case u9 => k_is))
  (case xo3 => refine' ⟨?u1, ?u2, ?u3, ?u4, ?u5, ?u6, ?u7, ?u8, ?u9⟩; (case u1 => k_is); (case u2 => k_exc); (case u3 => k_is); (case u4 => k_is); (case u5 => k_is); (case u6 => k_is); (case u7 => k_is); (case u8 => k_is); (case u9 => k_is))
  (case xm0 => k_is)
  (case ck0 => k_is)
