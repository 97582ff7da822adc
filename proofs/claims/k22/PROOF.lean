import PyProof.Rows.All
import Wide.All
import OpenK.AllK
import Wide.FinOn
import PyProof.EqAt
import PyProof.EqKinds
import PyProof.TupleCall
import PyProof.CompFree
import PyProof.EvalArms
import KE.BitLaws
import OpenK.KOwn
import KE.KIsAll
import PyProof.ExcArgsOwn
import PyProof.IsiH_list
import PyProof.NsDelKeeps
import PyProof.ExcAttrAll.ValueError
import PyProof.ExcBaseAll.ValueError
import PyProof.ZipIter
import PyProof.Rows.SumAny
import KE.LcSums
import PyProof.SetRoads
import PyProof.Rows.SetFrom
import KE.KSetDisp
import PyProof.DictIter
import PyProof.DictRoadsH
import PyProof.Rows.TupDisplay
import PyProof.FString
import PyProof.FactsAll.list_1
import PyProof.CollectWalk
import PyProof.StrWalks
import PyProof.StrLawsTight
import PyProof.StrLawsChain
import PyProof.StrLawsIn
import PyProof.StrCalls2
import PyProof.StrBlockG
import PyProof.SliceStr2
import KE.KIntText
import PyProof.CollectIter
import PyProof.Walks
import PyProof.SetKind
import PyProof.TupleKey
import PyProof.IsRules
import PyProof.SetNew
import PyProof.StrOps2
import PyProof.Rows.Range3
import PyProof.DictCompW
import KE.KDictSum
import PyProof.Rows.SeqMore
import PyProof.DictItems
import KE.KPairComp
import KE.KDictList
import PyProof.WalkInts
import PyProof.DictTruth
import PyProof.Rows.FactsN_abs
import PySem.Challenge.RW_turnline_k22_ways_looked_at
abbrev aa:=@List.length_map
abbrev ae:=@PySem.wpAny_bind
abbrev af:=@List.getElem?_eq_getElem
abbrev ag:=@List.getElem?_eq_some_iff
abbrev ah:=@List.length_append
abbrev ai:=@List.getElem?_map
abbrev aj:=@PySem.wpAny_pure
abbrev ak:=@List.mem_map
abbrev ao:=@Nat.le_refl
abbrev aq:=@List.getElem?_append_left
abbrev ar:=@List.map_append
abbrev au:=@List.mem_append_right
abbrev av:=@PySem.Heap.get?_push_of_some
abbrev aw:=@List.mem_of_getElem?
abbrev ax:=@List.mem_cons_of_mem
abbrev ay:=@PySem.Heap.lt_size
abbrev az:=@List.getElem?_append_right
abbrev aA:=@Bool.false_ne_true
abbrev aB:=@List.mem_cons_self
abbrev aC:=@List.mem_append
abbrev aD:=@List.size_toArray
abbrev aE:=@List.getD_eq_getElem?_getD
abbrev aF:=@if_neg
abbrev aG:=@List.mem_cons
abbrev aH:=@Nat.zero_le
abbrev aI:=@Nat.ne_of_lt
abbrev aJ:=@if_pos
abbrev aK:=@PySem.F.plainAttrs_list
abbrev aL:=@Bool.false_eq_true
abbrev aM:=@Classical.byContradiction
abbrev aN:=@List.length_take
abbrev aO:=@List.length_cons
abbrev aP:=@Array.length_toList
abbrev aQ:=@List.length_singleton
abbrev aR:=@List.map_cons
abbrev aS:=@PySem.PassesOwn.never
abbrev aT:=@PySem.W.mg_none_of
abbrev aU:=@Nat.lt_of_lt_of_le
abbrev aV:=@List.take_add_one
abbrev aW:=@List.take_length
abbrev aX:=@PySem.F.type_list_append
abbrev aY:=@PySem.F.slot_list_append
abbrev aZ:=@PySem.wpAny_mono
abbrev bc:=@PySem.Heap.get?_push_size
abbrev bf:=@decide_eq_false
abbrev bg:=@List.getElem?_eq_none
abbrev bh:=@Option.some.inj
abbrev bj:=@Nat.le_trans
abbrev bo:=@List.mem_append_left
abbrev bq:=@List.nodup_cons
abbrev br:=@Nat.sub_self
abbrev bu:=@List.map_map
abbrev bw:=@List.mem_singleton
abbrev bx:=@Bool.eq_iff_iff
abbrev bz:=@PySem.boot_len
abbrev bA:=@List.length_drop
abbrev bB:=@Array.getElem?_eq_some_iff
abbrev bC:=@List.nodup_append
abbrev bD:=@Array.getElem?_eq_getElem
abbrev bE:=@Nat.le_of_lt
abbrev bF:=@if_false
abbrev bG:=@decide_eq_true
abbrev bH:=@List.lookup_cons
abbrev bI:=@Array.getElem?_toList
abbrev bJ:=@List.mem_range
abbrev bK:=@Ne.symm
abbrev bL:=@List.prefix_refl
abbrev bM:=@List.find?_cons_of_neg
abbrev bN:=@List.length_filter_le
abbrev bO:=@PySem.W.kia_one
abbrev bP:=@List.length_set
abbrev bQ:=@Nat.lt_of_le_of_lt
abbrev bR:=@Int.emod_lt_of_pos
abbrev bS:=@congrArg
abbrev bT:=@PySem.Paired.length
abbrev bU:=@List.mem_iff_getElem
abbrev bV:=@PySem.F.slot_dict_keyiterator_next
abbrev bW:=@Nat.mul_assoc
abbrev bX:=@Bool.not_true
abbrev bY:=@PySem.F.excBase_ValueError
abbrev bZ:=@List.find?_cons_of_pos
abbrev b3:=@List.length_reverse
abbrev b5:=@List.find?_cons
abbrev b6:=@List.nodup_nil
abbrev b8:=@PyProof.Rows.boot_tuple
abbrev b9:=@PySem.wpAny_holding
abbrev cb:=@PySem.wpAny_comprehension_free
abbrev cc:=@List.mem_filter
abbrev cf:=@Int.emod_nonneg
abbrev cg:=@PySem.mem_of_lookup
abbrev cj:=@PyProof.Rows.callWith_type1
abbrev ck:=@PySem.F.slot_dict_get
abbrev cm:=@PySem.wpAny_standAt
abbrev cq:=@List.forIn_cons
abbrev cu:=@PySem.wpAny_truthy_bool
abbrev cv:=@List.all_eq_true
abbrev cw:=@decide_eq_true_iff
abbrev cx:=@List.take_of_length_le
abbrev cy:=@List.prefix_append
abbrev cz:=@List.getElem?_drop
abbrev cA:=@PySem.wpAny_call_entry
abbrev cB:=@List.length_zip
abbrev cC:=@Nat.lt_irrefl
abbrev cD:=@List.take_append_drop
abbrev cE:=@PySem.wpAny_typeNameOfWhole_keyiter
abbrev cF:=@PySem.sizeLine_eq
abbrev cG:=@List.pairwise_map
abbrev cH:=@List.length_range
abbrev cI:=@List.foldl_append
abbrev cJ:=@PySem.tupleKind_room_in1
abbrev cK:=@PySem.wpAny_passesOwn
abbrev cL:=@Nat.pow_le_pow_right
abbrev cM:=@List.length_dropLast
abbrev cN:=@Nat.le_add_right
abbrev cO:=@Int.min_eq_right
abbrev cP:=@Int.max_eq_right
abbrev cQ:=@PySem.wpAny_newObj_type
abbrev cR:=@List.pairwise_iff_getElem
abbrev cS:=@Decidable.byContradiction
abbrev cT:=@List.toList_toArray
abbrev cU:=@List.filterMap_cons
abbrev cV:=@PySem.wpAny_newFunctionEnv
abbrev cW:=@List.length_erase_of_mem
abbrev cX:=@List.Pairwise.imp_of_mem
abbrev cY:=@List.append_nil
abbrev cZ:=@Int.min_eq_left
abbrev de:=@Int.max_eq_left
abbrev df:=@PyProof.Rows.boot_list
abbrev dg:=@Array.forIn_toList
abbrev dh:=@Nat.exists_eq_add_of_le
abbrev di:=@PySem.wpAny_typeNameOf_keyiter
abbrev dj:=@if_true
abbrev dk:=@decide_eq_true_eq
abbrev dq:=@PySem.SetTable.toList_insertAt
abbrev dr:=@PySem.F.entry_dict_get
abbrev dt:=@Nat.pow_succ
abbrev dw:=@List.reverse_cons
abbrev dy:=@PySem.wpAny_specialOf
abbrev dz:=@List.mem_iff_getElem?
abbrev dA:=@List.getElem_mem
abbrev dB:=@List.map_drop
abbrev dC:=@PySem.wpAny_setState_of
abbrev dD:=@List.mem_of_mem_drop
abbrev dE:=@List.mem_erase_of_ne
abbrev dF:=@PySem.F.slot_tuple_hash
abbrev dG:=@PySem.Calls.callWith_builtin
abbrev dH:=@Array.mem_toList_iff
abbrev dN:=@Option.map_some
abbrev dO:=@beq_eq_false_iff_ne
abbrev dQ:=@List.getElem?_range
abbrev dR:=@Prod.ext
abbrev dS:=@List.mem_filterMap
abbrev dU:=@PySem.Calls.evalArgs_plain
abbrev dX:=@PySem.wpAny_execs_nil
abbrev dY:=@PySem.F.slot_dict_getitem
abbrev dZ:=@List.mem_of_find?_eq_some
abbrev d6:=@List.getLastD_eq_getLast?
abbrev d7:=@Option.isSome_map
abbrev d8:=@Nat.le_succ
abbrev d9:=@List.ext_getElem?
abbrev ed:=@PySem.Heap.SameBut.update
abbrev ef:=@PySem.F.slot_list_insert
abbrev eg:=@Option.isSome_iff_exists
abbrev eh:=@Nat.lt_succ_iff_lt_or_eq
abbrev en:=@List.getElem?_take_of_lt
abbrev eo:=@PySem.wpAny_Call_Name_kw
abbrev et:=@beq_self_eq_true
abbrev eu:=@List.getElem_inj
abbrev ez:=@List.getElem?_cons_succ
abbrev eA:=@List.any_eq_true
abbrev eB:=@PySem.Calls.spliced_cons
abbrev eC:=@Bool.and_eq_true
set_option Elab.async false
set_option linter.all false
set_option maxRecDepth 100000
namespace L2
open PySem PySem.Spec PyProof.Rows
abbrev Key:=Sum Int Str
def ue:Key->Value->Bool
 |.inl k,v=>Value.isInt k v
 |.inr x,v=>Value.isStrOf x v
def Kf (w:World):Key->Int
 |.inl k=>hashInt k
 |.inr x=>hashStr w x
theorem gT:∀ {k:Key}{v:Value},ue k v=true->(∃ i t,k=Sum.inl i/\v=Value.int i t)\/(∃ x t,k=Sum.inr x/\v=Value.str x t)
 |.inl i,v,h=>by
  obtain⟨t,e⟩:=Value.isInt_shape (k:=i) (v:=v) h
  exact .inl ⟨i,t,rfl,e⟩
 |.inr x,v,h=>by
  obtain⟨t,e⟩:=Value.isStrOf_shape (x:=x) (v:=v) h
  exact .inr ⟨x,t,rfl,e⟩
theorem zW (i:Int)(t:Tok):ue (.inl i) (.int i t)=true:=by simp[ue,Value.isInt]
theorem zV (x:Str)(t:Tok):ue (.inr x) (.str x t)=true:=by simp[ue,Value.isStrOf]
theorem Ez (a b:Int):decide ((Sum.inl a:Key)=Sum.inl b)=(a==b):=by
 by_cases e:a=b
 ·subst e;simp
 ·have h:¬(Sum.inl a:Key)=Sum.inl b:=λq=>e (Sum.inl.inj q)
  rw[bf h]
  exact(dO.mpr e).symm
theorem Ew (a b:Str):decide ((Sum.inr a:Key)=Sum.inr b)=decide (a=b):=by
 by_cases e:a=b
 ·subst e;simp
 ·have h:¬(Sum.inr a:Key)=Sum.inr b:=λq=>e (Sum.inr.inj q)
  rw[bf h,bf e]
theorem Ey (a:Int)(b:Str):decide ((Sum.inl a:Key)=Sum.inr b)=false:=bf (λq=>nomatch q)
theorem Ex (a:Str)(b:Int):decide ((Sum.inr a:Key)=Sum.inl b)=false:=bf (λq=>nomatch q)
def fB (prog:Program)(w:World):PySem.KeyKind prog w Key where
 is:=ue
 hash:=Kf w
 inj:=λv a b ha hb=>by
  rcases gT ha with⟨i,t,rfl,rfl⟩|⟨x,t,rfl,rfl⟩
  ·rcases gT hb with⟨j,u,rfl,e⟩|⟨y,u,rfl,e⟩
   ·injection e with e1 _;rw[e1]
   ·exact nomatch e
  ·rcases gT hb with⟨j,u,rfl,e⟩|⟨y,u,rfl,e⟩
   ·exact nomatch e
   ·injection e with e1 _;rw[e1]
 byValue:=λk v h=>by
  rcases gT h with⟨i,t,rfl,rfl⟩|⟨x,t,rfl,rfl⟩<;>rfl
 pyHash:=λhv h=>by
  rcases gT hv with⟨i,t,rfl,rfl⟩|⟨x,t,rfl,rfl⟩
  ·exact wpAny_pyHash_int h
  ·exact wpAny_pyHash_str h
 eqBool:=λhu hv h=>by
  rcases gT hu with⟨i,t,rfl,rfl⟩|⟨x,t,rfl,rfl⟩
  ·rcases gT hv with⟨j,u,rfl,rfl⟩|⟨y,u,rfl,rfl⟩
   ·rw[Ez]at h;exact wpAny_eqBool_int h
   ·rw[Ey]at h;exact SeqAt.EqAt.int_str i t y u _ _ _ _ h
  ·rcases gT hv with⟨j,u,rfl,rfl⟩|⟨y,u,rfl,rfl⟩
   ·rw[Ex]at h;exact SeqAt.EqAt.str_int x t j u _ _ _ _ h
   ·rw[Ew]at h;exact wpAny_eqBool_str h
 «strs» :=λk x t v h=>by
  rcases gT h with⟨i,u,rfl,e⟩|⟨y,u,rfl,e⟩
  ·exact nomatch e
  ·injection e with e1 _
   subst e1
   cases v<;>rfl
theorem wy (prog:Program)(w:World)(i:Int)(t:Tok):(fB prog w).is (.inl i) (.int i t)=true:=zW i t
theorem wx (prog:Program)(w:World)(x:Str)(t:Tok):(fB prog w).is (.inr x) (.str x t)=true:=zV x t
inductive V where
 |non |bl (b:Bool)|int (i:Int)|str (x:Str)|byt (b:Array UInt8)|flt (b:UInt64)|ref (a:Addr)|ty (n:String)
 deriving DecidableEq
def RelV:V->Value->Prop
 |.non,u=>u=Value.none
 |.bl b,u=>u=Value.bool b
 |.int i,u=>∃ t,u=Value.int i t
 |.str x,u=>∃ t,u=Value.str x t
 |.byt b,u=>∃ t,u=Value.bytes b t
 |.flt b,u=>∃ t,u=Value.float b t
 |.ref a,u=>u=Value.ref a
 |.ty n,u=>u=Value.type n
abbrev Vals:List V->List Value->Prop:=Paired RelV
theorem Vals.length {xs:List V}{us:List Value}(r:Vals xs us):xs.length=us.length:=bT r
theorem Vals.get:∀ {xs:List V}{us:List Value}{i:Nat}{x:V},Vals xs us->xs[i]? = some x->∃ u,us[i]? = some u/\RelV x u
 |_,_,_,_,.nil,e=>by simp at e
 |_,_,0,_,.cons r _,e=>by simp at e;subst e;exact⟨_,rfl,r⟩
 |_,_,i+1,x,.cons _ t,e=>by
  obtain⟨u,h1,h2⟩:=Vals.get (i:=i) (x:=x) t (by simpa using e)
  exact⟨u,by simpa using h1,h2⟩
theorem Vals.set {x:V}{u:Value}(r:RelV x u):∀ {xs:List V}{us:List Value} (i:Nat),Vals xs us->Vals (xs.set i x) (us.set i u)
 |_,_,_,.nil=>.nil
 |_,_,0,.cons _ t=>.cons r t
 |_,_,i+1,.cons q t=>.cons q (Vals.set r i t)
theorem Vals.append:∀ {xs ys:List V}{us ws:List Value},Vals xs us->Vals ys ws->Vals (xs++ys) (us++ws)
 |_,_,_,_,.nil,s=>s
 |_,_,_,_,.cons r t,s=>.cons r (Vals.append t s)
theorem Vals.take:∀ {xs:List V}{us:List Value} (n:Nat),Vals xs us->Vals (xs.take n) (us.take n)
 |_,_,0,_=>.nil
 |_,_,_+1,.nil=>.nil
 |_,_,n+1,.cons r t=>.cons r (Vals.take n t)
theorem Vals.drop:∀ {xs:List V}{us:List Value} (n:Nat),Vals xs us->Vals (xs.drop n) (us.drop n)
 |_,_,0,r=>r
 |_,_,_+1,.nil=>.nil
 |_,_,n+1,.cons _ t=>Vals.drop n t
def oB:Option V->Option Value->Prop
 |some v,some u=>RelV v u
 |none,none=>True
 |_,_=>False
def KV {κ:Type} :List (κ×V)->List (κ×Value)->Prop:=Paired λ(p:κ×V) (q:κ×Value)=>p.1=q.1/\RelV p.2 q.2
def kV:Key->V
 |.inl i=>.int i
 |.inr x=>.str x
inductive HO where
 /-- a list -/
 |lst (xs:List V)
 /-- a tuple (never changes) -/
 |tup (xs:List V)
 /-- a dict Fc keys are ints and texts;one Fc keys are tuples of ints and texts (the empty one is both) -/
 |dK (kvs:List (Key×V))|dT (kvs:List (List Key×V))
 /-- a set of ints:its members,its size -/
 |set (S:Int->Bool) (n:Nat)
 /-- an instance of the class at C,its dict at dx,its attributes -/
 |ins (C dx:Addr) (fs:List (Str×V))
 /-- the dict of the instance at x -/
 |own (x:Addr)
 /-- the dict of an exception -/
 |xd (fs:List (Str×V))
 /-- a bound method,f of x -/
 |met (f x:Addr)
 /-- a range object lo,lo+1,.. below hi -/
 |rng (lo hi:Int)
 /-- a Fi Nb is known to the object (the Iq;a dict while a loop walks it):read,never written while it is so -/
 |frz (o:Obj) (u:HO)
 /-- a code F1 table -/
 |tbl (ps:Array Value)
 /-- any other Fi,by Na is true of its one object (a def of M9 own:nW a S n:=HO.ext λh=>..) -/
 |ext (φ:Heap->Prop)
abbrev Hp:=Addr->Option HO
def upd (H:Hp)(a:Addr)(o:HO):Hp:=λb=>if b=a then some o else H b
theorem eG {H:Hp}{a:Addr}{o:HO} :upd H a o a=some o:=by unfold upd;rw[aJ rfl]
theorem eN {H:Hp}{a b:Addr}{o:HO}(h:b≠a):upd H a o b=H b:=by unfold upd;rw[aF h]
theorem oK {H:Hp}{a:Addr}{o u:HO} :upd (upd H a o) a u=upd H a u:=by
 funext b;unfold upd;split<;>rfl
theorem fA {H:Hp}{a b:Addr}{o u:HO}(h:H a=some o)(h':H b=some u)(d:o≠u):a≠b:=by
 intro e;subst e;rw[h]at h';exact d (bh h')
theorem eM {H:Hp}{a b:Addr}{o:HO}(h:H a=some o)(h':H b=none):a≠b:=by
 intro e;subst e;rw[h]at h';cases h'
section
variable (P:Program)(w:World)
def gD (H:Hp)(h:Heap)(a:Addr):HO->Prop
 |.lst xs=>xs.length<=sizeLine/\∃ (its:List Value) (n:Nat),Vals xs its/\h.get? a=some {cls:=.type "list",data:=.seq its.toArray n}
 |.tup xs=>xs.length<=sizeLine/\∃ its:List Value,Vals xs its/\IsTup h a its.toArray
 |.dK kvs=>kvs.length<=sizeLine/\(a==sysModules)=false/\∃ vs,KV kvs vs/\h.DictOf (fB P w) a vs
 |.dT kvs=>kvs.length<=sizeLine/\(a==sysModules)=false/\∃ xs:List (List Key×Addr×Value),
   Paired (λ(p:List Key×V) (q:List Key×Addr×Value)=>p.1=q.1/\H q.2.1=some (.tup (p.1.map kV))/\RelV p.2 q.2.2) kvs xs/\
   ∃ o es ep,h.get? a=some o/\o.ExactDict/\o.data = .dict es ep/\es.toList=xs.map (entryOfKey (tupleKind (fB P w)))/\(xs.map (·.1)).Nodup
 |.set S n=>h.SetOf (intKind P w) a S n
 |.ins C dx fs=>H dx=some (.own a)/\fs.length<=1000/\dx≠a/\h.get? a=some (PySem.W.instObj C dx)/\
   ∃ mA,h.Ns1 dx mA/\(∀ f,oB (fs.lookup f) (mA f))/\PySem.Within mA (fs.map (·.1))
 |.own _=>∃ o,h.get? a=some o
 |.xd fs=>∃ mA,h.Ns1 a mA/\∀ f,oB (fs.lookup f) (mA f)
 |.rng lo hi=>∃ t u v,h.get? a=some {cls:=.type "range",data:=.fields #[.int lo t,.int hi u,.int 1 v]}
 |.frz o u=>h.get? a=some o/\gD H h a u
 |.tbl ps=>h.get? a=some {cls:=.none,data:=.fields ps}
 |.met f x=>h.get? a=some (PySem.W.methodObj (.ref f) (.ref x))
 |.ext φ=>φ h/\(∃ o,h.get? a=some o)/\∀ h1 h2:Heap,φ h1->(∀ o,h1.get? a=some o->h2.get? a=some o)->φ h2
def HOk (H:Hp)(h:Heap):Prop:=∀ a o,H a=some o->gD P w H h a o
end
section
variable {P:Program}{w:World}{H H':Hp}{h h':Heap}{a:Addr}{o:HO}
theorem gD.lt (x:gD P w H h a o):a<h.objs.size:=by
 cases o with
 |lst xs=>obtain⟨_,_,_,_,e⟩:=x;exact ay e
 |tup xs=>obtain⟨_,_,_,p⟩:=x;exact p.lt
 |dK kvs=>obtain⟨_,_,_,_,o,_,_,e,_⟩:=x;exact ay e
 |dT kvs=>obtain⟨_,_,_,_,o,_,_,e,_⟩:=x;exact ay e
 |set S n=>obtain⟨o,_,_,_,e,_⟩:=x;exact ay e
 |ins C dx fs=>obtain⟨_,_,_,e,_⟩:=x;exact ay e
 |own y=>obtain⟨_,e⟩:=x;exact ay e
 |xd fs=>obtain⟨_,⟨_,_,_,e,_⟩,_⟩:=x;exact ay e
 |rng lo hi=>obtain⟨_,_,_,e⟩:=x;exact ay e
 |frz ob u=>obtain⟨e,_⟩:=x;exact ay e
 |tbl ps=>exact ay (show h.get? a=some _ from x)
 |met f y=>exact ay (show h.get? a=some _ from x)
 |ext φ=>obtain⟨_,⟨_,e⟩,_⟩:=x;exact ay e
theorem Paired.Er {α β:Type}{F G:α->β->Prop} :∀ {l₁:List α}{l₂:List β},Paired F l₁ l₂->(∀ a b,F a b->G a b)->Paired G l₁ l₂
 |_,_,.nil,_=>.nil
 |_,_,.cons r t,f=>.cons (f _ _ r) (Paired.Er t f)
theorem gD.ot (x:gD P w H h a o)(k:∀ b u,(b=a\/H b=some (.own a))->h.get? b=some u->h'.get? b=some u)
  (ho:∀ b,H b=some (.own a)->H' b=some (.own a)) (ht:∀ b xs,H b=some (.tup xs)->H' b=some (.tup xs)):gD P w H' h' a o:=by
 induction o with
 |lst xs=>obtain⟨z,its,n,r,e⟩:=x;exact⟨z,its,n,r,k _ _ (.inl rfl) e⟩
 |tup xs=>obtain⟨z,its,r,ob,e,c⟩:=x;exact⟨z,its,r,ob,k _ _ (.inl rfl) e,c⟩
 |dK kvs=>obtain⟨z,y,vs,r,ob,es,ep,e,c⟩:=x;exact⟨z,y,vs,r,ob,es,ep,k _ _ (.inl rfl) e,c⟩
 |dT kvs=>
  obtain⟨z,y,xs,r,ob,es,ep,e,c⟩:=x
  exact⟨z,y,xs,Paired.Er r λp q z=>⟨z.1,ht _ _ z.2.1,z.2.2⟩,ob,es,ep,k _ _ (.inl rfl) e,c⟩
 |set S n=>obtain⟨ob,es,ep,t,e,c⟩:=x;exact⟨ob,es,ep,t,k _ _ (.inl rfl) e,c⟩
 |ins C dx fs=>
  obtain⟨d,z,ne,e,mA,⟨od,es,ep,e2,c⟩,r⟩:=x
  exact⟨ho _ d,z,ne,k _ _ (.inl rfl) e,mA,⟨od,es,ep,k _ _ (.inr d) e2,c⟩,r⟩
 |own y=>obtain⟨ob,e⟩:=x;exact⟨ob,k _ _ (.inl rfl) e⟩
 |xd fs=>obtain⟨mA,⟨od,es,ep,e,c⟩,r⟩:=x;exact⟨mA,⟨od,es,ep,k _ _ (.inl rfl) e,c⟩,r⟩
 |rng lo hi=>obtain⟨t,u,v,e⟩:=x;exact⟨t,u,v,k _ _ (.inl rfl) e⟩
 |frz ob u ih=>obtain⟨e,q⟩:=x;exact⟨k _ _ (.inl rfl) e,ih q⟩
 |tbl ps=>
  have e:h.get? a=some {cls:=.none,data:=.fields ps} :=x
  show h'.get? a=some {cls:=.none,data:=.fields ps}
  exact k a _ (.inl rfl) e
 |met f y=>
  have e:h.get? a=some (PySem.W.methodObj (.ref f) (.ref y)):=x
  show h'.get? a=some (PySem.W.methodObj (.ref f) (.ref y))
  exact k a _ (.inl rfl) e
 |ext φ=>obtain⟨p,⟨o,e⟩,st⟩:=x;exact⟨st _ _ p λo q=>k _ _ (.inl rfl) q,⟨o,k _ _ (.inl rfl) e⟩,st⟩
theorem HOk.lt (x:HOk P w H h)(e:H a=some o):a<h.objs.size:=(x a o e).lt
theorem HOk.fresh (x:HOk P w H h)(e:h.objs.size<=a):H a=none:=by
 cases q:H a with
 |none=>rfl
 |some u=>exact absurd (aU (x.lt q) e) (cC _)
theorem HOk.kept (x:HOk P w H h)(k:∀ b u,h.get? b=some u->h'.get? b=some u):HOk P w H h':=λa o e=>
 (x a o e).ot (λb u _ q=>k b u q) (λ_ q=>q) λ_ _ q=>q
theorem HOk.laid (x:HOk P w H h)(k:∀ b u,h.get? b=some u->h'.get? b=some u)(hp:h.objs.size<=a)(new:gD P w (upd H a o) h' a o):HOk P w (upd H a o) h':=λb u e=>by
 have hn:=x.fresh hp
 by_cases hb:b=a
 ·subst hb;rw[eG]at e;cases e;exact new
 ·rw[eN hb]at e
  exact(x b u e).ot (λc v _ q=>k c v q) (λc q=>by rw[eN (eM q hn)];exact q) λc xs q=>by rw[eN (eM q hn)];exact q
end
def Rd (H:Hp)(a:Addr)(u:HO):Prop:=H a=some u\/∃ o,H a=some (.frz o u)
theorem Rd.ok {P:Program}{w:World}{H:Hp}{h:Heap}{a:Addr}{u:HO}(r:Rd H a u)(x:HOk P w H h):gD P w H h a u:=by
 rcases r with r |⟨o,r⟩
 ·exact x a u r
 ·obtain⟨_,q⟩:=x a _ r
  exact q
def Mut:Option HO->Prop
 |some (.lst _)=>True
 |some (.dK _)=>True
 |some (.dT _)=>True
 |some (.set _ _)=>True
 |some (.ins _ _ _)=>True
 |some (.ext _)=>True
 |_=>False
section
variable {P:Program}{w:World}{H:Hp}{h h':Heap}{x e:Addr}{o':HO}
theorem HOk.write (ok:HOk P w H h)(mu:Mut (H x))(he:e=x\/H e=some (.own x))(k:∀ b u,b≠e->h.get? b=some u->h'.get? b=some u)(heo:∃ u,h'.get? e=some u)
  (new:gD P w (upd H x o') h' x o'):HOk P w (upd H x o') h':=λb u q=>by
 have F3:∀ c y,H c=some (.own y)->c≠x:=λc y r z=>by subst z;rw[r]at mu;exact mu
 have J5:∀ c xs,H c=some (.tup xs)->c≠x:=λc xs r z=>by subst z;rw[r]at mu;exact mu
 by_cases hb:b=x
 ·subst hb;rw[eG]at q;cases q;exact new
 ·rw[eN hb]at q
  by_cases hbe:b=e
  ·have q':H b=some (.own x):=by
    rcases he with z |z
    ·exact absurd (hbe.trans z) hb
    ·rw[hbe];exact z
   rw[q]at q';cases q'
   obtain⟨v,hv⟩:=heo
   exact⟨v,by rw[hbe];exact hv⟩
  ·refine(ok b u q).ot (λc v hc r=>k c v ?_ r) (λc r=>by rw[eN (F3 c b r)];exact r) λc xs r=>by rw[eN (J5 c xs r)];exact r
   rcases hc with rfl |hc
   ·exact hbe
   ·rintro rfl
    rcases he with z |z
    ·exact F3 c b hc z
    ·rw[hc]at z;cases z;exact hb rfl
end
structure Un (fs ex:List Addr)(H H':Hp)(h h':Heap):Prop where
 keep:∀ b o,h.get? b=some o->H b=none->b∉fs->b∉ex->h'.get? b=some o
 slot:∀ b o,h.get? b=some o->H b=none->b∈fs->b∉ex->∃ sl,h'.get? b=some {o with slots:=sl}
 free:∀ b o,h.get? b=some o->H b=none->b∉ex->H' b=none
 there:∀ b o,h.get? b=some o->b∉ex->∃ o',h'.get? b=some o'
 jF:∀ b xs,H b=some (.tup xs)->H' b=some (.tup xs)
 nV:∀ b o u,H b=some (.frz o u)->H' b=some (.frz o u)
 oM:∀ b ps,H b=some (.tbl ps)->∃ more,H' b=some (.tbl (ps++more))
section
variable {fs fs' ex ex':List Addr}{H H1 H2:Hp}{h h1 h2 h':Heap}{a x e:Addr}{o:HO}
theorem Un.any (u:Un fs ex H H1 h h1){b:Addr}{ob:Obj}(q:h.get? b=some ob)(n:H b=none)(hx:b∉ex):∃ sl,h1.get? b=some {ob with slots:=sl} :=by
 by_cases hb:b∈fs
 ·exact u.slot b ob q n hb hx
 ·exact⟨ob.slots,u.keep b ob q n hb hx⟩
theorem Un.trans (a:Un fs ex H H1 h h1)(b:Un fs ex H1 H2 h1 h2):Un fs ex H H2 h h2 where
 keep:=λc ob q n hc hx=>b.keep c ob (a.keep c ob q n hc hx) (a.free c ob q n hx) hc hx
 slot:=λc ob q n hc hx=>by
  obtain⟨sl,e1⟩:=a.slot c ob q n hc hx
  obtain⟨sl',e2⟩:=b.slot c _ e1 (a.free c ob q n hx) hc hx
  exact⟨sl',e2⟩
 free:=λc ob q n hx=>by
  obtain⟨o',e1⟩:=a.there c ob q hx
  exact b.free c o' e1 (a.free c ob q n hx) hx
 there:=λc ob q hx=>by
  obtain⟨o',e1⟩:=a.there c ob q hx
  exact b.there c o' e1 hx
 jF:=λc xs q=>b.jF c xs (a.jF c xs q)
 nV:=λc ob xs q=>b.nV c ob xs (a.nV c ob xs q)
 oM:=λc ps q=>by
  obtain⟨m1,e1⟩:=a.oM c ps q
  obtain⟨m2,e2⟩:=b.oM c _ e1
  exact⟨m1++m2,by rw[e2,Array.append_assoc]⟩
theorem Un.kept (k:∀ b u,h.get? b=some u->h'.get? b=some u):Un fs ex H H h h':=
 ⟨λb ob q _ _ _=>k b ob q,λb ob q _ _ _=>⟨ob.slots,k b ob q⟩,λ_ _ _ n _=>n,λb ob q _=>⟨ob,k b ob q⟩,λ_ _ q=>q,λ_ _ _ q=>q,λ_ ps q=>⟨#[],by rw[q];simp⟩⟩
theorem Un.refl:Un fs ex H H h h:=Un.kept λ_ _ q=>q
theorem Un.laid (k:∀ b u,h.get? b=some u->h'.get? b=some u)(hp:h.objs.size<=a)(hn:H a=none):Un fs ex H (upd H a o) h h' where
 keep:=λb u q _ _ _=>k b u q
 slot:=λb u q _ _ _=>⟨u.slots,k b u q⟩
 free:=λb u q n _=>by rw[eN (aI (aU (ay q) hp))];exact n
 there:=λb u q _=>⟨u,k b u q⟩
 jF:=λb xs q=>by rw[eN (eM q hn)];exact q
 nV:=λb u xs q=>by rw[eN (eM q hn)];exact q
 oM:=λb ps q=>⟨#[],by rw[eN (eM q hn),q];simp⟩
theorem Un.write (mu:Mut (H x))(he:e=x\/H e=some (.own x))(k:∀ b u,b≠e->h.get? b=some u->h'.get? b=some u)(heo:∃ u,h'.get? e=some u):Un fs ex H (upd H x o) h h':=by
 have hx:∀ b,H b=none->b≠x:=λb n z=>by subst z;rw[n]at mu;exact mu
 have hb:∀ b,H b=none->b≠e:=λb n z=>by
  subst z
  rcases he with r |r
  ·exact hx b n r
  ·rw[n]at r;cases r
 have hm:∀ b u,H b=some u->¬Mut (some u)->b≠x:=λb u q nm z=>by subst z;rw[q]at mu;exact nm mu
 refine⟨λb u q n _ _=>k b u (hb b n) q,λb u q n _ _=>⟨u.slots,k b u (hb b n) q⟩,λb u q n _=>by rw[eN (hx b n)];exact n,λb u q _=>?_,
  λb xs q=>by rw[eN (hm b _ q λz=>z)];exact q,λb u xs q=>by rw[eN (hm b _ q λz=>z)];exact q,λb ps q=>⟨#[],by rw[eN (hm b _ q λz=>z),q];simp⟩⟩
 by_cases hbe:b=e
 ·subst hbe;exact heo
 ·exact⟨u,k b u hbe q⟩
end
def trk (h:Heap)(H:Hp):List Addr:=(List.range h.objs.size).filter λa=>(H a).isSome
def vp (h:Heap)(H:Hp):Heap:=PySem.W.hideAll h (trk h H)
theorem Ad (h:Heap)(H:Hp):(vp h H).objs.size=h.objs.size:=PySem.W.hideAll_size _ _
theorem BJ {h:Heap}{H:Hp}{b:Addr}{o:Obj}(e:h.get? b=some o)(n:H b=none):(vp h H).get? b=some o:=
 PySem.W.hideAll_get _ e λhm=>by
  have q:(H b).isSome=true:=(cc.mp hm).2
  rw[n]at q;simp at q
theorem CJ {h:Heap}{H:Hp}{b:Addr}{o:Obj}(e:(vp h H).get? b=some o):h.get? b=some o/\H b=none:=by
 have e':h.get? b=some o:=PySem.W.of_hideAll (trk h H) e
 refine⟨e',?_⟩
 cases q:H b with
 |none=>rfl
 |some x=>
  have hm:b∈trk h H:=cc.mpr ⟨bJ.mpr (ay e'),by simp[q]⟩
  have z:(vp h H).get? b=none:=PySem.W.hideAll_none (trk h H) hm
  rw[z]at e;cases e
structure Mod (K:PySem.W.Frag)(mg:Str->Option Value)(base:Heap):Prop where
 kin:K.In base
 glob:base.Ns mainGlobals mg
 blt:∃ mb,base.Ns builtinsNs mb/\∀ x:Str,x≠ "__name__" ->mb x=bootBuiltins x
 nolimit:base.NoLimit
structure Cx where
 prog:Program
 w:World
 K:PySem.W.Frag
 mg:Str->Option Value
 base:Heap
 A:Around
 N:List Str
 s₀:Shared
 H₀:Hp
 env:Env
 outer:List Env
 stack:List Env
 ex:List Addr
 fn:Str->Bool
 calm:Bool
 pn:List (Addr×Obj)
 xe:Value->Shared->Prop
def frs (l:List Env):List Addr:=l.filterMap (·.frame)
abbrev Cx.fs (X:Cx):List Addr:=frs X.outer
def Vis (sc:Scope)(x:Str):Prop:=sc.names.lookup x=some .local\/sc.names.lookup x=some .cell\/sc.names.lookup x=some .free
def Loc (sc:Scope)(x:Str):Prop:=sc.names.lookup x=some .local\/sc.names.lookup x=some .cell
def Look (env:Env)(h:Heap)(m:Str->Option Value)(x:Str)(u:Value):Prop:=
 (env.kindOf x=some .local/\m x=some u)\/((env.kindOf x=some .cell\/env.kindOf x=some .free)/\∃ c,env.cells.lookup x=some c/\h.IsCell c (some u))
structure Cx.Ok (X:Cx):Prop where
 mod:Mod X.K X.mg X.base
 kind:X.env.scope.kind = .function
 glob:X.env.globals=mainGlobals
 blt:X.env.builtins=builtinsNs
 above:X.s₀.heap.objs.size<=X.env.locals
 inj:∀ x y c,X.env.cells.lookup x=some c->X.env.cells.lookup y=some c->x=y
 has:∀ x,(X.env.kindOf x=some .cell\/X.env.kindOf x=some .free)->∃ c,X.env.cells.lookup x=some c
 cab:∀ x c,X.fn x=true->X.env.cells.lookup x=some c->X.s₀.heap.objs.size<=c
 hd:X.calm=true->X.A.handled=none
 frames:X.A.frames=some X.stack
 stk:X.stack=X.outer\/(X.stack=X.env::X.outer/\X.env.frame=some X.env.locals)
 exf:∀ b∈X.ex,b≠X.env.locals/\∀ x c,X.env.cells.lookup x=some c->c≠b
 bs:∀ b o,X.base.get? b=some o->X.s₀.heap.get? b=some o/\X.H₀ b=none
 bsz:X.base.objs.size<=X.s₀.heap.objs.size
 xN:∀ b o,X.base.get? b=some o->b∉X.ex
 Ah:∀ b∈X.ex,b∉X.fs
 p6:X.s₀.heap.FunFrames X.base X.outer
 frf:∀ b∈X.fs,X.H₀ b=none
structure Inv (X:Cx)(pins:List (Addr×Obj))(σ:List (Option V))(H:Hp)(s:Shared):Prop where
 ok:X.Ok
 os:s.os=X.s₀.os
 bare:AllBare s.gens
 base:Un X.fs X.ex X.H₀ H X.s₀.heap s.heap
 loc:∃ m,s.heap.Ns X.env.locals m/\∀ (i:Nat) (x:Str) (v:V),X.N[i]? = some x->σ[i]? = some (some v)->Vis X.env.scope x->∃ u,RelV v u/\Look X.env s.heap m x u
 cell:∀ x c,X.env.cells.lookup x=some c->∃ v,s.heap.IsCell c v
 free:H X.env.locals=none
 jE:∀ x c,X.env.cells.lookup x=some c->H c=none
 pin:∀ p∈X.pn++pins,s.heap.get? p.1=some p.2/\H p.1=none/\p.1≠X.env.locals/\p.1∉X.fs/\∀ v,p.2.data≠ .cell v
 hok:HOk X.prog X.w H s.heap
 len:σ.length=X.N.length
section
variable {X:Cx}{pins:List (Addr×Obj)}{σ:List (Option V)}{H H':Hp}{s:Shared}{h':Heap}
theorem Cx.Ok.J8 (ok:X.Ok){b:Addr}{o:Obj}(e:X.base.get? b=some o):b∉X.fs:=λhb=>by
 have:=(ok.p6.mem hb).1
 rw[e]at this;cases this
theorem Inv.bs (I:Inv X pins σ H s):∀ b o,X.base.get? b=some o->s.heap.get? b=some o/\H b=none:=λb o e=>
 ⟨I.base.keep b o (I.ok.bs b o e).1 (I.ok.bs b o e).2 (I.ok.J8 e) (I.ok.xN b o e),I.base.free b o (I.ok.bs b o e).1 (I.ok.bs b o e).2 (I.ok.xN b o e)⟩
theorem Inv.bk (I:Inv X pins σ H s):∀ b o,X.base.get? b=some o->s.heap.get? b=some o:=λb o e=>(I.bs b o e).1
theorem Inv.mod (I:Inv X pins σ H s):Mod X.K X.mg X.base:=I.ok.mod
theorem Inv.kIn (I:Inv X pins σ H s):X.K.In s.heap:=I.ok.mod.kin.keeps I.bk
theorem Inv.lt (I:Inv X pins σ H s):X.env.locals<s.heap.objs.size:=let ⟨_,hn,_⟩:=I.loc;hn.lt
theorem Inv.sz (I:Inv X pins σ H s):X.s₀.heap.objs.size<=s.heap.objs.size:=bj I.ok.above (bE I.lt)
theorem Inv.J7 (I:Inv X pins σ H s){a:Addr}(h:s.heap.objs.size<=a):a∉X.fs:=λhb=>by
 obtain⟨_,o,ho,_⟩:=I.ok.p6.mem hb
 exact absurd (aU (ay ho) (bj I.sz h)) (cC _)
theorem Inv.cne (I:Inv X pins σ H s):∀ x c,X.env.cells.lookup x=some c->c≠X.env.locals:=λx c e z=>by
 obtain⟨v,o,ho,hd⟩:=I.cell x c e
 obtain⟨m,⟨o',es,ep,ho',hd',_⟩,_⟩:=I.loc
 rw[z,ho']at ho;cases ho;rw[hd']at hd;cases hd
theorem Inv.p6 (I:Inv X pins σ H s):s.heap.FunFrames X.base X.outer:=by
 have all:∀ (l:List Env),(∀ b∈frs l,b∈X.fs)->X.s₀.heap.FunFrames X.base l->s.heap.FunFrames X.base l:=by
  intro l
  induction l with
  |nil=>intro _ _;trivial
  |cons env r ih=>
   intro hs hl
   obtain⟨hk,⟨L,o,hf,hn,ho,hd⟩,hr⟩:=hl
   have hL:L∈X.fs:=hs L (by unfold frs;rw[cU,hf];exact aB)
   obtain⟨sl,e⟩:=I.base.slot L o ho (I.ok.frf L hL) hL λz=>I.ok.Ah L z hL
   exact⟨hk,⟨L,_,hf,hn,e,hd⟩,ih (λb hb=>hs b (by unfold frs;rw[cU,hf];exact ax _ hb)) hr⟩
 exact all X.outer (λ_ hb=>hb) I.ok.p6
theorem Inv.stack (I:Inv X pins σ H s):s.heap.FunFrames X.base X.stack:=by
 rcases I.ok.stk with e |⟨e,hf⟩
 ·rw[e];exact I.p6
 ·rw[e]
  obtain⟨m,hn,_⟩:=I.loc
  refine .cons (by rw[I.ok.kind];decide) hf hn ?_ I.p6
  exact Heap.get?_none_of_le (bj I.ok.bsz I.ok.above)
theorem Inv.lJ (I:Inv X pins σ H s):∀ b∈frs X.stack,b∈X.env.locals::X.fs:=λb hb=>by
 rcases I.ok.stk with e |⟨e,hf⟩
 ·rw[e]at hb;exact ax _ hb
 ·rw[e]at hb
  unfold frs at hb
  rw[cU,hf]at hb
  exact hb
theorem Inv.uC (I:Inv X pins σ H s):∀ b∈frs X.stack,H b=none:=λb hb=>by
 rcases aG.mp (I.lJ b hb)with e |hb
 ·rw[e];exact I.free
 ·obtain⟨_,o,ho,_⟩:=I.ok.p6.mem hb
  exact I.base.free b o ho (I.ok.frf b hb) λz=>I.ok.Ah b z hb
theorem Inv.step {g':Array GenState}{t':Nat}{d':Drawn}{ch:List Addr}(I:Inv X pins σ H s)
  (hch:∀ b∈ch,(b∈X.ex\/X.s₀.heap.objs.size<=b)/\b≠X.env.locals/\(∀ x c,X.env.cells.lookup x=some c->c≠b)/\∀ p∈X.pn++pins,p.1≠b)
  (keep:∀ b o,b≠X.env.locals->b∉X.fs->b∉ch->s.heap.get? b=some o->H b=none->h'.get? b=some o)
  (slot:∀ b o,b≠X.env.locals->b∈X.fs->b∉ch->s.heap.get? b=some o->H b=none->∃ sl,h'.get? b=some {o with slots:=sl}) (free:∀ b o,b∉ch->s.heap.get? b=some o->H b=none->H' b=none)
  (there:∀ b o,b∉ch->s.heap.get? b=some o->∃ o',h'.get? b=some o')
  (jF:∀ b xs,H b=some (.tup xs)->H' b=some (.tup xs)) (nV:∀ b o u,H b=some (.frz o u)->H' b=some (.frz o u)) (oM:∀ b ps,H b=some (.tbl ps)->∃ more,H' b=some (.tbl (ps++more)))
  (ns:∀ m,s.heap.Ns X.env.locals m->h'.Ns X.env.locals m) (hok:HOk X.prog X.w H' h') (hg:AllBare g'):
  Inv X pins σ H' {s with heap:=h',gens:=g',drawn:=d',toks:=t'} :=by
 have neL:∀ b o,X.s₀.heap.get? b=some o->b≠X.env.locals:=λb o e=>aI (aU (ay e) I.ok.above)
 have neC:∀ b o,X.s₀.heap.get? b=some o->b∉X.ex->b∉ch:=λb o e hx hb=>by
  rcases(hch b hb).1 with z |z
  ·exact hx z
  ·exact absurd (aU (ay e) z) (cC _)
 have cellK:∀ x c,X.env.cells.lookup x=some c->∀ v,s.heap.IsCell c v->h'.IsCell c v:=λx c e v ⟨o,ho,hd⟩=>by
  have nch:c∉ch:=λz=>(hch c z).2.2.1 x c e rfl
  by_cases hc:c∈X.fs
  ·obtain⟨sl,q⟩:=slot c o (I.cne x c e) hc nch ho (I.jE x c e)
   exact⟨_,q,hd⟩
  ·exact⟨o,keep c o (I.cne x c e) hc nch ho (I.jE x c e),hd⟩
 refine⟨I.ok,I.os,hg,⟨λb o e n hb hx=>?_,λb o e n hb hx=>?_,λb o e n hx=>?_,λb o e hx=>?_,λb xs e=>jF b xs (I.base.jF b xs e),λb o xs e=>nV b o xs (I.base.nV b o xs e),λb ps e=>?_⟩,?_,λx c e=>?_,?_,λx c e=>?_,λp hp=>?_,hok,I.len⟩
 ·exact keep b o (neL b o e) hb (neC b o e hx) (I.base.keep b o e n hb hx) (I.base.free b o e n hx)
 ·obtain⟨sl,e1⟩:=I.base.slot b o e n hb hx
  obtain⟨sl',e2⟩:=slot b _ (neL b o e) hb (neC b o e hx) e1 (I.base.free b o e n hx)
  exact⟨sl',e2⟩
 ·obtain⟨o',e1⟩:=I.base.there b o e hx
  exact free b o' (neC b o e hx) e1 (I.base.free b o e n hx)
 ·obtain⟨o',e1⟩:=I.base.there b o e hx
  exact there b o' (neC b o e hx) e1
 ·obtain⟨m1,e1⟩:=I.base.oM b ps e
  obtain⟨m2,e2⟩:=oM b _ e1
  exact⟨m1++m2,by rw[e2,Array.append_assoc]⟩
 ·obtain⟨m,hn,hl⟩:=I.loc
  refine⟨m,ns m hn,λi x v e1 e2 e3=>?_⟩
  obtain⟨u,r,l⟩:=hl i x v e1 e2 e3
  refine⟨u,r,?_⟩
  rcases l with l |⟨k,c,e,z⟩
  ·exact .inl l
  ·exact .inr ⟨k,c,e,cellK x c e _ z⟩
 ·obtain⟨v,z⟩:=I.cell x c e
  exact⟨v,cellK x c e v z⟩
 ·obtain⟨m,⟨o,_,_,ho,_⟩,_⟩:=I.loc
  exact free _ o (λz=>(hch _ z).2.1 rfl) ho I.free
 ·obtain⟨v,o,ho,hd⟩:=I.cell x c e
  exact free c o (λz=>(hch c z).2.2.1 x c e rfl) ho (I.jE x c e)
 ·obtain⟨e,n,ne,nf,d⟩:=I.pin p hp
  have nch:p.1∉ch:=λz=>(hch p.1 z).2.2.2 p hp rfl
  exact⟨keep p.1 p.2 ne nf nch e n,free p.1 p.2 nch e n,ne,nf,d⟩
theorem Inv.un {t':Nat}(I:Inv X pins σ H s)(u:Un X.fs [] H H' s.heap h')(hok:HOk X.prog X.w H' h'):Inv X pins σ H' {s with heap:=h',toks:=t'} :=by
 obtain⟨m,⟨o,es,ep,ho,r⟩,_⟩:=id I.loc
 obtain⟨sl,hL⟩:=u.any ho I.free (by simp)
 exact I.step (g':=s.gens) (d':=s.drawn) (ch:=[]) (λ_ z=>nomatch z) (λb o _ hb _ e n=>u.keep b o e n hb (by simp)) (λb o _ hb _ e n=>u.slot b o e n hb (by simp)) (λb o _ e n=>u.free b o e n (by simp)) (λb o _ e=>u.there b o e (by simp)) u.jF u.nV u.oM (λm' hm=>by
  obtain⟨o',es',ep',ho',r'⟩:=hm
  rw[ho]at ho';cases ho'
  exact⟨_,es',ep',hL,r'⟩) hok I.bare
theorem Inv.call {g':Array GenState}{t':Nat}{d':Drawn}{ch:List Addr}(I:Inv X pins σ H s)(u:Un (frs X.stack) ch H H' s.heap h')(hok:HOk X.prog X.w H' h')(hg:AllBare g')
  (hch:∀ b∈ch,(b∈X.ex\/X.s₀.heap.objs.size<=b)/\b≠X.env.locals/\(∀ x c,X.env.cells.lookup x=some c->c≠b)/\∀ p∈X.pn++pins,p.1≠b):
  Inv X pins σ H' {s with heap:=h',gens:=g',drawn:=d',toks:=t'} :=by
 obtain⟨m,⟨o,es,ep,ho,r⟩,_⟩:=id I.loc
 obtain⟨sl,hL⟩:=u.any ho I.free λz=>(hch _ z).2.1 rfl
 exact I.step (ch:=ch) hch (λb o hL hb hc e n=>u.keep b o e n (λz=>(aG.mp (I.lJ b z)).elim hL hb) hc) (λb o _ _ hc e n=>u.any e n hc) (λb o hc e n=>u.free b o e n hc) (λb o hc e=>u.there b o e hc) u.jF u.nV u.oM (λm' hm=>by
  obtain⟨o',es',ep',ho',r'⟩:=hm
  rw[ho]at ho';cases ho'
  exact⟨_,es',ep',hL,r'⟩) hok hg
theorem Inv.turned {t':Nat}{it:Addr}(I:Inv X pins σ H s)(k:∀ b o,b≠it->s.heap.get? b=some o->h'.get? b=some o)(hn:H it=none)(hL:it≠X.env.locals)
  (h1:it∈X.ex\/X.s₀.heap.objs.size<=it) (h2:∀ x c,X.env.cells.lookup x=some c->c≠it) (h3:∀ p∈X.pn++pins,p.1≠it):Inv X pins σ H {s with heap:=h',toks:=t'} :=by
 have nit:∀ b u,H b=some u->b≠it:=λb u e z=>by rw[z,hn]at e;cases e
 refine I.step (g':=s.gens) (d':=s.drawn) (ch:=[it]) (λb hb=>?_) (λb o _ _ hc e _=>k b o (λz=>hc (by simp[z])) e) (λb o _ _ hc e _=>⟨o.slots,k b o (λz=>hc (by simp[z])) e⟩) (λ_ _ _ _ n=>n)
  (λb o hc e=>⟨o,k b o (λz=>hc (by simp[z])) e⟩) (λ_ _ e=>e) (λ_ _ _ e=>e) (λb ps e=>⟨#[],by rw[e];simp⟩) (λm hm=>?_) (λb u e=>?_) I.bare
 ·have e:b=it:=by simpa using hb
  subst e
  exact⟨h1,hL,h2,h3⟩
 ·obtain⟨o,es,ep,ho,r⟩:=hm
  exact⟨o,es,ep,k _ o (bK hL) ho,r⟩
 ·refine(I.hok b u e).ot (λc v hc q=>k c v ?_ q) (λ_ q=>q) λ_ _ q=>q
  rcases hc with z |z
  ·rw[z];exact nit b u e
  ·exact nit c _ z
theorem Inv.tok (I:Inv X pins σ H s)(t:Nat):Inv X pins σ H {s with toks:=t} :=I.un (h':=s.heap) (t':=t) Un.refl I.hok
theorem Inv.kept {t':Nat}(I:Inv X pins σ H s)(k:∀ b u,s.heap.get? b=some u->h'.get? b=some u):Inv X pins σ H {s with heap:=h',toks:=t'} :=I.un (Un.kept k) (I.hok.kept k)
theorem Inv.laid {a:Addr}{o:HO}{t':Nat}(I:Inv X pins σ H s)(k:∀ b u,s.heap.get? b=some u->h'.get? b=some u)(hp:s.heap.objs.size<=a)(new:gD X.prog X.w (upd H a o) h' a o):
  Inv X pins σ (upd H a o) {s with heap:=h',toks:=t'} :=I.un (Un.laid k hp (I.hok.fresh hp)) (I.hok.laid k hp new)
theorem Inv.write {x e:Addr}{o:HO}{t':Nat}(I:Inv X pins σ H s)(mu:Mut (H x))(he:e=x\/H e=some (.own x))(k:∀ b u,b≠e->s.heap.get? b=some u->h'.get? b=some u)(heo:∃ u,h'.get? e=some u)
  (new:gD X.prog X.w (upd H x o) h' x o):Inv X pins σ (upd H x o) {s with heap:=h',toks:=t'} :=I.un (Un.write mu he k heo) (I.hok.write mu he k heo new)
theorem Inv.weak {σ':List (Option V)}(I:Inv X pins σ H s)(hl:σ'.length=σ.length)(w:∀ (i:Nat) v,σ'[i]? = some (some v)->σ[i]? = some (some v)):Inv X pins σ' H s:=
 ⟨I.ok,I.os,I.bare,I.base,let ⟨m,hn,hl'⟩:=I.loc;⟨m,hn,λi x v e1 e2 e3=>hl' i x v e1 (w i v e2) e3⟩,I.cell,I.free,I.jE,I.pin,I.hok,hl.trans I.len⟩
theorem Inv.yB {rH:List (Addr×Obj)}(I:Inv X pins σ H s)(h:∀ p∈rH,s.heap.get? p.1=some p.2/\H p.1=none/\p.1≠X.env.locals/\p.1∉X.fs/\∀ v,p.2.data≠ .cell v):Inv X rH σ H s:=
 ⟨I.ok,I.os,I.bare,I.base,I.loc,I.cell,I.free,I.jE,λp hp=>(aC.mp hp).elim (λz=>I.pin p (bo _ z)) (h p),I.hok,I.len⟩
theorem wt {N:List Str}(hN:N.Nodup){i j:Nat}{x:Str}(a:N[i]? = some x)(b:N[j]? = some x):i=j:=by
 obtain⟨h1,e1⟩:=ag.mp a
 obtain⟨h2,e2⟩:=ag.mp b
 exact(eu hN).mp (e1.trans e2.symm)
theorem pK {M:Model}{A:Around}{E:Value->Shared->Prop}{i:Nat}{x:Str}{v:V}{u:Value}{Q:Unit->Shared->Prop}(I:Inv X pins σ H s)(hN:X.N.Nodup)(hi:X.N[i]? = some x)(hx:Loc X.env.scope x)(r:RelV v u)
  (h:∀ s',Inv X pins (σ.set i (some v)) H s'->(∃ a,Heap.SameBut a s.heap s'.heap/\(a=X.env.locals\/X.env.cells.lookup x=some a))->Q () s') (hf:X.fn x=true\/X.env.scope.names.lookup x=some .local:=by first |exact .inl rfl |exact .inr rfl |assumption):wpAny M A (storeName X.env x u) Q E s:=by
 obtain⟨m,hn,hl⟩:=id I.loc
 have KZ:(X.env.scope.kind == .class||(X.env.scope.kind == .module&&X.env.locals !=X.env.globals))=false:=by rw[I.ok.kind];rfl
 have hiσ:i<σ.length:=by rw[I.len];exact(ag.mp hi).1
 have cne:=I.cne
 have tracked:∀ {a:Addr}{h':Heap},(∃ o,s.heap.get? a=some o/\H a=none)->Heap.SameBut a s.heap h'->HOk X.prog X.w H h':=λ{a h'} ha hs b ob e=>by
  obtain⟨_,_,jD⟩:=ha
  refine(I.hok b ob e).ot (λc w' hc q=>(hs.2 c ?_).trans q) (λ_ q=>q) λ_ _ q=>q
  rintro rfl
  rcases hc with rfl |hc
  ·rw[jD]at e;cases e
  ·rw[jD]at hc;cases hc
 rcases hx with hk |hk
 ·refine wpAny_storeName_local hk hn (λh' hn' hs=>?_) KZ
  obtain⟨oL,_,_,hoL,_⟩:=id hn
  refine h _ ⟨I.ok,I.os,I.bare,⟨λb o e n hb hx=>?_,λb o e n hb hx=>?_,I.base.free,λb o e hx=>?_,I.base.jF,I.base.nV,I.base.oM⟩,⟨_,hn',λj y v' e1 e2 e3=>?_⟩,λy c e=>?_,I.free,I.jE,λp hp=>?_,tracked ⟨oL,hoL,I.free⟩ hs,by simpa using I.len⟩ ⟨_,hs,.inl rfl⟩
  ·exact(hs.2 b (aI (aU (ay e) I.ok.above))).trans (I.base.keep b o e n hb hx)
  ·obtain⟨sl,e1⟩:=I.base.slot b o e n hb hx
   exact⟨sl,(hs.2 b (aI (aU (ay e) I.ok.above))).trans e1⟩
  ·obtain⟨o',e1⟩:=I.base.there b o e hx
   exact⟨o',(hs.2 b (aI (aU (ay e) I.ok.above))).trans e1⟩
  ·by_cases hj:j=i
   ·subst hj
    rw[hi]at e1;cases e1
    rw[List.getElem?_set_self hiσ]at e2
    cases e2
    exact⟨u,r,.inl ⟨hk,by simp⟩⟩
   ·rw[List.getElem?_set_ne (bK hj)]at e2
    obtain⟨u',r',q⟩:=hl j y v' e1 e2 e3
    refine⟨u',r',?_⟩
    rcases q with⟨k,e⟩|⟨k,c,e,z⟩
    ·refine .inl ⟨k,?_⟩
     have:y≠x:=λe=>hj (wt hN e1 (e ▸ hi))
     simp[this,e]
    ·exact .inr ⟨k,c,e,z.sameBut hs (cne y c e)⟩
  ·obtain⟨w',z⟩:=I.cell y c e
   exact⟨w',z.sameBut hs (cne y c e)⟩
  ·obtain⟨e,n,ne,nf,d⟩:=I.pin p hp
   exact⟨(hs.2 p.1 ne).trans e,n,ne,nf,d⟩
 ·have hfn:X.fn x=true:=by
   rcases hf with z |z
   ·exact z
   ·rw[z]at hk;cases hk
  obtain⟨c,hc⟩:=I.ok.has x (.inl hk)
  obtain⟨w',z⟩:=I.cell x c hc
  refine wpAny_storeName_cell I.ok.kind hk hc z (λh' hc' hs=>?_)
  obtain⟨oc,hoc,KR⟩:=id z
  refine h {s with heap:=h'} ⟨I.ok,I.os,I.bare,⟨λb o e n hb hx=>?_,λb o e n hb hx=>?_,I.base.free,λb o e hx=>?_,I.base.jF,I.base.nV,I.base.oM⟩,⟨m,hn.sameBut hs (bK (cne x c hc)),λj y v' e1 e2 e3=>?_⟩,λy c' e=>?_,I.free,I.jE,λp hp=>?_,tracked ⟨oc,hoc,I.jE x c hc⟩ hs,by simpa using I.len⟩ ⟨c,hs,.inr hc⟩
  ·exact(hs.2 b (aI (aU (ay e) (I.ok.cab x c hfn hc)))).trans (I.base.keep b o e n hb hx)
  ·obtain⟨sl,e1⟩:=I.base.slot b o e n hb hx
   exact⟨sl,(hs.2 b (aI (aU (ay e) (I.ok.cab x c hfn hc)))).trans e1⟩
  ·obtain⟨o',e1⟩:=I.base.there b o e hx
   exact⟨o',(hs.2 b (aI (aU (ay e) (I.ok.cab x c hfn hc)))).trans e1⟩
  ·by_cases hj:j=i
   ·subst hj
    rw[hi]at e1;cases e1
    rw[List.getElem?_set_self hiσ]at e2
    cases e2
    exact⟨u,r,.inr ⟨.inl hk,c,hc,hc'⟩⟩
   ·rw[List.getElem?_set_ne (bK hj)]at e2
    obtain⟨u',r',q⟩:=hl j y v' e1 e2 e3
    refine⟨u',r',?_⟩
    rcases q with q |⟨k,c',e,z'⟩
    ·exact .inl q
    ·refine .inr ⟨k,c',e,z'.sameBut hs ?_⟩
     rintro rfl
     exact hj (wt hN e1 (I.ok.inj _ _ _ e hc ▸ hi))
  ·by_cases hcc:c'=c
   ·subst hcc;exact⟨_,hc'⟩
   ·obtain⟨w2,z2⟩:=I.cell y c' e
    exact⟨w2,z2.sameBut hs hcc⟩
  ·obtain⟨e,n,ne,nf,d⟩:=I.pin p hp
   refine⟨(hs.2 p.1 ?_).trans e,n,ne,nf,d⟩
   intro q
   rw[q,hoc]at e
   have q':oc=p.2:=bh e
   exact d w' (by rw[<-q'];exact KR)
theorem rf {M:Model}{A:Around}{E:Value->Shared->Prop}{i:Nat}{x:Str}{v:V}{u:Value}{Q:Unit->Shared->Prop}(I:Inv X pins σ H s)(hN:X.N.Nodup)(hi:X.N[i]? = some x)(hx:Loc X.env.scope x)(r:RelV v u)
  (h:∀ s',Inv X pins (σ.set i (some v)) H s'->Q () s') (hf:X.fn x=true\/X.env.scope.names.lookup x=some .local:=by first |exact .inl rfl |exact .inr rfl |assumption):wpAny M A (storeName X.env x u) Q E s:=
 pK I hN hi hx r (λs' I' _=>h s' I') hf
theorem Inv.DD {s':Shared}{ch:List Addr}(I:Inv X pins σ H s)(ho:s'.os=s.os)(u:Un (frs X.stack) ch H H' s.heap s'.heap)(hok:HOk X.prog X.w H' s'.heap)(hg:AllBare s'.gens)
  (hch:∀ b∈ch,(b∈X.ex\/X.s₀.heap.objs.size<=b)/\b≠X.env.locals/\(∀ x c,X.env.cells.lookup x=some c->c≠b)/\∀ p∈X.pn++pins,p.1≠b):Inv X pins σ H' s':=by
 obtain⟨h',g',d',t',o'⟩:=s'
 have e:o'=s.os:=ho
 subst e
 exact I.call (g':=g') (t':=t') (d':=d') u hok hg hch
end
abbrev XK:=Value->Option Addr->Hp->Prop
abbrev St:=List (Option V)
abbrev VK:=V->Hp->Prop
abbrev TE:=St->Hp->VK->Prop
abbrev TT:=St->Hp->(Bool->Hp->Prop)->Prop
abbrev TA:=St->Hp->(List V->Hp->Prop)->Prop
structure Ends where
 nx:St->Hp->Prop
 rt:VK
 bk:St->Hp->Prop:=λ_ _=>False
 ct:St->Hp->Prop:=λ_ _=>False
abbrev TS:=Ends->St->Hp->Prop
def EP (X:Cx)(pins:List (Addr×Obj))(σ:St)(Q:VK)(u:Value)(s':Shared):Prop:=∃ v H',Inv X pins σ H' s'/\RelV v u/\Q v H'
def TP (X:Cx)(pins:List (Addr×Obj))(σ:St)(Q:Bool->Hp->Prop)(b:Bool)(s':Shared):Prop:=∃ H',Inv X pins σ H' s'/\Q b H'
def AP (X:Cx)(pins:List (Addr×Obj))(σ:St)(Q:List V->Hp->Prop)(us:List Value)(s':Shared):Prop:=∃ vs H',Inv X pins σ H' s'/\Vals vs us/\Q vs H'
def SP (X:Cx)(pins:List (Addr×Obj))(D:Ends)(f:Flow)(s':Shared):Prop:=
 match f with
 |.next=>∃ σ' H',Inv X pins σ' H' s'/\D.nx σ' H'
 |.brk=>∃ σ' H',Inv X pins σ' H' s'/\D.bk σ' H'
 |.cont=>∃ σ' H',Inv X pins σ' H' s'/\D.ct σ' H'
 |.ret u=>∃ v σ' H',Inv X pins σ' H' s'/\RelV v u/\D.rt v H'
def PE (X:Cx)(e:Expr)(t:TE):Prop:=
 ∀ (pins:List (Addr×Obj)) (s:Shared) (σ:St) (H:Hp) (Q:VK),Inv X pins σ H s->t σ H Q->wpAny (model X.prog X.w) X.A (eval e X.env) (EP X pins σ Q) X.xe s
def PT (X:Cx)(e:Expr)(t:TT):Prop:=
 ∀ (pins:List (Addr×Obj)) (s:Shared) (σ:St) (H:Hp) (Q:Bool->Hp->Prop),Inv X pins σ H s->t σ H Q->wpAny (model X.prog X.w) X.A (isTrue e X.env (eval e X.env)) (TP X pins σ Q) X.xe s
def PW (X:Cx)(e:Expr)(t:TT):Prop:=
 ∀ (whole:Sem Value) (pins:List (Addr×Obj)) (s:Shared) (σ:St) (H:Hp) (Q:Bool->Hp->Prop),Inv X pins σ H s->t σ H Q->wpAny (model X.prog X.w) X.A (isTrue e X.env whole) (TP X pins σ Q) X.xe s
theorem PW.pt {X:Cx}{e:Expr}{t:TT}(h:PW X e t):PT X e t:=h _
def PA (X:Cx)(es:List Expr)(t:TA):Prop:=
 ∀ (pos:Pos) (pins:List (Addr×Obj)) (s:Shared) (σ:St) (H:Hp) (Q:List V->Hp->Prop),Inv X pins σ H s->t σ H Q->wpAny (model X.prog X.w) X.A (spliced (backTo pos (starEach es X.env))) (AP X pins σ Q) X.xe s
def PS (X:Cx)(st:Stmt)(t:TS):Prop:=
 ∀ (pins:List (Addr×Obj)) (s:Shared) (σ:St) (H:Hp) (D:Ends),Inv X pins σ H s->t D σ H->wpAny (model X.prog X.w) X.A (exec st X.env) (SP X pins D) X.xe s
def PSs (X:Cx)(st:List Stmt)(t:TS):Prop:=
 ∀ (pins:List (Addr×Obj)) (s:Shared) (σ:St) (H:Hp) (D:Ends),Inv X pins σ H s->t D σ H->wpAny (model X.prog X.w) X.A (execs st X.env) (SP X pins D) X.xe s
theorem thn {α:Type}{t:Sem α}{Q Q':α->Shared->Prop}{M:Model}{A:Around}{E:Value->Shared->Prop}{s:Shared}(h:wpAny M A t Q E s)(hQ:∀ a s,Q a s->Q' a s):wpAny M A t Q' E s:=aZ h hQ λ_ _ x=>x
section
variable {X:Cx}
theorem bin {a b:Expr}{ta tb:TE}(ha:PE X a ta)(hb:PE X b tb){pins:List (Addr×Obj)}{s:Shared}{σ:St}{H:Hp}{R:V->V->Hp->Prop}(I:Inv X pins σ H s)(h:ta σ H λx H1=>tb σ H1 λy H2=>R x y H2)
  {α:Type}{Q:α->Shared->Prop}{f:Value->Value->Sem α}
  (hf:∀ v u s2 x y H2,Inv X pins σ H2 s2->RelV x v->RelV y u->R x y H2->wpAny (model X.prog X.w) X.A (f v u) Q X.xe s2):
  wpAny (model X.prog X.w) X.A (eval a X.env) (λv s₁=>wpAny (model X.prog X.w) X.A (eval b X.env) (λu s₂=>wpAny (model X.prog X.w) X.A (f v u) Q X.xe s₂) X.xe s₁) X.xe s:=by
 refine thn (ha pins s σ H _ I h) λv s1 ⟨x,H1,I1,r1,q1⟩=>?_
 refine thn (hb pins s1 σ H1 _ I1 q1) λu s2 ⟨y,H2,I2,r2,q2⟩=>?_
 exact hf v u s2 x y H2 I2 r1 r2 q2
def Fj (i:Nat):TE:=λσ H Q=>∃ v,σ[i]? = some (some v)/\Q v H
def tC (v:V):TE:=λ_ H Q=>Q v H
theorem Eb {i:Nat}{x:Str}{pos:Pos}(hN:X.N[i]? = some x)(hv:Vis X.env.scope x)(hd:(x==("__debug__" :Str))=false:=by decide)(hcd:(x==("__classdict__" :Str))=false:=by decide):PE X (.Name x pos) (Fj i):=by
 intro pins s σ H Q I h
 obtain⟨v,e,h⟩:=h
 obtain⟨m,hn,hl⟩:=I.loc
 obtain⟨u,r,l⟩:=hl i x v hN e hv
 have fin:EP X pins σ Q u s:=⟨v,H,I,r,h⟩
 rcases l with⟨hk,hm⟩|⟨hk,c,hc,yX⟩
 ·exact wpAny_Name (wpAny_loadName_local I.ok.kind hk hn hm fin) hd
 ·rcases hk with hk |hk
  ·exact wpAny_Name (wpAny_loadName_cell I.ok.kind hk hc yX fin) hd
  ·exact wpAny_Name (wpAny_loadName_free I.ok.kind hk hc yX fin hcd) hd
theorem eK {i j pos} :PE X (.Constant (.int i) j pos) (tC (.int i)):=λ_ _ _ H _ I h=>wpAny_Constant_int ⟨.int i,H,I.tok _,⟨_,rfl⟩,h⟩
theorem i7 {b j pos} :PE X (.Constant (.bool b) j pos) (tC (.bl b)):=λ_ _ _ H _ I h=>Constant_bool ⟨.bl b,H,I,rfl,h⟩
theorem uP {j pos} :PE X (.Constant .none j pos) (tC .non):=λ_ _ _ H _ I h=>Constant_none ⟨.non,H,I,rfl,h⟩
theorem g8 {x j pos} :PE X (.Constant (.str x) j pos) (tC (.str x)):=λ_ _ _ H _ I h=>Calls.Constant_str ⟨.str x,H,I.tok _,⟨_,rfl⟩,h⟩
def Gl (X:Cx)(x:Str):Prop:=X.env.kindOf x=some .globalImplicit
theorem nO {E:Value->Shared->Prop}{pins:List (Addr×Obj)}{s:Shared}{σ:St}{H:Hp}{x:Str}{u:Value}{pos:Pos}{Q:Value->Shared->Prop}(I:Inv X pins σ H s)(hg:Gl X x)(hm:X.mg x=some u)(h:Q u s)
  (hd:(x==("__debug__" :Str))=false:=by decide):wpAny (model X.prog X.w) X.A (eval (.Name x pos) X.env) Q E s:=
 Calls.Name_function_global I.ok.kind hg (Calls.loadGlobal_global (by rw[I.ok.glob];exact I.mod.glob.keeps I.bk) hm h) hd
theorem oy {E:Value->Shared->Prop}{pins:List (Addr×Obj)}{s:Shared}{σ:St}{H:Hp}{x:Str}{u:Value}{pos:Pos}{Q:Value->Shared->Prop}(I:Inv X pins σ H s)(hg:Gl X x)(hm:X.mg x=none)(hv:bootBuiltins x=some u)(h:Q u s)
  (hn:x≠ "__name__" :=by decide) (hd:(x==("__debug__" :Str))=false:=by decide):wpAny (model X.prog X.w) X.A (eval (.Name x pos) X.env) Q E s:=by
 obtain⟨mb,h1,h2⟩:=I.mod.blt
 exact Calls.Name_function_global I.ok.kind hg (Calls.loadGlobal_builtin (by rw[I.ok.glob];exact I.mod.glob.keeps I.bk) hm (by rw[I.ok.blt];exact h1.keeps I.bk) ((h2 x hn).trans hv) h) hd
theorem yE {x:Str}{v:V}{u:Value}{pos:Pos}(hg:Gl X x)(hm:X.mg x=some u)(r:RelV v u)(hd:(x==("__debug__" :Str))=false:=by decide):PE X (.Name x pos) (tC v):=
 λ_ _ _ H _ I h=>nO I hg hm ⟨v,H,I,r,h⟩ hd
theorem CD {x:Str}{v:V}{u:Value}{pos:Pos}(hg:Gl X x)(hm:X.mg x=none)(hv:bootBuiltins x=some u)(r:RelV v u)(hn:x≠ "__name__" :=by decide)(hd:(x==("__debug__" :Str))=false:=by decide):PE X (.Name x pos) (tC v):=
 λ_ _ _ H _ I h=>oy I hg hm hv ⟨v,H,I,r,h⟩ hn hd
def t2I (ta tb:TE)(k:Int->Int->Hp->Prop):St->Hp->Prop:=λσ H=>ta σ H λx H1=>tb σ H1 λy H2=>∃ i j,x = .int i/\y = .int j/\k i j H2
variable {a b:Expr}{ta tb:TE}{pos:Pos}
def PC (X:Cx)(op:CmpOp)(a b:Expr)(t:TE):Prop:=
 ∀ (pins:List (Addr×Obj)) (s:Shared) (σ:St) (H:Hp) (Q:VK),Inv X pins σ H s->t σ H Q->
  wpAny (model X.prog X.w) X.A (eval a X.env) (λv s₁=>wpAny (model X.prog X.w) X.A (eval b X.env) (λu s₂=>wpAny (model X.prog X.w) X.A (compareOp op v u) (EP X pins σ Q) X.xe s₂) X.xe s₁) X.xe s
theorem wu (b:Expr){op:CmpOp}(h:op≠ .In)(h2:op≠ .NotIn):behindInMarks op b=false:=by
 have e1:(op==CmpOp.In)=false:=by cases op<;>first |rfl |exact absurd rfl h
 have e2:(op==CmpOp.NotIn)=false:=by cases op<;>first |rfl |exact absurd rfl h2
 cases b<;>simp[behindInMarks,e1,e2]
def xx (p:Int->Int->Bool)(ta tb:TE):TE:=λσ H Q=>t2I ta tb (λi j H2=>Q (.bl (p i j)) H2) σ H
abbrev tLt:TE->TE->TE:=xx λi j=>decide (i<j)
abbrev tLe:TE->TE->TE:=xx λi j=>decide (i<=j)
abbrev tGt:TE->TE->TE:=xx λi j=>decide (j<i)
abbrev tGe:TE->TE->TE:=xx λi j=>decide (j<=i)
abbrev HG:TE->TE->TE:=xx λi j=>decide (i=j)
abbrev HB:TE->TE->TE:=xx λi j=> !decide (i=j)
theorem pP {op:CmpOp}{p:Int->Int->Bool}(ha:PE X a ta)(hb:PE X b tb)
  (rule:∀ (i j:Int) (t u:Tok) (Q:Value->Shared->Prop) (s:Shared),Q (.bool (p i j)) s->wpAny (model X.prog X.w) X.A (compareOp op (.int i t) (.int j u)) Q X.xe s):PC X op a b (xx p ta tb):=by
 intro pins s σ H Q I h
 refine bin ha hb I h λv u s2 x y H2 I2 rx ry q=>?_
 obtain⟨i,j,rfl,rfl,q⟩:=q
 obtain⟨t,rfl⟩:=rx
 obtain⟨t',rfl⟩:=ry
 exact rule i j t t' _ s2 ⟨.bl _,H2,I2,rfl,q⟩
theorem n8 (ha:PE X a ta)(hb:PE X b tb):PC X .Lt a b (tLt ta tb):=pP ha hb λ_ _ _ _ _ _ h=>lt_int h
theorem FT (ha:PE X a ta)(hb:PE X b tb):PC X .LtE a b (tLe ta tb):=pP ha hb λ_ _ _ _ _ _ h=>le_int h
theorem rL (ha:PE X a ta)(hb:PE X b tb):PC X .Gt a b (tGt ta tb):=pP ha hb λ_ _ _ _ _ _ h=>gt_int h
theorem FU (ha:PE X a ta)(hb:PE X b tb):PC X .GtE a b (tGe ta tb):=pP ha hb λ_ _ _ _ _ _ h=>ge_int h
theorem iT (ha:PE X a ta)(hb:PE X b tb):PC X .Eq a b (HG ta tb):=pP ha hb λ_ _ _ _ _ _ h=>eq_int (by rw[Bool.beq_eq_decide_eq];exact h)
theorem ox (ha:PE X a ta)(hb:PE X b tb):PC X .NotEq a b (HB ta tb):=pP ha hb λ_ _ _ _ _ _ h=>ne_int (by rw[bne,Bool.beq_eq_decide_eq];exact h)
def Fq (ta:TE):TE:=λσ H Q=>ta σ H λx H1=>Q (.bl (!decide (x = .non))) H1
theorem RelV.A9 {x:V}{v:Value}(r:RelV x v):(v==Value.none)=decide (x = .non):=by
 cases x with
 |non=>cases r;rfl
 |bl _=>cases r;rfl
 |int _=>obtain⟨t,rfl⟩:=r;rfl
 |str _=>obtain⟨t,rfl⟩:=r;rfl
 |byt _=>obtain⟨t,rfl⟩:=r;rfl
 |flt _=>obtain⟨t,rfl⟩:=r;rfl
 |ref _=>cases r;rfl
 |ty _=>cases r;rfl
theorem yF {j pos'}(ha:PE X a ta):PC X .IsNot a (.Constant .none j pos') (Fq ta):=by
 intro pins s σ H Q I h
 refine thn (ha pins s σ H _ I h) λv s1 ⟨x,H1,I1,r1,q1⟩=>?_
 exact Constant_none (isnot_none_gen ⟨.bl _,H1,I1,by rw[r1.A9];rfl,q1⟩)
def tB (t:TE):TT:=λσ H Q=>t σ H λx H1=>∃ c,x = .bl c/\Q c H1
theorem A3 {op:CmpOp}{t:TE}(h:PC X op a b t)(h1:behindInMarks op b=false:=by first |exact wu _ (by decide) (by decide)|rfl):PE X (.Compare a [op] [b] pos) t:=λpins s σ H Q I hw=>wpAny_Compare1 (h pins s σ H Q I hw) h1
theorem ft {op:CmpOp}{t:TE}(h:PC X op a b t)(h1:behindInMarks op b=false:=by first |exact wu _ (by decide) (by decide)|rfl):PT X (.Compare a [op] [b] pos) (tB t):=by
 intro pins s σ H Q I hw
 refine wpAny_isTrue_Compare1 (thn (h pins s σ H _ I hw) λv s1 h1=>thn h1 λu s2 h2=>thn h2 λc s3 ⟨x,H1,I1,r1,q1⟩=>?_) h1
 obtain⟨d,rfl,q⟩:=q1
 cases r1
 exact cu ⟨H1,I1,q⟩
theorem rG {e:Expr}{t:TE}(h:PE X e t)(he:∀ whole,isTrue e X.env whole=(do let v <-whole;standAt e.pos;holding [v] (truthy v)):=by intro _;rfl):PT X e (tB t):=by
 intro pins s σ H Q I hw
 refine isTrue_plain (thn (h pins s σ H _ I hw) λv s1 ⟨x,H1,I1,r1,q1⟩=>?_) (he _)
 obtain⟨d,rfl,q⟩:=q1
 cases r1
 exact cu ⟨H1,I1,q⟩
variable {tA tB':TT}{rest:List Expr}
def HK (t u:TT):TT:=λσ H Q=>t σ H λc H1=>if c=true then u σ H1 Q else Q false H1
def tOr (t u:TT):TT:=λσ H Q=>t σ H λc H1=>if c=true then Q true H1 else u σ H1 Q
def Hz (t:TT):TT:=λσ H Q=>t σ H λc H1=>Q (!c) H1
theorem mq (ha:PT X a tA):PW X (.BoolOp .And [a] pos) tA:=by
 intro wh pins s σ H Q I h
 refine isTrue_and (thn (ha pins s σ H Q I h) λc s1 e=>?_)
 cases c with
 |true=>exact isTrue_and_nil e
 |false=>exact e
theorem pN (ha:PT X a tA):PW X (.BoolOp .Or [a] pos) tA:=by
 intro wh pins s σ H Q I h
 refine isTrue_or (thn (ha pins s σ H Q I h) λc s1 e=>?_)
 cases c with
 |false=>exact isTrue_or_nil e
 |true=>exact e
theorem mM (ha:PT X a tA)(hb:PW X (.BoolOp .And (b::rest) pos) tB'):PW X (.BoolOp .And (a::b::rest) pos) (HK tA tB'):=by
 intro wh pins s σ H Q I h
 refine isTrue_and (thn (ha pins s σ H _ I h) λc s1 ⟨H1,I1,q1⟩=>?_)
 cases c with
 |true=>exact hb wh pins s1 σ H1 Q I1 q1
 |false=>exact⟨H1,I1,q1⟩
theorem oU (ha:PT X a tA)(hb:PW X (.BoolOp .Or (b::rest) pos) tB'):PW X (.BoolOp .Or (a::b::rest) pos) (tOr tA tB'):=by
 intro wh pins s σ H Q I h
 refine isTrue_or (thn (ha pins s σ H _ I h) λc s1 ⟨H1,I1,q1⟩=>?_)
 cases c with
 |true=>exact⟨H1,I1,q1⟩
 |false=>exact hb wh pins s1 σ H1 Q I1 q1
theorem pO (ha:PT X a tA):PT X (.UnaryOp .Not a pos) (Hz tA):=by
 intro pins s σ H Q I h
 exact isTrue_not (ha pins s σ H (λc H1=>Q (!c) H1) I h)
def tIf (t:TT)(ta tb:TE):TE:=λσ H Q=>t σ H λc H1=>if c=true then ta σ H1 Q else tb σ H1 Q
theorem AW {c:Expr}(hc:PT X c tA)(ha:PE X a ta)(hb:PE X b tb):PE X (.IfExp c a b pos) (tIf tA ta tb):=by
 intro pins s σ H Q I h
 refine wpAny_IfExp (thn (hc pins s σ H _ I h) λd s1 ⟨H1,I1,q1⟩=>?_)
 cases d with
 |true=>exact ha pins s1 σ H1 Q I1 q1
 |false=>exact hb pins s1 σ H1 Q I1 q1
end
def SqL (K:PySem.W.Frag)(H:Hp)(a:Addr)(xs:List V):Prop:=
 Rd H a (.lst xs)\/
  ∃ (o:Obj) (its:Array Value) (n:Nat),K.lookup a=some o/\o.cls = .type "list" /\o.dict=none/\o.data = .seq its n/\its.size<=sizeLine/\Vals xs its.toList
def SqT (K:PySem.W.Frag)(H:Hp)(a:Addr)(xs:List V):Prop:=
 Rd H a (.tup xs)\/
  ∃ (o:Obj) (its:Array Value) (n:Nat),K.lookup a=some o/\o.cls = .type "tuple" /\o.data = .seq its n/\its.size<=sizeLine/\Vals xs its.toList
def M3:Value->Option V
 |.none=>some .non
 |.bool b=>some (.bl b)
 |.int i _=>some (.int i)
 |.str x _=>some (.str x)
 |.bytes b _=>some (.byt b)
 |.float b _=>some (.flt b)
 |.ref a=>some (.ref a)
 |.type n=>some (.ty n)
 |_=>none
theorem RelV.abs {x:V}{u:Value}(r:RelV x u):M3 u=some x:=by
 cases x with
 |non=>cases r;rfl
 |bl _=>cases r;rfl
 |int _=>obtain⟨t,rfl⟩:=r;rfl
 |str _=>obtain⟨t,rfl⟩:=r;rfl
 |byt _=>obtain⟨t,rfl⟩:=r;rfl
 |flt _=>obtain⟨t,rfl⟩:=r;rfl
 |ref _=>cases r;rfl
 |ty _=>cases r;rfl
theorem RelV.inj {x y:V}{u:Value}(r:RelV x u)(q:RelV y u):x=y:=bh (r.abs.symm.trans q.abs)
theorem Vals.inj:∀ {xs ys:List V}{us:List Value},Vals xs us->Vals ys us->xs=ys
 |_,_,_,.nil,.nil=>rfl
 |_,_,_,.cons r t,.cons r' t'=>by rw[r.inj r',Vals.inj t t']
section
variable {X:Cx}{pins:List (Addr×Obj)}{σ:St}{H:Hp}{s:Shared}{a:Addr}{xs ys:List V}
theorem SqL.of {K:PySem.W.Frag}(h:H a=some (.lst xs)):SqL K H a xs:=.inl (.inl h)
theorem SqT.of {K:PySem.W.Frag}(h:H a=some (.tup xs)):SqT K H a xs:=.inl (.inl h)
theorem Inv.list (I:Inv X pins σ H s)(h:SqL X.K H a xs):∃ its:List Value,Vals xs its/\PlainL s.heap a its.toArray/\xs.length<=sizeLine:=by
 rcases h with h |⟨o,its,n,hk,hc,hd,hs,hz,r⟩
 ·obtain⟨z,its,n,r,e⟩:=h.ok I.hok
  exact⟨its,r,⟨_,n,e,rfl,rfl,rfl⟩,z⟩
 ·refine⟨its.toList,r,⟨o,n,I.kIn a o hk,hc,hd,by simpa using hs⟩,?_⟩
  have e:=r.length
  simp only[aP]at e
  omega
theorem Inv.tuple (I:Inv X pins σ H s)(h:SqT X.K H a xs):∃ its:List Value,Vals xs its/\IsTup s.heap a its.toArray/\xs.length<=sizeLine:=by
 rcases h with h |⟨o,its,n,hk,hc,hs,hz,r⟩
 ·obtain⟨z,its,r,p⟩:=h.ok I.hok
  exact⟨its,r,p,z⟩
 ·refine⟨its.toList,r,⟨o,I.kIn a o hk,hc,n,by simpa using hs⟩,?_⟩
  have e:=r.length
  simp only[aP]at e
  omega
theorem Inv.o5 (I:Inv X pins σ H s)(h:SqL X.K H a xs)(h':SqL X.K H a ys):xs=ys:=by
 obtain⟨its,r,⟨o,n,e,_,_,d⟩,_⟩:=I.list h
 obtain⟨its',r',⟨o',n',e',_,_,d'⟩,_⟩:=I.list h'
 rw[e]at e';cases e'
 rw[d]at d'
 injection d' with d1 _
 have:its=its':=by simpa using bS Array.toList d1
 subst this
 exact r.inj r'
end
abbrev Cx.qS (X:Cx)(E:Value->Shared->Prop):Cx:={X with xe:=E}
abbrev Cx.nox (X:Cx):Cx:=X.qS λ_ _=>False
theorem Cx.Ok.qS {X:Cx}(ok:X.Ok)(E:Value->Shared->Prop):(X.qS E).Ok:=
 ⟨ok.mod,ok.kind,ok.glob,ok.blt,ok.above,ok.inj,ok.has,ok.cab,ok.hd,ok.frames,ok.stk,ok.exf,ok.bs,ok.bsz,ok.xN,ok.Ah,ok.p6,ok.frf⟩
theorem Cx.Ok.mI {X:Cx}{E:Value->Shared->Prop}(ok:(X.qS E).Ok):X.Ok:=
 ⟨ok.mod,ok.kind,ok.glob,ok.blt,ok.above,ok.inj,ok.has,ok.cab,ok.hd,ok.frames,ok.stk,ok.exf,ok.bs,ok.bsz,ok.xN,ok.Ah,ok.p6,ok.frf⟩
section
variable {X:Cx}{pins:List (Addr×Obj)}{σ:St}{H:Hp}{s:Shared}{E:Value->Shared->Prop}
theorem Inv.qS (I:Inv X pins σ H s)(E:Value->Shared->Prop):Inv (X.qS E) pins σ H s:=⟨I.ok.qS E,I.os,I.bare,I.base,I.loc,I.cell,I.free,I.jE,I.pin,I.hok,I.len⟩
theorem Inv.mI (I:Inv (X.qS E) pins σ H s):Inv X pins σ H s:=⟨I.ok.mI,I.os,I.bare,I.base,I.loc,I.cell,I.free,I.jE,I.pin,I.hok,I.len⟩
theorem SP.mI {D:Ends}{f:Flow}{s':Shared}(h:SP (X.qS E) pins D f s'):SP X pins D f s':=by
 cases f with
 |next=>obtain⟨σ',H',I,q⟩:=h;exact⟨σ',H',I.mI,q⟩
 |brk=>obtain⟨σ',H',I,q⟩:=h;exact⟨σ',H',I.mI,q⟩
 |cont=>obtain⟨σ',H',I,q⟩:=h;exact⟨σ',H',I.mI,q⟩
 |ret u=>obtain⟨v,σ',H',I,r,q⟩:=h;exact⟨v,σ',H',I.mI,r,q⟩
theorem PSs.nox {st:List Stmt}{t:TS}(h:PSs X.nox st t):PSs X st t:=λpins s σ H D I hw=>
 aZ (h pins s σ H D (I.qS _) hw) (λ_ _ q=>q.mI) λ_ _ z=>False.elim z
end
section
variable {X:Cx}{st:Stmt}{rest:List Stmt}{t u:TS}{e:Expr}{te:TE}{pos:Pos}
def Fs:TS:=λD σ H=>D.nx σ H
def nT (t u:TS):TS:=λD σ H=>t {D with nx:=u D} σ H
theorem fk:PSs X [] Fs:=λ_ _ σ H _ I h=>dX ⟨σ,H,I,h⟩
theorem eJ (h1:PS X st t)(h2:PSs X rest u):PSs X (st::rest) (nT t u):=by
 intro pins s σ H D I h
 refine wpAny_execs_cons (thn (h1 pins s σ H {D with nx:=u D} I h) λf s1 q=>?_)
 cases f with
 |next=>
  obtain⟨σ',H',I',q⟩:=q
  exact h2 pins s1 σ' H' D I' q
 |ret v=>exact q
 |brk=>exact q
 |cont=>exact q
theorem eL (h1:PS X st t):PSs X [st] t:=by
 intro pins s σ H D I h
 refine wpAny_execs_cons (thn (h1 pins s σ H D I h) λf s1 q=>?_)
 cases f with
 |next=>exact dX q
 |ret v=>exact q
 |brk=>exact q
 |cont=>exact q
theorem Inv.quiet {pins:List (Addr×Obj)}{σ:St}{H:Hp}{s:Shared}(I:Inv X pins σ H s):interactive X.env=false:=by simp[interactive,I.ok.kind]
def Fu (te:TE):TS:=λD σ H=>te σ H λ_ H1=>D.nx σ H1
theorem gH (he:PE X e te)(hs:swapsWith e none pos.line X.env=pure false:=by rfl):PS X (.Expr e pos) (Fu te):=by
 intro pins s σ H D I h
 exact wpAny_Expr_any (thn (he pins s σ H _ I h) λv s1 ⟨x,H1,I1,r1,q1⟩=>⟨σ,H1,I1,q1⟩) I.quiet hs
def Hy (te:TE):TS:=λD σ H=>te σ H D.rt
theorem fm (he:PE X e te):PS X (.Return (some e) pos) (Hy te):=by
 intro pins s σ H D I h
 exact wpAny_Return_some (thn (he pins s σ H _ I h) λv s1 ⟨x,H1,I1,r1,q1⟩=>⟨x,σ,H1,I1,r1,q1⟩)
def HD (c:TT)(t u:TS):TS:=λD σ H=>c σ H λb H1=>if b=true then t D σ H1 else u D σ H1
theorem fQ {c:Expr}{a b:List Stmt}{tc:TT}(hc:PT X c tc)(ha:PSs X a t)(hb:PSs X b u):PS X (.If c a b pos) (HD tc t u):=by
 intro pins s σ H D I h
 refine wpAny_If (thn (hc pins s σ H _ I h) λd s1 ⟨H1,I1,q1⟩=>?_)
 cases d with
 |true=>exact ha pins s1 σ H1 D I1 q1
 |false=>exact hb pins s1 σ H1 D I1 q1
end
abbrev TG:=V->St->Hp->(St->Hp->Prop)->Prop
abbrev TGs:=List V->St->Hp->(St->Hp->Prop)->Prop
def PG (X:Cx)(target:Expr)(t:TG):Prop:=
 ∀ (pins:List (Addr×Obj)) (s:Shared) (σ:St) (H:Hp) (v:V) (u:Value) (Q:St->Hp->Prop),Inv X pins σ H s->RelV v u->t v σ H Q->
  wpAny (model X.prog X.w) X.A (assign target X.env u) (λ_ s'=>∃ σ' H',Inv X pins σ' H' s'/\Q σ' H') X.xe s
def PGs (X:Cx)(ts:List Expr)(t:TGs):Prop:=
 ∀ (pins:List (Addr×Obj)) (s:Shared) (σ:St) (H:Hp) (vs:List V) (us:List Value) (Q:St->Hp->Prop),Inv X pins σ H s->Vals vs us->t vs σ H Q->
  wpAny (model X.prog X.w) X.A (assignInOrder ((assignEach ts X.env).map (·.2)) us) (λ_ s'=>∃ σ' H',Inv X pins σ' H' s'/\Q σ' H') X.xe s
abbrev E3:=V->V->V->Hp->(Hp->Prop)->Prop
def Ho (X:Cx)(t:E3):Prop:=
 ∀ (pins:List (Addr×Obj)) (s:Shared) (σ:St) (H:Hp) (o i v:V) (ov iv u:Value) (Q:Hp->Prop),Inv X pins σ H s->RelV o ov->RelV i iv->RelV v u->t o i v H Q->
  wpAny (model X.prog X.w) X.A (setItem ov iv u) (λ_ s'=>∃ H',Inv X pins σ H' s'/\Q H') X.xe s
abbrev TIp:=V->V->Hp->VK->Prop
def PIp (X:Cx)(op:Operator)(t:TIp):Prop:=
 ∀ (pins:List (Addr×Obj)) (s:Shared) (σ:St) (H:Hp) (x y:V) (v u:Value) (Q:VK),Inv X pins σ H s->RelV x v->RelV y u->t x y H Q->
  wpAny (model X.prog X.w) X.A (inplaceOp op v u) (EP X pins σ Q) X.xe s
section
variable {X:Cx}{pos:Pos}
def mY (i:Nat):TG:=λv σ H Q=>Q (σ.set i (some v)) H
theorem eT {i:Nat}{x:Str}(hN:X.N.Nodup)(hi:X.N[i]? = some x)(hx:Loc X.env.scope x)(hf:X.fn x=true\/X.env.scope.names.lookup x=some .local:=by first |exact .inl rfl |exact .inr rfl |assumption):PG X (.Name x pos) (mY i):=by
 intro pins s σ H v u Q I r h
 exact wpAny_assign_Name (rf I hN hi hx r (λs' I'=>⟨_,H,I',h⟩) hf)
def GY:TGs:=λvs σ H Q=>vs = []/\Q σ H
def Dx (t:TG)(u:TGs):TGs:=λvs σ H Q=>∃ v r,vs=v::r/\t v σ H λσ' H'=>u r σ' H' Q
theorem fZ:PGs X [] GY:=by
 intro pins s σ H vs us Q I r h
 obtain⟨e,h⟩:=h
 subst e
 cases r
 exact assignInOrder_nil ⟨σ,H,I,h⟩
theorem eW {e:Expr}{es:List Expr}{t:TG}{u:TGs}(h1:PG X e t)(h2:PGs X es u)
  (hs:(assignEach (e::es) X.env).map (·.2)=assign e X.env::(assignEach es X.env).map (·.2):=by rfl):PGs X (e::es) (Dx t u):=by
 intro pins s σ H vs us Q I r h
 obtain⟨v,vr,e1,h⟩:=h
 subst e1
 cases r with
 |cons r rr=>
  rw[hs]
  refine assignInOrder_cons (thn (h1 pins s σ H _ _ _ I r h) λ_ s1 ⟨σ1,H1,I1,q1⟩=>?_)
  exact h2 pins s1 σ1 H1 _ _ Q I1 rr q1
def GX (K:PySem.W.Frag)(n:Nat)(t:TGs):TG:=λv σ H Q=>∃ a xs,v = .ref a/\SqT K H a xs/\xs.length=n/\t xs σ H Q
theorem gN {es:List Expr}{k:Nat}{t:TGs}{n:Nat}(hc:X.calm=true)(h:PGs X es t)
  (hn:(assignEach es X.env).length=n:=by rfl) (hst:(assignEach es X.env).findIdx? (·.1)=none:=by rfl):PG X (.Tuple es k pos) (GX X.K n t):=by
 intro pins s σ H v u Q I r hw
 obtain⟨a,xs,e1,hq,hl,hw⟩:=hw
 subst e1
 cases r
 obtain⟨its,rv,ht,hz⟩:=I.tuple hq
 refine assign_Tuple_tuple (I.ok.hd hc) ht (by simp[hn,<-hl,rv.length]) hst λh' hx=>?_
 have I1:Inv X pins σ H {s with heap:=h'} :=I.kept (t':=s.toks) λb o e=>hx b o (aI (ay e)) e
 exact h pins _ σ H xs _ Q I1 (by simpa using rv) hw
def K4 (to ti:TE)(t:E3):TG:=λv σ H Q=>to σ H λo H1=>ti σ H1 λi H2=>t o i v H2 λH3=>Q σ H3
theorem rJ {o i:Expr}{to ti:TE}{t:E3}(ho:PE X o to)(hi:PE X i ti)(hs:Ho X t)
  (ha:∀ v,assign (.Subscript o i pos) X.env v=(do
   let ov <-holding [v] (eval o X.env)
   let iv <-holding [v,ov] (eval i X.env)
   standAt pos
   holding [v,ov,iv] (setItem ov iv v)
   release [v,ov,iv] []):=by intro _;rfl):PG X (.Subscript o i pos) (K4 to ti t):=by
 intro pins s σ H v u Q I r h
 rw[ha]
 refine ae (b9 (thn (ho pins s σ H _ I h) λov s1 ⟨x,H1,I1,r1,q1⟩=>?_))
 refine ae (b9 (thn (hi pins s1 σ H1 _ I1 q1) λiv s2 ⟨y,H2,I2,r2,q2⟩=>?_))
 refine ae (cm (ae (b9 (thn (hs pins s2 σ H2 x y v ov iv u _ I2 r1 r2 r q2) λ_ s3 ⟨H3,I3,q3⟩=>?_))))
 exact wpAny_release ⟨σ,H3,I3,q3⟩
def AD (te:TE)(g:TG):TS:=λD σ H=>te σ H λx H1=>g x σ H1 D.nx
theorem kU {tg e:Expr}{te:TE}{g:TG}(he:PE X e te)(hg:PG X tg g)(hs:swapsWithSole [tg] e pos.line X.env=pure false:=by rfl)(hw:swappedStores [tg] e X.env=pure none:=by rfl)
  (h1:(assignEach [tg] X.env).map (·.2) = [assign tg X.env]:=by rfl):PS X (.Assign [tg] e pos) (AD te g):=by
 intro pins s σ H D I h
 refine wpAny_Assign_stores (thn (he pins s σ H _ I h) λv s1 ⟨x,H1,I1,r1,q1⟩=>?_) hs hw
 rw[h1]
 exact thn (hg pins s1 σ H1 x v _ I1 r1 q1) λ_ s2 q=>q
theorem eY {i:Nat}{x:Str}{e:Expr}{te:TE}{pos':Pos}(hN:X.N.Nodup)(hi:X.N[i]? = some x)(hx:Loc X.env.scope x)(he:PE X e te)(hs:swapsWith e (some (.Name x pos')) pos.line X.env=pure false:=by rfl)(hf:X.fn x=true\/X.env.scope.names.lookup x=some .local:=by first |exact .inl rfl |exact .inr rfl |assumption):
  PS X (.Assign [.Name x pos'] e pos) (AD te (mY i)):=by
 intro pins s σ H D I h
 refine wpAny_Assign_Name (thn (he pins s σ H _ I h) λv s1 ⟨y,H1,I1,r1,q1⟩=>?_) hs
 exact rf I1 hN hi hx r1 (λs2 I2=>⟨_,H1,I2,q1⟩) hf
def HJ (i:Nat)(te:TE)(ti:TIp):TS:=λD σ H=>∃ x,σ[i]? = some (some x)/\te σ H λy H1=>ti x y H1 λz H2=>D.nx (σ.set i (some z)) H2
theorem xE {i:Nat}{x:Str}{e:Expr}{te:TE}{op:Operator}{ti:TIp}{pos':Pos}(hN:X.N.Nodup)(hi:X.N[i]? = some x)(hx:Loc X.env.scope x)(he:PE X e te)(ho:PIp X op ti)(hf:X.fn x=true\/X.env.scope.names.lookup x=some .local:=by first |exact .inl rfl |exact .inr rfl |assumption):
  PS X (.AugAssign (.Name x pos') op e pos) (HJ i te ti):=by
 intro pins s σ H D I h
 obtain⟨v,e1,h⟩:=h
 obtain⟨m,hn,hl⟩:=I.loc
 have vis:Vis X.env.scope x:=by rcases hx with k |k;exact .inl k;exact .inr (.inl k)
 obtain⟨u,r,l⟩:=hl i x v hi e1 vis
 refine wpAny_AugAssign_Name ?_
 have go:wpAny (model X.prog X.w) X.A (eval e X.env) (λw s₂=>wpAny (model X.prog X.w) X.A (inplaceOp op u w) (λr s₃=>wpAny (model X.prog X.w) X.A (storeName X.env x r) (λ_=>SP X pins D .next) X.xe s₃) X.xe s₂) X.xe s:=by
  refine thn (he pins s σ H _ I h) λw s1 ⟨y,H1,I1,r1,q1⟩=>?_
  refine thn (ho pins s1 σ H1 v y u w _ I1 r r1 q1) λz s2 ⟨zv,H2,I2,r2,q2⟩=>?_
  exact rf I2 hN hi hx r2 (λs3 I3=>⟨_,H2,I3,q2⟩) hf
 rcases l with⟨hk,hm⟩|⟨hk,c,hc,yX⟩
 ·exact wpAny_loadName_local I.ok.kind hk hn hm go
 ·rcases hk with hk |hk
  ·exact wpAny_loadName_cell I.ok.kind hk hc yX go
  ·rcases hx with k |k
   ·have:X.env.scope.names.lookup x=some .free:=hk
    rw[k]at this;cases this
   ·have:X.env.scope.names.lookup x=some .free:=hk
    rw[k]at this;cases this
def ipI (f:Int->Int->Int):TIp:=λx y H Q=>∃ i j,x = .int i/\y = .int j/\Q (.int (f i j)) H
theorem xY:PIp X .Add (ipI λi j=>i+j):=by
 intro pins s σ H x y v u Q I r1 r2 h
 obtain⟨i,j,e1,e2,q⟩:=h
 subst e1;subst e2
 obtain⟨t,rfl⟩:=r1
 obtain⟨t',rfl⟩:=r2
 exact iadd_int ⟨.int _,H,I.tok _,⟨_,rfl⟩,q⟩
end
section
variable {X:Cx}{pos:Pos}
def qY (c:TT)(tb:TS):TS:=λD σ H=>∃ W:Nat->St->Hp->Prop,(∃ m,W m σ H)/\∀ m σ H,W m σ H->
 c σ H λb H1=>if b=true then ∃ N:St->Hp->Prop,(∀ σ' H',N σ' H'->∃ m',m'<m/\W m' σ' H')/\tb {D with nx:=N,ct:=N,bk:=D.nx} σ H1 else D.nx σ H1
theorem mO {c:Expr}{body:List Stmt}{tc:TT}{tb:TS}(hp:PassesOwn (model X.prog X.w) X.A X.env X.xe)(hc:PT X c tc)(hb:PSs X body tb):PS X (.While c body [] pos) (qY tc tb):=by
 intro pins s σ H D I h
 obtain⟨W,⟨m0,w0⟩,turn⟩:=h
 refine wpAny_While (codeAny_whileLoop (λn s'=>∃ σ' H',Inv X pins σ' H' s'/\W n σ' H') ?_ m0 ⟨σ,H,I,w0⟩)
 rintro n s1 ⟨σ1,H1,I1,w1⟩
 refine cK hp (thn (hc pins s1 σ1 H1 _ I1 (turn n σ1 H1 w1)) λb s2 ⟨H2,I2,q2⟩=>?_)
 cases b with
 |true=>
  obtain⟨N,hN,q2⟩:=q2
  rw[aJ rfl]
  refine cK hp (thn (hb pins s2 σ1 H2 _ I2 q2) λf s3 q3=>?_)
  cases f with
  |next=>
   obtain⟨σ3,H3,I3,n3⟩:=q3
   obtain⟨m',hm,w3⟩:=hN σ3 H3 n3
   exact⟨m',hm,σ3,H3,I3,w3⟩
  |cont=>
   obtain⟨σ3,H3,I3,n3⟩:=q3
   obtain⟨m',hm,w3⟩:=hN σ3 H3 n3
   exact⟨m',hm,σ3,H3,I3,w3⟩
  |brk=>exact q3
  |ret v=>exact q3
 |false=>
  rw[aF aA]
  exact dX ⟨σ1,H2,I2,q2⟩
end
structure It where
 go:Nat->Hp->Prop
 yld:Nat->Hp->V->Hp->Prop
 stop:Nat->Hp->Prop
def kg (X:Cx)(pins:List (Addr×Obj))(H:Hp)(b:Addr):Prop:=
 H b=none/\b≠X.env.locals/\b∉X.fs/\(b∈X.ex\/X.s₀.heap.objs.size<=b)/\(∀ x c,X.env.cells.lookup x=some c->c≠b)/\∀ p∈X.pn++pins,p.1≠b
theorem Inv.BO {X:Cx}{pins:List (Addr×Obj)}{σ:St}{H H':Hp}{s:Shared}{b:Addr}(I:Inv X pins σ H s)(hb:s.heap.objs.size<=b)(hn:H' b=none):kg X pins H' b:=by
 refine⟨hn,Nat.ne_of_gt (aU I.lt hb),I.J7 hb,.inr (bj I.sz hb),λx c e z=>?_,λp hp z=>?_⟩
 ·obtain⟨v,q⟩:=I.cell x c e
  exact absurd (aU q.lt (by rw[z];exact hb)) (cC _)
 ·exact absurd (aU (ay (I.pin p hp).1) (by rw[z];exact hb)) (cC _)
structure Turn (P:Program)(w:World)(K:PySem.W.Frag)(tg:Expr)(J:It)(fp:List Addr)(it:Addr)(tn:Nat->Heap->Prop):Prop where
 mem:it∈fp
 obj:∀ i h,tn i h->∀ b∈fp,∃ o,h.get? b=some o/\∀ v,o.data≠ .cell v
 keep:∀ i h h',tn i h->(∀ b∈fp,∀ o,h.get? b=some o->h'.get? b=some o)->tn i h'
 item:∀ (X:Cx),X.prog=P->X.w=w->X.K=K->X.calm=true->∀ (i:Nat) (pins:List (Addr×Obj)) (s:Shared) (σ:St) (H:Hp) (E:Value->Shared->Prop),Inv X pins σ H s->(∀ b∈fp,kg X pins H b)->tn i s.heap->J.go i H->
  wpAny (model P w) X.A (pyNext (.ref it)) (λr s1=>∃ u,r=some u/\
   wpAny (model P w) X.A (letOwnedTupleGo tg (.ref it) u) (λ_ s2=>∃ x H',Inv X pins σ H' s2/\RelV x u/\J.yld i H x H'/\tn (i+1) s2.heap/\∀ b∈fp,H' b=none) E s1) E s
 done:∀ (X:Cx),X.prog=P->X.w=w->X.K=K->X.calm=true->∀ (i:Nat) (pins:List (Addr×Obj)) (s:Shared) (σ:St) (H:Hp) (E:Value->Shared->Prop),Inv X pins σ H s->(∀ b∈fp,kg X pins H b)->tn i s.heap->J.stop i H->
  wpAny (model P w) X.A (pyNext (.ref it)) (λr s1=>r=none/\Inv X pins σ H s1) E s
 self:∀ (A:Around) (i:Nat) (s:Shared) (Q:Value->Shared->Prop) (E:Value->Shared->Prop),tn i s.heap->Q (.ref it) s->wpAny (model P w) A (pyIter (.ref it)) Q E s
abbrev TI:=St->Hp->(It->Hp->Prop)->Prop
def PIE (X:Cx)(pins:List (Addr×Obj))(σ:St)(tg:Expr)(R:It->Hp->Prop)(itv:Value)(s2:Shared):Prop:=
 ∃ (it:Addr) (fp:List Addr) (tn:Nat->Heap->Prop) (J:It) (H':Hp),itv = .ref it/\Inv X pins σ H' s2/\Turn X.prog X.w X.K tg J fp it tn/\tn 0 s2.heap/\(∀ b∈fp,kg X pins H' b)/\R J H'
def PI (X:Cx)(tg iter:Expr)(wi:TI):Prop:=
 ∀ (pins:List (Addr×Obj)) (s:Shared) (σ:St) (H:Hp) (R:It->Hp->Prop),Inv X pins σ H s->wi σ H R->
  wpAny (model X.prog X.w) X.A (eval iter X.env) (λv s1=>wpAny (model X.prog X.w) X.A (pyIter v) (PIE X pins σ tg R) X.xe s1) X.xe s
theorem Dw {M : Model} {A : Around} {E : Value → Shared → Prop} {s : Shared} {tg : Expr} {it : Addr} {u : Value} {o : Obj} {n : String} {vs : Array Value} {Q : Unit → Shared → Prop} (ho : s.heap.get? it = some o) (hc : o.cls = .type n) (hd : o.data = .fields vs)
    (hn : ["enumerate", "zip", "dict_itemiterator", "dict_reverseitemiterator", "odict_iterator", "itertools.zip_longest", "itertools.pairwise"].contains n = false) (hQ : Q () s) : wpAny M A (letOwnedTupleGo tg (.ref it) u) Q E s := by
  unfold letOwnedTupleGo
  cases tg <;> first
    | exact aj hQ
    | (cases u <;> first
        | exact aj hQ
        | (refine ae (wpAny_load ho ?_)
           rw [hc, hd]
           show wpAny M A (if (["enumerate", "zip", "dict_itemiterator", "dict_reverseitemiterator", "odict_iterator", "itertools.zip_longest", "itertools.pairwise"].contains n && vs[0]? == some (rawInt _)) = true then _ else _) Q E s
           rw [aF (by intro h; rw [hn, Bool.false_and] at h; cases h)]
           exact aj hQ))
def Itl (K:PySem.W.Frag)(a:Addr):It:=
 ⟨λi H=>∃ xs x,SqL K H a xs/\xs[i]? = some x,λi H x H'=>H'=H/\∀ xs,SqL K H a xs->xs[i]? = some x,λi H=>∃ xs,SqL K H a xs/\xs.length<=i⟩
def Itr (lo:Int)(n:Nat):It:=⟨λi _=>i<n,λi H x H'=>H'=H/\x = .int (lo+i),λi _=>n<=i⟩
theorem zu {P:Program}{w:World}{K:PySem.W.Frag}{tg:Expr}(a it:Addr):Turn P w K tg (Itl K a) [it] it (λi h=>h.IsListIter it a i) where
 mem:=by simp
 obj:=λi h st b hb=>by
  have e:b=it:=by simpa using hb
  subst e
  obtain⟨o,e,c,d⟩:=st
  exact⟨o,e,λv z=>by rw[d]at z;cases z⟩
 keep:=λi h h' st k=>st.at λo e=>k it (by simp) o e
 item:=by
  intro X hP hw hK hc i pins s σ H E I hf st hg
  subst hP hw hK
  obtain⟨xs,x,hq,hx⟩:=hg
  obtain⟨its,rv,p,hz⟩:=I.list hq
  obtain⟨u,hu,ru⟩:=rv.get hx
  obtain⟨f0,f1,f2,f3,f4,f5⟩:=hf it (by simp)
  refine wpAny_pyNext_list_item st p.isList (x:=u) (by simpa using hu) λh' st' sb=>?_
  have I1:Inv X pins σ H {s with heap:=h'} :=I.turned (t':=s.toks) (λb o hb e=>(sb.2 b hb).trans e) f0 f1 f3 f4 f5
  obtain⟨o,e,c,d⟩:=id st'
  exact⟨u,rfl,Dw (s:={s with heap:=h'}) e c d (by decide) ⟨x,H,I1,ru,⟨rfl,λys hy=>by rw[I.o5 hy hq];exact hx⟩,st',λb hb=>(hf b hb).1⟩⟩
 done:=by
  intro X hP hw hK hc i pins s σ H E I hf st hg
  subst hP hw hK
  obtain⟨xs,hq,hx⟩:=hg
  obtain⟨its,rv,p,hz⟩:=I.list hq
  obtain⟨f0,f1,f2,f3,f4,f5⟩:=hf it (by simp)
  have hl:=rv.length
  exact wpAny_pyNext_list_end (I.ok.hd hc) st p.isList (by simp;omega) λh' eb=>⟨rfl,I.turned (t':=s.toks) (λb o hb e=>eb b o hb e) f0 f1 f3 f4 f5⟩
 self:=λ_ _ _ _ _ st h=>wpAny_pyIter_listiter st h
theorem xt {P:Program}{w:World}{K:PySem.W.Frag}{tg:Expr}(it:Addr)(lo:Int)(n:Nat):Turn P w K tg (Itr lo n) [it] it (λi h=>IsRangeIter h it (lo+(i:Nat)*1) ((n:Int)-(i:Nat)) 1) where
 mem:=by simp
 obj:=λi h st b hb=>by
  have e:b=it:=by simpa using hb
  subst e
  exact⟨_,st,λv z=>by
   have z':Data.fields _=Data.cell v:=z
   cases z'⟩
 keep:=λi h h' st k=>k it (by simp) _ st
 item:=by
  intro X hP hw hK hc i pins s σ H E I hf st hg
  subst hP hw hK
  obtain⟨f0,f1,f2,f3,f4,f5⟩:=hf it (by simp)
  have W:=Walks.range (prog:=X.prog) (w:=X.w) (I.ok.hd hc) it lo 1 n
  refine W.item i s _ _ hg st λv h' tk hv st' kk=>?_
  obtain⟨t,rfl⟩:=hv
  have I1:Inv X pins σ H {s with heap:=h',toks:=tk} :=I.turned (λb o hb e=>kk b o (by simpa using hb) e) f0 f1 f3 f4 f5
  refine⟨_,rfl,Dw (s:={s with heap:=h',toks:=tk}) (n:= "range_iterator") st' rfl rfl (by decide) ⟨.int (lo+i),H,I1,⟨t,?_⟩,⟨rfl,rfl⟩,st',λb hb=>(hf b hb).1⟩⟩
  rw[Int.mul_one]
 done:=by
  intro X hP hw hK hc i pins s σ H E I hf st hg
  subst hP hw hK
  obtain⟨f0,f1,f2,f3,f4,f5⟩:=hf it (by simp)
  exact wpAny_pyNext_range_end (I.ok.hd hc) st (by have:n<=i:=hg;omega) λh' eb=>⟨rfl,I.turned (t':=s.toks) (λb o hb e=>eb b o hb e) f0 f1 f3 f4 f5⟩
 self:=λ_ _ _ _ _ st h=>wpAny_pyIter_rangeiter st h
section
variable {X:Cx}{tg:Expr}
def Gm (K:PySem.W.Frag)(tl:TE):TI:=λσ H R=>tl σ H λx H1=>∃ a,x = .ref a/\(∃ xs,SqL K H1 a xs)/\R (Itl K a) H1
theorem fy {l:Expr}{tl:TE}(hl:PE X l tl):PI X tg l (Gm X.K tl):=by
 intro pins s σ H R I h
 refine thn (hl pins s σ H _ I h) λv s1 ⟨x,H1,I1,r1,q1⟩=>?_
 obtain⟨a,e,⟨xs,hq⟩,q⟩:=q1
 subst e
 cases r1
 obtain⟨its,rv,p,hz⟩:=I1.list hq
 refine wpAny_pyIter_list p.isList ?_
 refine⟨s1.heap.objs.size,[s1.heap.objs.size],_,_,H1,rfl,I1.kept (t':=s1.toks) λb o e=>av _ e,zu a _,⟨_,bc _ rfl,rfl,rfl⟩,λb hb=>?_,q⟩
 have e:b=s1.heap.objs.size:=by simpa using hb
 subst e
 exact I1.BO (ao _) (I1.hok.fresh (ao _))
theorem vZ {pins:List (Addr×Obj)}{σ:St}{H:Hp}{s:Shared}{R:It->Hp->Prop}{E:Value->Shared->Prop}{lo hi:Int}{t u v:Tok}{tk:Nat}(I:Inv X pins σ H s)(h1: -(2 ^ 62)<=lo)(h2:lo<2 ^ 62)(h3: -(2 ^ 62)<=hi)(h4:hi<2 ^ 62)
  (q:R (Itr lo (hi-lo).toNat) H):wpAny (model X.prog X.w) X.A (pyIter (.ref s.heap.objs.size)) (PIE X pins σ tg R) E {s with heap:=s.heap.push {cls:=.type "range",data:=.fields #[.int lo t,.int hi u,.int 1 v]},toks:=tk} :=by
 refine wpAny_pyIter_range (IsRange.new ..) (small_one h1 h2 h3 h4) ?_
 have I1:Inv X pins σ H {s with heap:=s.heap.push {cls:=.type "range",data:=.fields #[.int lo t,.int hi u,.int 1 v]},toks:=tk} :=I.kept λb o e=>av _ e
 refine⟨(s.heap.push {cls:=.type "range",data:=.fields #[.int lo t,.int hi u,.int 1 v]}).objs.size,[(s.heap.push {cls:=.type "range",data:=.fields #[.int lo t,.int hi u,.int 1 v]}).objs.size],_,_,H,rfl,
  I1.kept (t':=tk) λb o e=>av _ e,xt _ lo (hi-lo).toNat,?_,λb hb=>?_,q⟩
 ·have e1:lo+((0:Nat):Int)*1=lo:=by simp
  have e2:(((hi-lo).toNat:Nat):Int)-((0:Nat):Int)=Builtin.Range.rangeSize lo hi 1:=by rw[rangeSize_one];split<;>omega
  show IsRangeIter _ _ (lo+((0:Nat):Int)*1) ((((hi-lo).toNat:Nat):Int)-((0:Nat):Int)) 1
  rw[e1,e2]
  exact bc _ rfl
 ·have e:b=(s.heap.push {cls:=.type "range",data:=.fields #[.int lo t,.int hi u,.int 1 v]}).objs.size:=by simpa using hb
  subst e
  exact I1.BO (ao _) (I1.hok.fresh (ao _))
def Gk (ta:TA):TI:=λσ H R=>ta σ H λvs H1=>∃ j:Int,vs = [.int j]/\ -(2 ^ 62)<=j/\j<2 ^ 62/\R (Itr 0 j.toNat) H1
def Gj (ta:TA):TI:=λσ H R=>ta σ H λvs H1=>∃ i j:Int,vs = [.int i,.int j]/\(-(2 ^ 62)<=i/\i<2 ^ 62/\ -(2 ^ 62)<=j/\j<2 ^ 62)/\R (Itr i (j-i).toNat) H1
theorem kD {a:Expr}{ta:TA}{p pos:Pos}(hg:Gl X "range")(hm:X.mg "range" = none)(ha:PA X [a] ta)(hs:starEach [a] X.env = [(false,eval a X.env)]:=by rfl):PI X tg (.Call (.Name "range" p) [a] [] pos) (Gk ta):=by
 intro pins s σ H R I h
 refine Call_ (oy I hg hm boot_range (cj (thn (ha pos pins s σ H _ I h) λus s1 ⟨vs,H1,I1,r1,q1⟩=>?_) hs rfl))
 obtain⟨j,e,q1,q2,q⟩:=q1
 subst e
 cases r1 with
 |cons r rr=>
  cases rr
  obtain⟨t,rfl⟩:=r
  exact call_range_1 (vZ I1 (by omega) (by omega) q1 q2 (by simpa using q))
theorem tU {a b:Expr}{ta:TA}{p pos:Pos}(hg:Gl X "range")(hm:X.mg "range" = none)(ha:PA X [a,b] ta)(hs:starEach [a,b] X.env = [(false,eval a X.env),(false,eval b X.env)]:=by rfl)(hs2:starEach [b] X.env = [(false,eval b X.env)]:=by rfl):
  PI X tg (.Call (.Name "range" p) [a,b] [] pos) (Gj ta):=by
 intro pins s σ H R I h
 refine Call_ (oy I hg hm boot_range (cj (thn (ha pos pins s σ H _ I h) λus s1 ⟨vs,H1,I1,r1,q1⟩=>?_) (by rw[hs,hs2]) (by rw[hs2];rfl)))
 obtain⟨i,j,e,⟨q1,q2,q3,q4⟩,q⟩:=q1
 subst e
 cases r1 with
 |cons r rr=>
  cases rr with
  |cons r' rr=>
   cases rr
   obtain⟨t,rfl⟩:=r
   obtain⟨t',rfl⟩:=r'
   exact call_range_2 (vZ I1 q1 q2 q3 q4 q)
def HF (wi:TI)(g:TG)(tb:TS):TS:=λD σ H=>wi σ H λJ H1=>∃ W:Nat->Nat->St->Hp->Prop,(∃ m,W 0 m σ H1)/\∀ i m σ H,W i m σ H->
 (J.stop i H/\D.nx σ H)\/(J.go i H/\∃ N:St->Hp->Prop,(∀ σ' H',N σ' H'->∃ m',m'<m/\W (i+1) m' σ' H')/\∀ x H',J.yld i H x H'->g x σ H' λσ2 H2=>tb {D with nx:=N,ct:=N,bk:=D.nx} σ2 H2)
def mw (fp:List Addr)(h:Heap):List (Addr×Obj):=fp.filterMap λb=>(h.get? b).map λo=>(b,o)
theorem gK {fp:List Addr}{h:Heap}{b:Addr}{o:Obj}(hb:b∈fp)(e:h.get? b=some o):(b,o)∈mw fp h:=dS.mpr ⟨b,hb,by rw[e];rfl⟩
theorem zM {fp:List Addr}{h:Heap}{p:Addr×Obj}(hp:p∈mw fp h):p.1∈fp/\h.get? p.1=some p.2:=by
 obtain⟨b,hb,e⟩:=dS.mp hp
 cases q:h.get? b with
 |none=>rw[q]at e;cases e
 |some o=>
  rw[q]at e
  have e':(b,o)=p:=bh e
  subst e'
  exact⟨hb,q⟩
theorem Inv.pinned {pins:List (Addr×Obj)}{σ:St}{H:Hp}{s:Shared}{fp:List Addr}(I:Inv X pins σ H s)(hf:∀ b∈fp,kg X pins H b)(ho:∀ b∈fp,∃ o,s.heap.get? b=some o/\∀ v,o.data≠ .cell v):Inv X (pins++mw fp s.heap) σ H s:=
 I.yB λp hp=>(aC.mp hp).elim (λz=>I.pin p (au _ z)) λz=>by
  obtain⟨hb,e⟩:=zM z
  obtain⟨f0,f1,f2,_⟩:=hf p.1 hb
  obtain⟨o,e',d⟩:=ho p.1 hb
  rw[e]at e';cases e'
  exact⟨e,f0,f1,f2,d⟩
theorem Inv.jZ {pins pl:List (Addr×Obj)}{σ:St}{H:Hp}{s:Shared}(I:Inv X (pins++pl) σ H s):Inv X pins σ H s:=I.yB λp hp=>I.pin p (au _ (bo _ hp))
theorem gY {iter:Expr}{body:List Stmt}{wi:TI}{g:TG}{tb:TS}{pos:Pos}(hp:PassesOwn (model X.prog X.w) X.A X.env X.xe)(hc:X.calm=true)(hi:PI X tg iter wi)(hg:PG X tg g)(hb:PSs X body tb)
  (hs:∀ x,foldedSetIterable iter X.env x=pure x:=by intro _;rfl):PS X (.For tg iter body [] pos) (HF wi g tb):=by
 intro pins s σ H D I h
 refine wpAny_For (thn (hi pins s σ H _ I h) λv s1 h1=>thn h1 λitv s2 h2=>?_) hs
 obtain⟨it,fp,tn,J,H2,e,I2,T,st2,f2,W,⟨m0,w0⟩,turn⟩:=h2
 subst e
 have DT:∀ {H':Hp},(∀ b∈fp,H' b=none)->∀ b∈fp,kg X pins H' b:=λhn b hb=>⟨hn b hb,(f2 b hb).2⟩
 refine codeAny_forLoop_any (λn s'=>∃ i σ' H',Inv X pins σ' H' s'/\tn i s'.heap/\(∀ b∈fp,H' b=none)/\W i n σ' H') ?_ m0 ⟨0,σ,H2,I2,st2,λb hb=>(f2 b hb).1,w0⟩
 rintro n s3 ⟨i,σ3,H3,I3,st3,fr3,w3⟩
 rcases turn i n σ3 H3 w3 with⟨stop,qn⟩|⟨go,N,hN,step⟩
 ·refine cK hp (thn (T.done X rfl rfl rfl hc i pins s3 σ3 H3 X.xe I3 (DT fr3) st3 stop) λr s4 ⟨hr,I4⟩=>?_)
  subst hr
  exact dX ⟨σ3,H3,I4,qn⟩
 ·refine cK hp (thn (T.item X rfl rfl rfl hc i pins s3 σ3 H3 X.xe I3 (DT fr3) st3 go) λr s4 ⟨u,hr,h4⟩=>?_)
  subst hr
  refine cK hp (thn h4 λ_ s5 ⟨x,H5,I5,r5,y5,st5,fr5⟩=>?_)
  have I5':=I5.pinned (DT fr5) (T.obj _ _ st5)
  refine cK hp (thn (hg _ s5 σ3 H5 x u _ I5' r5 (step x H5 y5)) λ_ s6 ⟨σ6,H6,I6,q6⟩=>?_)
  refine cK hp (thn (hb _ s6 σ6 H6 _ I6 q6) λf s7 q7=>?_)
  have again:∀ {σ7:St}{H7:Hp},Inv X (pins++mw fp s5.heap) σ7 H7 s7->N σ7 H7->∃ m,m<n/\∃ i σ' H',Inv X pins σ' H' s7/\tn i s7.heap/\(∀ b∈fp,H' b=none)/\W i m σ' H':=λ{σ7 H7} I7 n7=>by
   obtain⟨m',hm,w7⟩:=hN σ7 H7 n7
   refine⟨m',hm,i+1,σ7,H7,I7.jZ,T.keep _ _ _ st5 λb hb o e=>(I7.pin (b,o) (au _ (au _ (gK hb e)))).1,λb hb=>?_,w7⟩
   obtain⟨o,e,d⟩:=T.obj _ _ st5 b hb
   exact(I7.pin (b,o) (au _ (au _ (gK hb e)))).2.1
  cases f with
  |next=>obtain⟨σ7,H7,I7,n7⟩:=q7;exact again I7 n7
  |cont=>obtain⟨σ7,H7,I7,n7⟩:=q7;exact again I7 n7
  |brk=>obtain⟨σ7,H7,I7,q7⟩:=q7;exact⟨σ7,H7,I7.jZ,q7⟩
  |ret v=>obtain⟨x7,σ7,H7,I7,r7,q7⟩:=q7;exact⟨x7,σ7,H7,I7.jZ,r7,q7⟩
end
theorem su {K:PySem.W.Frag}{a:Addr}{xs:List V}{g:TG}{tb:TS}{D:Ends}{σ:St}{H:Hp}(Pv:Nat->St->Hp->Prop)(h0:Pv 0 σ H)(hl:∀ i σ H,i<=xs.length->Pv i σ H->SqL K H a xs)
  (hs:∀ i x σ H,xs[i]? = some x->Pv i σ H->g x σ H λσ2 H2=>tb {D with nx:=Pv (i+1),ct:=Pv (i+1),bk:=D.nx} σ2 H2) (hd:∀ σ H,Pv xs.length σ H->D.nx σ H):
  ∃ W:Nat->Nat->St->Hp->Prop,(∃ m,W 0 m σ H)/\∀ i m σ H,W i m σ H->
   ((Itl K a).stop i H/\D.nx σ H)\/((Itl K a).go i H/\∃ N:St->Hp->Prop,(∀ σ' H',N σ' H'->∃ m',m'<m/\W (i+1) m' σ' H')/\∀ x H',(Itl K a).yld i H x H'->g x σ H' λσ2 H2=>tb {D with nx:=N,ct:=N,bk:=D.nx} σ2 H2):=by
 refine⟨λi m σ H=>m=xs.length-i/\i<=xs.length/\Pv i σ H,⟨xs.length,by simp,aH _,h0⟩,?_⟩
 rintro i m σ H ⟨rfl,hi,p⟩
 have q:=hl i σ H hi p
 by_cases hlt:i<xs.length
 ·refine .inr ⟨⟨xs,xs[i],q,by simp[hlt]⟩,Pv (i+1),λσ' H' p'=>⟨xs.length-(i+1),by omega,rfl,hlt,p'⟩,λx H' y=>?_⟩
  obtain⟨e,y⟩:=y
  subst e
  exact hs i x σ _ (y xs q) p
 ·have e:i=xs.length:=by omega
  subst e
  exact .inl ⟨⟨xs,q,ao _⟩,hd σ H p⟩
theorem nQ {lo:Int}{n:Nat}{g:TG}{tb:TS}{D:Ends}{σ:St}{H:Hp}(Pv:Nat->St->Hp->Prop)(h0:Pv 0 σ H)
  (hs:∀ i σ H,i<n->Pv i σ H->g (.int (lo+i)) σ H λσ2 H2=>tb {D with nx:=Pv (i+1),ct:=Pv (i+1),bk:=D.nx} σ2 H2) (hd:∀ σ H,Pv n σ H->D.nx σ H):
  ∃ W:Nat->Nat->St->Hp->Prop,(∃ m,W 0 m σ H)/\∀ i m σ H,W i m σ H->
   ((Itr lo n).stop i H/\D.nx σ H)\/((Itr lo n).go i H/\∃ N:St->Hp->Prop,(∀ σ' H',N σ' H'->∃ m',m'<m/\W (i+1) m' σ' H')/\∀ x H',(Itr lo n).yld i H x H'->g x σ H' λσ2 H2=>tb {D with nx:=N,ct:=N,bk:=D.nx} σ2 H2):=by
 refine⟨λi m σ H=>m=n-i/\i<=n/\Pv i σ H,⟨n,by simp,aH _,h0⟩,?_⟩
 rintro i m σ H ⟨rfl,hi,p⟩
 by_cases hlt:i<n
 ·refine .inr ⟨hlt,Pv (i+1),λσ' H' p'=>⟨n-(i+1),by omega,rfl,hlt,p'⟩,λx H' y=>?_⟩
  obtain⟨e,y⟩:=y
  subst e y
  exact hs i σ _ hlt p
 ·have e:i=n:=by omega
  subst e
  exact .inl ⟨ao _,hd σ H p⟩
theorem Aw {c:TT}{tb:TS}{D:Ends}{σ:St}{H:Hp}(Pv:St->Hp->Prop)(μ:St->Hp->Nat)(h0:Pv σ H)
  (hs:∀ σ H,Pv σ H->c σ H λb H1=>if b=true then tb {D with nx:=λσ' H'=>Pv σ' H'/\μ σ' H'<μ σ H,ct:=λσ' H'=>Pv σ' H'/\μ σ' H'<μ σ H,bk:=D.nx} σ H1 else D.nx σ H1)
  (mono:∀ σ H Q Q',(∀ b H1,Q b H1->Q' b H1)->c σ H Q->c σ H Q'):qY c tb D σ H:=by
 refine⟨λm σ H=>m=μ σ H/\Pv σ H,⟨_,rfl,h0⟩,?_⟩
 rintro m σ H ⟨rfl,p⟩
 refine mono σ H _ _ (λb H1 q=>?_) (hs σ H p)
 cases b with
 |true=>exact⟨_,λσ' H' ⟨p',l⟩=>⟨_,l,rfl,p'⟩,q⟩
 |false=>exact q
abbrev R2:=V->V->Hp->VK->Prop
def OpR (X:Cx)(f:Value->Value->Sem Value)(r:R2):Prop:=
 ∀ (pins:List (Addr×Obj)) (s:Shared) (σ:St) (H:Hp) (x y:V) (v u:Value) (Q:VK),Inv X pins σ H s->RelV x v->RelV y u->r x y H Q->
  wpAny (model X.prog X.w) X.A (f v u) (EP X pins σ Q) X.xe s
def UnR (X:Cx)(f:Value->Sem Value)(r:V->Hp->VK->Prop):Prop:=
 ∀ (pins:List (Addr×Obj)) (s:Shared) (σ:St) (H:Hp) (x:V) (v:Value) (Q:VK),Inv X pins σ H s->RelV x v->r x H Q->
  wpAny (model X.prog X.w) X.A (f v) (EP X pins σ Q) X.xe s
def jC (X:Cx)(f:Value)(r:List V->Hp->VK->Prop):Prop:=
 ∀ (pins:List (Addr×Obj)) (s:Shared) (σ:St) (H:Hp) (xs:List V) (us:List Value) (Q:VK),Inv X pins σ H s->Vals xs us->r xs H Q->
  wpAny (model X.prog X.w) X.A (call f us) (EP X pins σ Q) X.xe s
def M5 (X:Cx)(r:V->Hp->(Bool->Hp->Prop)->Prop):Prop:=
 ∀ (pins:List (Addr×Obj)) (s:Shared) (σ:St) (H:Hp) (x:V) (v:Value) (Q:Bool->Hp->Prop),Inv X pins σ H s->RelV x v->r x H Q->
  wpAny (model X.prog X.w) X.A (truthy v) (TP X pins σ Q) X.xe s
def tOp (r:R2)(ta tb:TE):TE:=λσ H Q=>ta σ H λx H1=>tb σ H1 λy H2=>r x y H2 Q
def tUn (r:V->Hp->VK->Prop)(ta:TE):TE:=λσ H Q=>ta σ H λx H1=>r x H1 Q
def rI (C:Int->Int->Prop)(g:Int->Int->V):R2:=λx y H Q=>∃ i j,x = .int i/\y = .int j/\C i j/\Q (g i j) H
def rI0 (g:Int->Int->V):R2:=λx y H Q=>∃ i j,x = .int i/\y = .int j/\Q (g i j) H
def rU (g:Int->V):V->Hp->VK->Prop:=λx H Q=>∃ i,x = .int i/\Q (g i) H
section
variable {X:Cx}{a b c:Expr}{ta tb tc:TE}{pos:Pos}
theorem EY (ha:PE X a ta)(hb:PE X b tb){pins:List (Addr×Obj)}{s:Shared}{σ:St}{H:Hp}{R:V->V->Hp->Prop}(I:Inv X pins σ H s)
  (h:ta σ H λx H1=>tb σ H1 λy H2=>R x y H2) {Q:Value->Shared->Prop}{f:Value->Value->Sem Value}
  (hf:∀ v u s2 x y H2,Inv X pins σ H2 s2->RelV x v->RelV y u->R x y H2->wpAny (model X.prog X.w) X.A (f v u) Q X.xe s2):
  wpAny (model X.prog X.w) X.A (eval a X.env) (λv s₁=>wpAny (model X.prog X.w) X.A (eval b X.env) (λu s₂=>wpAny (model X.prog X.w) X.A (f v u) Q X.xe s₂) X.xe s₁) X.xe s:=by
 refine thn (ha pins s σ H _ I h) λv s1 ⟨x,H1,I1,r1,q1⟩=>?_
 refine thn (hb pins s1 σ H1 _ I1 q1) λu s2 ⟨y,H2,I2,r2,q2⟩=>?_
 exact hf v u s2 x y H2 I2 r1 r2 q2
theorem eV {op:Operator}{r:R2}(ho:OpR X (binaryOp op) r)(ha:PE X a ta)(hb:PE X b tb):PE X (.BinOp a op b pos) (tOp r ta tb):=by
 intro pins s σ H Q I h
 exact wpAny_BinOp (EY ha hb I h λv u s2 x y H2 I2 rx ry q=>ho pins s2 σ H2 x y v u Q I2 rx ry q)
theorem nZ {op:UnaryOp}{r:V->Hp->VK->Prop}(ho:UnR X (unaryOp op) r)(ha:PE X a ta):PE X (.UnaryOp op a pos) (tUn r ta):=by
 intro pins s σ H Q I h
 exact UnaryOp_ (thn (ha pins s σ H _ I h) λv s1 ⟨x,H1,I1,r1,q1⟩=>ho pins s1 σ H1 x v Q I1 r1 q1)
theorem opI {f:Value->Value->Sem Value}{C:Int->Int->Prop}{g:Int->Int->Int}
  (rule:∀ (i j:Int) (t u:Tok) (s:Shared) (Q:Value->Shared->Prop) (E:Value->Shared->Prop),C i j->Q (.int (g i j) s.toks) {s with toks:=s.toks+1} ->wpAny (model X.prog X.w) X.A (f (.int i t) (.int j u)) Q E s):
  OpR X f (rI C λi j=>.int (g i j)):=by
 intro pins s σ H x y v u Q I rx ry h
 obtain⟨i,j,rfl,rfl,hc,q⟩:=h
 obtain⟨t,rfl⟩:=rx
 obtain⟨t',rfl⟩:=ry
 exact rule i j t t' s _ _ hc ⟨.int (g i j),H,I.tok _,⟨_,rfl⟩,q⟩
theorem Ei {f:Value->Value->Sem Value}{g:Int->Int->Int}
  (rule:∀ (i j:Int) (t u:Tok) (s:Shared) (Q:Value->Shared->Prop) (E:Value->Shared->Prop),Q (.int (g i j) s.toks) {s with toks:=s.toks+1} ->wpAny (model X.prog X.w) X.A (f (.int i t) (.int j u)) Q E s):
  OpR X f (rI0 λi j=>.int (g i j)):=by
 intro pins s σ H x y v u Q I rx ry h
 obtain⟨i,j,rfl,rfl,q⟩:=h
 obtain⟨t,rfl⟩:=rx
 obtain⟨t',rfl⟩:=ry
 exact rule i j t t' s _ _ ⟨.int (g i j),H,I.tok _,⟨_,rfl⟩,q⟩
theorem FX {f:Value->Value->Sem Value}{g:Int->Int->Bool}
  (rule:∀ (i j:Int) (t u:Tok) (s:Shared) (Q:Value->Shared->Prop) (E:Value->Shared->Prop),Q (.bool (g i j)) s->wpAny (model X.prog X.w) X.A (f (.int i t) (.int j u)) Q E s):
  OpR X f (rI0 λi j=>.bl (g i j)):=by
 intro pins s σ H x y v u Q I rx ry h
 obtain⟨i,j,rfl,rfl,q⟩:=h
 obtain⟨t,rfl⟩:=rx
 obtain⟨t',rfl⟩:=ry
 exact rule i j t t' s _ _ ⟨.bl (g i j),H,I,rfl,q⟩
def M8 (i j:Int):Prop:=0<j/\j<1073741824
def M7 (i j:Int):Prop:=0<=j/\j<=1000000/\i.natAbs<2 ^ 64
def Df (i j:Int):Prop:=(-(2 ^ 64)<i/\i<2 ^ 64)\/(-(2 ^ 64)<j/\j<2 ^ 64)
theorem Df.ok {i j:Int}(h:Df i j):IntMulOk i j:=by
 rcases h with⟨h1,h2⟩|⟨h1,h2⟩
 ·exact .of_left (intBits_le_64 h1 h2)
 ·exact .of_right (intBits_le_64 h1 h2)
theorem gO:OpR X (binaryOp .Add) (rI0 λi j=>.int (i+j)):=Ei λ_ _ _ _ _ _ _ q=>add_int q
theorem mx:OpR X (binaryOp .Sub) (rI0 λi j=>.int (i-j)):=Ei λ_ _ _ _ _ _ _ q=>sub_int q
theorem ix:OpR X (binaryOp .Mult) (rI Df λi j=>.int (i*j)):=opI λ_ _ _ _ _ _ _ hc q=>mul_int q hc.ok
theorem gu:OpR X (binaryOp .FloorDiv) (rI M8 λi j=>.int (i/j)):=opI λi j _ _ _ _ _ hc q=>by
 have h1:(0:Int)<j:=hc.1
 have h2:j<1073741824:=hc.2
 exact floordiv_int (by omega) (by rw[Int.fdiv_eq_ediv_of_nonneg i (by omega)];exact q) (.inl (PyProof.noPylong_small (by omega)))
theorem fI:OpR X (binaryOp .Mod) (rI (λ_ j=>0<j) λi j=>.int (i%j)):=opI λi j _ _ _ _ _ hc q=>by
 have h1:(0:Int)<j:=hc
 exact mod_int' (by omega) (by rw[Int.fmod_eq_emod_of_nonneg i (by omega)];exact q)
theorem pS:OpR X (binaryOp .Pow) (rI M7 λi j=>.int (i ^ j.toNat)):=opI λ_ _ _ _ _ _ _ hc q=>pow_int_small hc.1 hc.2.1 hc.2.2 q
theorem Eh:OpR X (binaryOp .BitXor) (rI0 λi j=>.int (Builtin.bitXor i j)):=Ei λ_ _ _ _ _ _ _ q=>xor_int q
theorem unI {f:Value->Sem Value}{g:Int->Int}
  (rule:∀ (i:Int) (t:Tok) (s:Shared) (Q:Value->Shared->Prop) (E:Value->Shared->Prop),Q (.int (g i) s.toks) {s with toks:=s.toks+1} ->wpAny (model X.prog X.w) X.A (f (.int i t)) Q E s):
  UnR X f (rU λi=>.int (g i)):=by
 intro pins s σ H x v Q I rx h
 obtain⟨i,rfl,q⟩:=h
 obtain⟨t,rfl⟩:=rx
 exact rule i t s _ _ ⟨.int (g i),H,I.tok _,⟨_,rfl⟩,q⟩
theorem lI:UnR X (unaryOp .USub) (rU λi=>.int (-i)):=unI λ_ _ _ _ _ q=>neg_int q
end
def FC:V->V->Bool
 |.non,.non=>true |.non,.int _=>true |.int _,.non=>true |.non,.bl _=>true |.bl _,.non=>true |.non,.str _=>true |.str _,.non=>true
 |.int _,.int _=>true |.bl _,.bl _=>true |.str _,.str _=>true |.byt _,.byt _=>true
 |.int _,.str _=>true |.str _,.int _=>true |.bl _,.str _=>true |.str _,.bl _=>true
 |_,_=>false
def rEq:R2:=λx y H Q=>FC x y=true/\Q (.bl (decide (x=y))) H
def rNe:R2:=λx y H Q=>FC x y=true/\Q (.bl (!decide (x=y))) H
theorem zg {i j:Int} :decide (V.int i=V.int j)=(i==j):=by
 rw[bx]
 simp
theorem BU {i j:Bool} :decide (V.bl i=V.bl j)=(i==j):=by
 rw[bx]
 simp
theorem zf {i j:Str} :decide (V.str i=V.str j)=(i==j):=by
 rw[bx]
 simp
theorem zh {i j:Array UInt8} :decide (V.byt i=V.byt j)=(i.toList==j.toList):=by
 rw[bx]
 cases i
 cases j
 simp
section
variable {X:Cx}{a b c:Expr}{ta tb tc:TE}{pos:Pos}
theorem gi {pins:List (Addr×Obj)}{σ:St}{H:Hp}{s:Shared}{Q:VK}{k k':Bool}(I:Inv X pins σ H s)(q:Q (.bl k) H)(e:k=k'):EP X pins σ Q (.bool k') s:=by
 subst e
 exact⟨.bl k,H,I,rfl,q⟩
theorem yI:OpR X (compareOp .Eq) rEq:=by
 intro pins s σ H x y v u Q I rx ry h
 obtain⟨hs,q⟩:=h
 cases x with
 |non=>
  cases rx
  cases y with
  |non=>cases ry;exact PySem.EqNone.eq_none_none (gi I q (by simp))
  |bl j=>cases ry;exact PySem.EqNone.eq_none_bool (gi I q (by simp))
  |int j=>obtain⟨t',rfl⟩:=ry;exact PySem.EqNone.eq_none_int (gi I q (by simp))
  |str j=>obtain⟨t',rfl⟩:=ry;exact PySem.EqNone.eq_none_str (gi I q (by simp))
  |_=>exact absurd (show false=true from hs) aA
 |bl i=>
  cases rx
  cases y with
  |non=>cases ry;exact PySem.EqNone.eq_bool_none (gi I q (by simp))
  |bl j=>cases ry;exact eq_bool (gi I q BU)
  |str j=>obtain⟨t',rfl⟩:=ry;exact PySem.EqMixed.eq_bool_str (gi I q (by simp))
  |_=>exact absurd (show false=true from hs) aA
 |int i=>
  obtain⟨t,rfl⟩:=rx
  cases y with
  |non=>cases ry;exact PySem.EqNone.eq_int_none (gi I q (by simp))
  |int j=>obtain⟨t',rfl⟩:=ry;exact eq_int (gi I q zg)
  |str j=>obtain⟨t',rfl⟩:=ry;exact PySem.EqMixed.eq_int_str (gi I q (by simp))
  |_=>exact absurd (show false=true from hs) aA
 |str i=>
  obtain⟨t,rfl⟩:=rx
  cases y with
  |non=>cases ry;exact PySem.EqNone.eq_str_none (gi I q (by simp))
  |bl j=>cases ry;exact PySem.EqMixed.eq_str_bool (gi I q (by simp))
  |int j=>obtain⟨t',rfl⟩:=ry;exact PySem.EqMixed.eq_str_int (gi I q (by simp))
  |str j=>obtain⟨t',rfl⟩:=ry;exact eq_str (gi I q zf)
  |_=>exact absurd (show false=true from hs) aA
 |byt i=>
  obtain⟨t,rfl⟩:=rx
  cases y with
  |byt j=>obtain⟨t',rfl⟩:=ry;exact PySem.W.eq_bytes (gi I q zh)
  |_=>exact absurd (show false=true from hs) aA
 |_=>cases y<;>exact absurd (show false=true from hs) aA
theorem FW:OpR X (compareOp .NotEq) rNe:=by
 intro pins s σ H x y v u Q I rx ry h
 obtain⟨hs,q⟩:=h
 cases x with
 |non=>
  cases rx
  cases y with
  |non=>cases ry;exact PySem.EqNone.ne_none_none (gi I q (by simp))
  |bl j=>cases ry;exact PySem.EqNone.ne_none_bool (gi I q (by simp))
  |int j=>obtain⟨t',rfl⟩:=ry;exact PySem.EqNone.ne_none_int (gi I q (by simp))
  |str j=>obtain⟨t',rfl⟩:=ry;exact PySem.EqNone.ne_none_str (gi I q (by simp))
  |_=>exact absurd (show false=true from hs) aA
 |bl i=>
  cases rx
  cases y with
  |non=>cases ry;exact PySem.EqNone.ne_bool_none (gi I q (by simp))
  |bl j=>cases ry;exact ne_bool (gi I q (bS not BU))
  |str j=>obtain⟨t',rfl⟩:=ry;exact PySem.EqMixed.ne_bool_str (gi I q (by simp))
  |_=>exact absurd (show false=true from hs) aA
 |int i=>
  obtain⟨t,rfl⟩:=rx
  cases y with
  |non=>cases ry;exact PySem.EqNone.ne_int_none (gi I q (by simp))
  |int j=>obtain⟨t',rfl⟩:=ry;exact ne_int (gi I q (bS not zg))
  |str j=>obtain⟨t',rfl⟩:=ry;exact PySem.EqMixed.ne_int_str (gi I q (by simp))
  |_=>exact absurd (show false=true from hs) aA
 |str i=>
  obtain⟨t,rfl⟩:=rx
  cases y with
  |non=>cases ry;exact PySem.EqNone.ne_str_none (gi I q (by simp))
  |bl j=>cases ry;exact PySem.EqMixed.ne_str_bool (gi I q (by simp))
  |int j=>obtain⟨t',rfl⟩:=ry;exact PySem.EqMixed.ne_str_int (gi I q (by simp))
  |str j=>obtain⟨t',rfl⟩:=ry;exact ne_str (gi I q (bS not zf))
  |_=>exact absurd (show false=true from hs) aA
 |byt i=>
  obtain⟨t,rfl⟩:=rx
  cases y with
  |byt j=>obtain⟨t',rfl⟩:=ry;exact PySem.W.ne_bytes (gi I q (bS not zh))
  |_=>exact absurd (show false=true from hs) aA
 |_=>cases y<;>exact absurd (show false=true from hs) aA
theorem Dl:OpR X (compareOp .Lt) (rI0 λi j=>.bl (decide (i<j))):=FX λ_ _ _ _ _ _ _ q=>lt_int q
theorem Dn:OpR X (compareOp .LtE) (rI0 λi j=>.bl (decide (i<=j))):=FX λ_ _ _ _ _ _ _ q=>le_int q
theorem ka (b:Expr){op:CmpOp}(h:op≠ .In:=by decide)(h2:op≠ .NotIn:=by decide):behindInMarks op b=false:=by
 have e1:(op==CmpOp.In)=false:=by cases op<;>first |rfl |exact absurd rfl h
 have e2:(op==CmpOp.NotIn)=false:=by cases op<;>first |rfl |exact absurd rfl h2
 cases b<;>simp[behindInMarks,e1,e2]
theorem uQ {op:CmpOp}{r:R2}(ho:OpR X (compareOp op) r)(ha:PE X a ta)(hb:PE X b tb)(hm:behindInMarks op b=false):PE X (.Compare a [op] [b] pos) (tOp r ta tb):=by
 intro pins s σ H Q I h
 exact wpAny_Compare1 (EY ha hb I h λv u s2 x y H2 I2 rx ry q=>ho pins s2 σ H2 x y v u Q I2 rx ry q) hm
def Fo (t:TE):TT:=λσ H Q=>t σ H λx H'=>∃ k,x = .bl k/\Q k H'
theorem g7 {op:CmpOp}{r:R2}(ho:OpR X (compareOp op) r)(ha:PE X a ta)(hb:PE X b tb)(hm:behindInMarks op b=false):PT X (.Compare a [op] [b] pos) (Fo (tOp r ta tb)):=by
 intro pins s σ H Q I h
 refine wpAny_isTrue_Compare1 (thn (ha pins s σ H _ I h) λv s1 ⟨x,H1,I1,r1,q1⟩=>thn (hb pins s1 σ H1 _ I1 q1) λu s2 ⟨y,H2,I2,r2,q2⟩=>
  thn (ho pins s2 σ H2 x y v u _ I2 r1 r2 q2) λc s3 ⟨z,H3,I3,r3,k,e,q3⟩=>?_) hm
 subst e
 cases r3
 exact cu ⟨H3,I3,q3⟩
def DR (r r':R2)(ta tb tc:TE):TE:=λσ H Q=>ta σ H λx H1=>tb σ H1 λy H2=>r x y H2 λz H3=>∃ k,z = .bl k/\
 (if k=true then tc σ H3 λw' H4=>r' y w' H4 Q else Q (.bl false) H3)
theorem we {op op':CmpOp}{r r':R2}(ho:OpR X (compareOp op) r)(ho':OpR X (compareOp op') r')(ha:PE X a ta)(hb:PE X b tb)(hc:PE X c tc)
  (hm:lastMarks [op,op'] [b,c]=false:=by with_unfolding_all rfl):PE X (.Compare a [op,op'] [b,c] pos) (DR r r' ta tb tc):=by
 intro pins s σ H Q I h
 refine Compare_chain (thn (ha pins s σ H _ I h) λv s1 ⟨x,H1,I1,r1,q1⟩=>chain_link (thn (hb pins s1 σ H1 _ I1 q1) λu s2 ⟨y,H2,I2,r2,q2⟩=>
  thn (ho pins s2 σ H2 x y v u _ I2 r1 r2 q2) λd s3 ⟨z,H3,I3,r3,k,e,q3⟩=>?_)) hm
 subst e
 cases r3
 refine cu ?_
 cases k with
 |false=>exact ite_ff ⟨.bl false,H3,I3,rfl,q3⟩
 |true=>exact ite_tt (chain_last (thn (hc pins s3 σ H3 _ I3 q3) λw' s4 ⟨z',H4,I4,r4,q4⟩=>ho' pins s4 σ H4 y z' u w' Q I4 r2 r4 q4))
def Hm (K:PySem.W.Frag)(x:V)(H:Hp)(k:Bool):Prop:=
 match x with
 |.non=>k=false
 |.bl b=>k=b
 |.int i=>k=(i !=0)
 |.str y=>y.length<=sizeLine/\k=((y.length:Int) !=0)
 |.byt y=>y.size<=sizeLine/\k=((y.size:Int) !=0)
 |.ref p=>(∃ xs,SqL K H p xs/\k = !xs.isEmpty)\/(∃ xs,SqT K H p xs/\k = !xs.isEmpty)\/∃ kvs,H p=some (.dK kvs)/\k = !kvs.isEmpty
 |_=>False
theorem xX {κ:Type}{kvs:List (κ×V)}{vs:List (κ×Value)}(r:KV kvs vs):(!vs.isEmpty) = !kvs.isEmpty:=by
 cases r<;>rfl
theorem sf {xs:List V}{its:List Value}(r:Vals xs its):(!its.toArray.isEmpty) = !xs.isEmpty:=by
 cases r<;>simp
theorem rW:(sizeLine:Nat)<2 ^ 63:=by rw[cF];decide
theorem DJ:M5 X (λx H Q=>∃ k,Hm X.K x H k/\Q k H):=by
 intro pins s σ H x v Q I rx h
 obtain⟨k,e,q⟩:=h
 have hl:=rW
 have hs:sizeLine=16777216:=cF
 cases x with
 |non=>
  cases rx
  have e':k=false:=e
  subst e'
  exact truthy_none ⟨H,I,q⟩
 |bl b=>
  cases rx
  have e':k=b:=e
  subst e'
  exact cu ⟨H,I,q⟩
 |int i=>
  obtain⟨t,rfl⟩:=rx
  have e':k=(i !=0):=e
  subst e'
  exact PySem.P.truthy_int ⟨H,I,q⟩
 |str y=>
  obtain⟨t,rfl⟩:=rx
  obtain⟨hy,e'⟩:y.length<=sizeLine/\k=((y.length:Int) !=0):=e
  subst e'
  exact PySem.P.truthy_str (by omega) ⟨H,I.tok _,q⟩
 |byt y=>
  obtain⟨t,rfl⟩:=rx
  obtain⟨hy,e'⟩:y.size<=sizeLine/\k=((y.size:Int) !=0):=e
  subst e'
  exact PySem.W.truthy_bytes (by omega) ⟨H,I.tok _,q⟩
 |ref p=>
  cases rx
  have e':(∃ xs,SqL X.K H p xs/\k = !xs.isEmpty)\/(∃ xs,SqT X.K H p xs/\k = !xs.isEmpty)\/∃ kvs,H p=some (.dK kvs)/\k = !kvs.isEmpty:=e
  rcases e' with⟨xs,hx,e'⟩|⟨xs,hx,e'⟩|⟨kvs,hx,e'⟩
  ·subst e'
   obtain⟨its,r,pl,hz⟩:=I.list hx
   have hlen:=r.length
   exact wpAny_truthy_list pl.isList (by simp only[aD];omega) ⟨H,I.tok _,by rw[sf r];exact q⟩
  ·subst e'
   obtain⟨its,r,pl,hz⟩:=I.tuple hx
   have hlen:=r.length
   exact truthy_tuple pl (by simp only[aD];omega) ⟨H,I.tok _,by rw[sf r];exact q⟩
  ·subst e'
   obtain⟨hz,hS,vs,r,m⟩:kvs.length<=sizeLine/\(p==sysModules)=false/\∃ vs,KV kvs vs/\s.heap.DictOf (fB X.prog X.w) p vs:=I.hok p _ hx
   have hlen:kvs.length=vs.length:=bT r
   exact wpAny_truthy_dict hS m (by omega) ⟨H,I.tok _,by rw[xX r];exact q⟩
 |_=>exact(show False from e).elim
theorem v7 (ha:PE X a ta)(he:∀ whole,isTrue a X.env whole=(do let v <-whole;standAt a.pos;holding [v] (truthy v))):
  PT X a (λσ H Q=>ta σ H λx H'=>∃ k,Hm X.K x H' k/\Q k H'):=by
 intro pins s σ H Q I h
 exact isTrue_plain (thn (ha pins s σ H _ I h) λv s1 ⟨x,H1,I1,r1,q1⟩=>DJ pins s1 σ H1 x v Q I1 r1 q1) (he _)
theorem vals1 {x:V}{us:List Value}(r:Vals [x] us):∃ u,us = [u]/\RelV x u:=by
 cases r with
 |cons r1 r2=>cases r2;exact⟨_,rfl,r1⟩
theorem vals2 {x y:V}{us:List Value}(r:Vals [x,y] us):∃ u w',us = [u,w']/\RelV x u/\RelV y w':=by
 cases r with
 |cons r1 r2=>
  cases r2 with
  |cons r3 r4=>cases r4;exact⟨_,_,rfl,r1,r3⟩
theorem xj:jC X (.builtin "abs") (λxs H Q=>∃ i,xs = [.int i]/\Q (.int (if i<0 then -i else i)) H):=by
 intro pins s σ H xs us Q I r h
 obtain⟨i,rfl,q⟩:=h
 obtain⟨u,rfl,t,rfl⟩:=vals1 r
 exact call_abs_int λu tk=>⟨.int (if i<0 then -i else i),H,I.tok _,⟨_,rfl⟩,q⟩
theorem qc (hc:X.calm=true):jC X (.builtin "max") (λxs H Q=>∃ i j,xs = [.int i,.int j]/\Q (.int (if j>i then j else i)) H):=by
 intro pins s σ H xs us Q I r h
 obtain⟨i,j,rfl,q⟩:=h
 obtain⟨u,w',rfl,⟨t,rfl⟩,⟨t',rfl⟩⟩:=vals2 r
 refine max_two_ints (I.ok.hd hc) λh' tk k=>⟨_,H,I.kept k,?_,q⟩
 by_cases hj:j>i
 ·rw[aJ hj,aJ hj];exact⟨_,rfl⟩
 ·rw[aF hj,aF hj];exact⟨_,rfl⟩
theorem p8 (hc:X.calm=true):jC X (.builtin "min") (λxs H Q=>∃ i j,xs = [.int i,.int j]/\Q (.int (if j<i then j else i)) H):=by
 intro pins s σ H xs us Q I r h
 obtain⟨i,j,rfl,q⟩:=h
 obtain⟨u,w',rfl,⟨t,rfl⟩,⟨t',rfl⟩⟩:=vals2 r
 refine min_two_ints (I.ok.hd hc) λh' tk k=>⟨_,H,I.kept k,?_,q⟩
 by_cases hj:j<i
 ·rw[aJ hj,aJ hj];exact⟨_,rfl⟩
 ·rw[aF hj,aF hj];exact⟨_,rfl⟩
theorem qd:jC X (.type "int") (λxs H Q=>(∃ i,xs = [.int i]/\Q (.int i) H)\/∃ k,xs = [.bl k]/\Q (.int (if k then 1 else 0)) H):=by
 intro pins s σ H xs us Q I r h
 rcases h with⟨i,rfl,q⟩|⟨k,rfl,q⟩
 ·obtain⟨u,rfl,t,rfl⟩:=vals1 r
  exact call_int_int ⟨.int i,H,I,⟨_,rfl⟩,q⟩
 ·obtain⟨u,rfl,r1⟩:=vals1 r
  cases r1
  exact call_int_bool ⟨.int (if k then 1 else 0),H,I.tok _,⟨_,rfl⟩,q⟩
end
structure E7 (h:Heap)(x dx C:Addr)(mA:Str->Option Value):Prop where
 obj:h.get? x=some (PySem.W.instObj C dx)
 ns:h.Ns1 dx mA
 ne:dx≠x
theorem zT {h:Heap}{dx:Addr}{mA:Str->Option Value}(n:h.Ns1 dx mA):∃ od,h.get? dx=some od/\∀ name,PySem.W.lookIn name od=some (mA name):=by
 obtain⟨o,es,ep,ho,hd,hk,_,hm⟩:=n
 refine⟨o,ho,λname=>?_⟩
 have e:=hm name
 unfold nsFind findBy at e
 rw[<-Array.find?_toList]at e
 unfold PySem.W.lookIn
 rw[hd]
 dsimp only
 split
 ·rename_i y q
  rw[q]at e
  exact bS some e
 ·rename_i q
  rw[q]at e
  have a:es.toList.any (·.refKey)=false:=by
   rw[List.any_eq_false]
   intro y hy
   obtain⟨z,t,KY⟩:=hk y (dH.mp hy)
   simp[DictEntry.refKey,KY]
  have a':¬es.toList.any (·.refKey)=true:=by rw[a];exact aA
  rw[aF a']
  exact bS some e
theorem E7.look {h:Heap}{x dx C:Addr}{mA:Str->Option Value}(I:E7 h x dx C mA):∃ od,PySem.W.InstAt h x (PySem.W.instObj C dx) C (some od)/\∀ name,PySem.W.lookIn name od=some (mA name):=
 let ⟨od,ho,hl⟩:=zT I.ns
 ⟨od,⟨I.obj,rfl,rfl,ho⟩,hl⟩
section
variable {prog:Program}{w:World}{A:Around}{E:Value->Shared->Prop}{s:Shared}{K:PySem.W.Frag}{x dx C f:Addr}{mA:Str->Option Value}{name:Str}{v:Value}
end
theorem oB.some_of {v:V}{o:Option Value}(r:oB (some v) o):∃ u,o=some u/\RelV v u:=by
 cases o with
 |none=>exact(show False from r).elim
 |some u=>exact⟨u,rfl,r⟩
section
variable {P:Program}{w:World}{H H':Hp}{h h':Heap}{a C dx:Addr}{fs fs':List (Str×V)}
theorem CQ (hok:HOk P w H h)(e:H a=some (.ins C dx fs)):∃ mA,E7 h a dx C mA/\(∀ f,oB (fs.lookup f) (mA f))/\PySem.Within mA (fs.map (·.1))/\fs.length<=1000/\H dx=some (.own a):=by
 obtain⟨d,z,ne,ob,mA,n,r,q⟩:=(show gD P w H h a (.ins C dx fs) from hok a _ e)
 exact⟨mA,⟨ob,n,ne⟩,r,q,z,d⟩
end
structure Cls (K:PySem.W.Frag)(C:Addr):Prop where
 pg:PySem.W.plainGet K C Str.empty=true
 hd:PySem.W.hasDictIn K C=true
 po:PySem.W.plainOver K C=true
 sa:PySem.W.findIn K (.ref C) "__setattr__" = some (some (.builtin "object.__setattr__"))
theorem Cls.get {K:PySem.W.Frag}{C:Addr}(c:Cls K C)(f:Str):PySem.W.plainGet K C f=true:=c.pg
section
variable {X:Cx}{pins:List (Addr×Obj)}{σ:St}{H:Hp}{s:Shared}{a C dx:Addr}{fs:List (Str×V)}{f:Str}{v:V}{A:Around}{E:Value->Shared->Prop}
end
section
variable {X:Cx}{o e value:Expr}{f:Str}{pos pos' Fh:Pos}{ta tv:TE}
end
section
variable {X:Cx}{pins:List (Addr×Obj)}{σ:St}{H:Hp}{s:Shared}{A:Around}{E:Value->Shared->Prop}{Q:Value->Shared->Prop}{c:Value}{b:Bool}
inductive qg (K:PySem.W.Frag) (H:Hp):V->Value->Prop where
 |non:qg K H .non (.type "NoneType")
 |bl (x:Bool):qg K H (.bl x) (.type "bool")
 |int (i:Int):qg K H (.int i) (.type "int")
 |str (x:Str):qg K H (.str x) (.type "str")
 |flt (x:UInt64):qg K H (.flt x) (.type "float")
 |lst {a:Addr}{xs:List V} (e:H a=some (.lst xs)):qg K H (.ref a) (.type "list")
 |frz {a:Addr}{o:Obj}{xs:List V} (e:H a=some (.frz o (.lst xs))):qg K H (.ref a) (.type "list")
 |tup {a:Addr}{xs:List V} (e:H a=some (.tup xs)):qg K H (.ref a) (.type "tuple")
 |dK {a:Addr}{kvs:List (Key×V)} (e:H a=some (.dK kvs)):qg K H (.ref a) (.type "dict")
 |dT {a:Addr}{kvs:List (List Key×V)} (e:H a=some (.dT kvs)):qg K H (.ref a) (.type "dict")
 |ins {a C dx:Addr}{fs:List (Str×V)} (e:H a=some (.ins C dx fs)) (cl:Cls K C) (ha:PySem.W.findIn K (.ref C) "__class__" = some (some (.builtin "object.__class__")))
   (hn:PySem.W.specialIn K (.builtin "object.__class__") "__get__" = some (some (.builtin "getset_descriptor.__get__"))) (htk:PySem.W.takesIn K (.builtin "object.__class__")=some true)
   (hm:PySem.W.mroIn K C (.type "object")=some true):qg K H (.ref a) (.ref C)
theorem zX {x:V}{u t:Value}(I:Inv X pins σ H s)(rx:RelV x u)(ty:qg X.K H x t)(e:PySem.W.kitOne X.K t c=some b)(h:∀ tk,Q (.bool b) {s with toks:=tk}):
  wpAny (model X.prog X.w) A (call (.builtin "isinstance") [u,c]) Q E s:=by
 cases ty with
 |non=>cases(show u=Value.none from rx);exact bO PySem.W.kitx_none I.kIn True.intro e (λz=>nomatch z) h
 |bl y=>cases(show u=Value.bool y from rx);exact bO PySem.W.kitx_bool I.kIn True.intro e (λz=>nomatch z) h
 |int i=>obtain⟨t,q⟩:=(show ∃ t,u=Value.int i t from rx);cases q;exact bO PySem.W.kitx_int I.kIn True.intro e (λz=>nomatch z) h
 |str y=>obtain⟨t,q⟩:=(show ∃ t,u=Value.str y t from rx);cases q;exact bO PySem.W.kitx_str I.kIn True.intro e (λz=>nomatch z) h
 |flt y=>obtain⟨t,q⟩:=(show ∃ t,u=Value.float y t from rx);cases q;exact bO PySem.W.kitx_float I.kIn True.intro e (λz=>nomatch z) h
 |@lst a xs ea=>
  cases(show u=Value.ref a from rx)
  obtain⟨_,_,n,_,h1⟩:=(show gD X.prog X.w H s.heap a (.lst xs) from I.hok a _ ea)
  exact bO PySem.W.kitx_list I.kIn ⟨_,h1,rfl⟩ e (λz=>nomatch z) h
 |@frz a ob xs ea=>
  cases(show u=Value.ref a from rx)
  obtain⟨_,_,_,n,_,h1⟩:=(show gD X.prog X.w H s.heap a (.frz ob (.lst xs)) from I.hok a _ ea)
  exact bO PySem.W.kitx_list I.kIn ⟨_,h1,rfl⟩ e (λz=>nomatch z) h
 |@tup a xs ea=>
  cases(show u=Value.ref a from rx)
  obtain⟨_,_,_,p⟩:=(show gD X.prog X.w H s.heap a (.tup xs) from I.hok a _ ea)
  obtain⟨o,h1,h2,_⟩:=p
  exact bO PySem.W.kitx_tuple I.kIn ⟨o,h1,h2⟩ e (λz=>nomatch z) h
 |@dK a kvs ea=>
  cases(show u=Value.ref a from rx)
  obtain⟨_,_,vs,_,p⟩:=(show gD X.prog X.w H s.heap a (.dK kvs) from I.hok a _ ea)
  obtain⟨o,es,ep,h1,h2,_⟩:=p
  exact bO PySem.W.kitx_dict I.kIn ⟨o,h1,h2.1⟩ e (λz=>nomatch z) h
 |@dT a kvs ea=>
  cases(show u=Value.ref a from rx)
  obtain⟨_,_,xs,_,o,es,ep,h1,h2,_⟩:=(show gD X.prog X.w H s.heap a (.dT kvs) from I.hok a _ ea)
  exact bO PySem.W.kitx_dict I.kIn ⟨o,h1,h2.1⟩ e (λz=>nomatch z) h
 |@ins a C dx fs ea cl ha hn htk hm=>
  cases(show u=Value.ref a from rx)
  obtain⟨mA,O,_⟩:=CQ I.hok ea
  obtain⟨od,J,_⟩:=O.look
  exact bO (PySem.W.kitx_own (cl.get _) cl.hd ha hn htk hm) I.kIn J e (λz=>nomatch z) h
end
structure lx (k:Nat)(A:Around):Prop where
 hd:A.handled=none
 dp:A.depth+3*k+5<recursionLimit
 un:A.units+16*k+200<cLine
theorem lx.mono {j k:Nat}{A:Around}(r:lx k A)(h:j<=k):lx j A:=⟨r.hd,by have:=r.dp;omega,by have:=r.un;omega⟩
theorem lx.deeper {k:Nat}{A:Around}(r:lx (k+1) A)(env:Env):lx k (A.deeper env):=
 ⟨r.hd,by have:=r.dp;show A.depth+1+3*k+5<_;omega,by have:=r.un;show A.units+3+16*k+200<_;omega⟩
theorem lx.depth {k:Nat}{A:Around}(r:lx k A):A.depth<recursionLimit:=by have:=r.dp;omega
theorem lx.units {k:Nat}{A:Around}(r:lx k A):A.units+64<cLine:=by have:=r.un;omega
def HA:TA:=λ_ H Q=>Q [] H
def Fx (ta:TE)(tr:TA):TA:=λσ H Q=>ta σ H λx H1=>tr σ H1 λxs H2=>Q (x::xs) H2
section
variable {X:Cx}{e:Expr}{es:List Expr}{te:TE}{t:TA}{pos:Pos}
theorem eI:PA X [] HA:=λ_ _ _ _ H Q I h=>Calls.spliced_nil ⟨[],H,I,.nil,h⟩
theorem eD (ha:PE X e te)(hr:PA X es t)(hs:starEach (e::es) X.env=(false,eval e X.env)::starEach es X.env:=by rfl):PA X (e::es) (Fx te t):=by
 intro pos pins s σ H Q I h
 rw[hs]
 show wpAny _ _ (spliced ((false,eval e X.env)::backTo pos (starEach es X.env))) _ _ s
 refine eB (thn (ha pins s σ H _ I h) λu s1 ⟨x,H1,I1,r1,q1⟩=>?_)
 exact thn (hr pos pins s1 σ H1 _ I1 q1) λus s2 ⟨xs,H2,I2,r2,q2⟩=>⟨x::xs,H2,I2,.cons r1 r2,q2⟩
def Hw (t:TA):TE:=λσ H Q=>t σ H λxs H1=>xs.length<=sizeLine/\∀ p,H1 p=none->Q (.ref p) (upd H1 p (.tup xs))
def HC (t:TA):TE:=λσ H Q=>t σ H λxs H1=>xs.length<=sizeLine/\∀ p,H1 p=none->Q (.ref p) (upd H1 p (.lst xs))
theorem fw {x1}(h:PA X es t):PE X (.Tuple es x1 pos) (Hw t):=by
 intro pins s σ H Q I hq
 refine wpAny_Tuple_spliced (thn (h pos pins s σ H _ I hq) λus s1 ⟨xs,H1,I1,r,z,q⟩=>⟨by rw[<-r.length];exact z,?_⟩)
 have hf:H1 s1.heap.objs.size=none:=I1.hok.fresh (ao _)
 refine⟨.ref s1.heap.objs.size,upd H1 s1.heap.objs.size (.tup xs),I1.laid (t':=s1.toks) (λb u e=>av _ e) (ao _) ?_,rfl,q _ hf⟩
 exact⟨z,us,r,⟨_,bc _ rfl,rfl,_,rfl⟩⟩
theorem fP (h:PA X es t):PE X (.List es pos) (HC t):=by
 intro pins s σ H Q I hq
 refine wpAny_List_spliced (thn (h pos pins s σ H _ I hq) λus s1 ⟨xs,H1,I1,r,z,q⟩=>⟨by rw[<-r.length];exact z,?_⟩)
 have hf:H1 s1.heap.objs.size=none:=I1.hok.fresh (ao _)
 refine⟨.ref s1.heap.objs.size,upd H1 s1.heap.objs.size (.lst xs),I1.laid (t':=s1.toks) (λb u e=>av _ e) (ao _) ?_,rfl,q _ hf⟩
 exact⟨z,us,0,r,bc _ rfl⟩
end
abbrev Sp:=List V->Hp->VK->XK->Prop
abbrev CXT:=List Env->Hp->Shared->XK->Value->Shared->Prop
structure De (P:Program)(w:World)(K:PySem.W.Frag)(mg:Str->Option Value)(base:Heap)(A:Around)(outer:List Env)(s:Shared)(H:Hp):Prop where
 frames:A.frames=some outer
 mod:Mod K mg base
 bs:∀ b o,base.get? b=some o->s.heap.get? b=some o/\H b=none
 bsz:base.objs.size<=s.heap.objs.size
 p6:s.heap.FunFrames base outer
 frf:∀ b∈frs outer,H b=none
 hok:HOk P w H s.heap
 bare:AllBare s.gens
def CE (outer:List Env)(P:Program)(w:World)(H:Hp)(s:Shared)(Q:VK)(u:Value)(s':Shared):Prop:=
 ∃ v H',s'.os=s.os/\AllBare s'.gens/\Un (frs outer) [] H H' s.heap s'.heap/\HOk P w H' s'.heap/\RelV v u/\Q v H'
def CR (CX:CXT)(outer:List Env)(P:Program)(w:World)(H:Hp)(s:Shared)(Q:VK)(E:XK)(r:Result)(s':Shared):Prop:=
 match r with
 |.ok (.ret u)=>CE outer P w H s Q u s'
 |.ok _=>False
 |.error e=>CX outer H s E e s'
structure fh (P:Program)(w:World)(K:PySem.W.Frag)(mg:Str->Option Value)(base:Heap)(CX:CXT)(k:Nat)(f:Addr)(fd:FuncData)(ps:List Str)(sp:Sp):Prop where
 len:∀ vs H Q E,sp vs H Q E->vs.length=ps.length
 run:∀ (A:Around) (outer:List Env) (s:Shared) (H:Hp) (args:Args) (us:List Value) (vs:List V) (Q:VK) (E:XK),lx k A->De P w K mg base A outer s H->BindsTo s fd args (ps.zip us)->Vals vs us->sp vs H Q E->
  codeAny (model P w) A (.call (.ref f) args) (CR CX outer P w H s Q E) s
section
variable {X:Cx}{pins:List (Addr×Obj)}{σ:St}{H:Hp}{s s':Shared}
theorem Inv.Ha (I:Inv X pins σ H s):De X.prog X.w X.K X.mg X.base X.A X.stack s H:=
 ⟨I.ok.frames,I.ok.mod,I.bs,bj I.ok.bsz I.sz,I.stack,I.uC,I.hok,I.bare⟩
theorem Inv.after {Q:VK}{u:Value}(I:Inv X pins σ H s)(h:CE X.stack X.prog X.w H s Q u s'):EP X pins σ Q u s':=by
 obtain⟨v,H',os,bare,un,hok,r,q⟩:=h
 obtain⟨hh,g,d,t,os'⟩:=s'
 obtain rfl:os'=s.os:=os
 exact⟨v,H',I.call (h':=hh) (g':=g) (d':=d) (t':=t) (ch:=[]) un hok bare (λb z=>absurd z (by simp)),r,q⟩
end
def Fy (sp:Sp)(dvs:List V)(E:XK)(t:TA):TE:=λσ H Q=>t σ H λvs H1=>sp (vs++dvs) H1 Q E
def Binds (K:PySem.W.Frag)(fd:FuncData)(ps:List Str)(ds:List Value):Prop:=
 ∀ (s:Shared) (us:List Value),K.In s.heap->(us++ds).length=ps.length->BindsTo s fd ⟨us,[]⟩ (ps.zip (us++ds))
theorem Binds.all {K:PySem.W.Frag}{fd:FuncData}{ps:List Str}(h:∀ us:List Value,us.length=ps.length->bindArgs fd ⟨us,[]⟩=pure (ps.zip us)):Binds K fd ps []:=λs us _ hl=>by
 rw[cY]at hl ⊢
 exact .of_eq (h us hl)
def Passes (CX:CXT)(X:Cx)(E:XK):Prop:=∀ (pins:List (Addr×Obj)) (σ:St) (H:Hp) (s:Shared) (e:Value) (s':Shared),Inv X pins σ H s->CX X.stack H s E e s'->X.xe e s'
section
variable {X:Cx}{CX:CXT}{k:Nat}{f C:Addr}{fd:FuncData}{ps:List Str}{sp:Sp}{dvs:List V}{ds:List Value}{E:XK}{x m:Str}{p pos apos:Pos}{e o:Expr}{es:List Expr}{ta:TE}{t:TA}
theorem DU {pins:List (Addr×Obj)}{σ:St}{H:Hp}{s:Shared}{Q:VK}{us:List Value}{vs:List V}(F:fh X.prog X.w X.K X.mg X.base CX k f fd ps sp)(hr:lx k X.A)(hb:Binds X.K fd ps ds)(hd:Vals dvs ds)(hx:Passes CX X E)
  (I:Inv X pins σ H s) (r:Vals vs us) (h:sp (vs++dvs) H Q E):wpAny (model X.prog X.w) X.A (call (.ref f) us) (EP X pins σ Q) X.xe s:=by
 have r2:Vals (vs++dvs) (us++ds):=r.append hd
 have hl:(us++ds).length=ps.length:=by rw[<-r2.length];exact F.len _ _ _ _ h
 refine wpAny_call (codeAny_mono (F.run X.A X.stack s H ⟨us,[]⟩ (us++ds) (vs++dvs) Q E hr I.Ha (hb s us I.kIn hl) r2 h) λr s' hq=>?_)
 cases r with
 |error e=>exact hx pins σ H s e s' I hq
 |ok fl=>
  cases fl with
  |ret u=>exact I.after hq
  |next=>exact False.elim hq
  |brk=>exact False.elim hq
  |cont=>exact False.elim hq
theorem eU (F:fh X.prog X.w X.K X.mg X.base CX k f fd ps sp)(hr:lx k X.A)(hg:Gl X x)(hm:X.mg x=some (.ref f))(hk:PySem.W.keepIn X.K (.ref f)=true)(hb:Binds X.K fd ps ds)(hd:Vals dvs ds)(hx:Passes CX X E)
  (ha:PA X (e::es) t) (hdb:(x==("__debug__" :Str))=false:=by decide) (he:starEach (e::es) X.env=(false,eval e X.env)::starEach es X.env:=by rfl) (hpl:(backTo pos (starEach es X.env)).any (·.1)=false:=by rfl):
  PE X (.Call (.Name x p) (e::es) [] pos) (Fy sp dvs E t):=by
 intro pins s σ H Q I h
 refine eo (nO I hg hm ?_ hdb)
 refine PySem.W.callWith_K (h₀:=X.base) I.ok.mod.kin hk (thn (ha pos pins s σ H _ I h) λus s1 ⟨vs,H1,I1,r,q⟩=>⟨I1.kIn,?_⟩) he hpl
 exact DU F hr hb hd hx I1 r q
end
section
variable {X:Cx}{CX:CXT}{k:Nat}{f C:Addr}{fd:FuncData}{ps ks:List Str}{sp:Sp}{E:XK}{x m:Str}{p pos apos Nf:Pos}{e o:Expr}{es:List Expr}{kws:List Keyword}{te ta:TE}{t tk:TA}{nm:Option Str}
variable {g:List Value->List Value->List Value}{gV:List V->List V->List V}
end
structure fu (N P:List Str)(sc:Scope):Prop where
 kind:sc.kind = .function
 co:sc.isCoroutine=false
 gen:sc.isGenerator=false
 nd:N.Nodup
 pre:N.take P.length=P
 par:∀ x∈P,sc.names.lookup x=some .local\/sc.names.lookup x=some .cell
 Eo:∀ y∈sc.names,y.2≠ .free
theorem uv {kindOf:Str->Option NameKind}{x:Str} :∀ {binds:List (Str×Value)}{m:Str->Option Value},(∀ v,(x,v)∉binds)->bindL kindOf binds m x=m x
 |[],_,_=>rfl
 |(n,v)::r,m,h=>by
  unfold bindL
  rw[uv λw hw=>h w (ax _ hw)]
  split
  ·have:x≠n:=by rintro rfl;exact h v aB
   simp[this]
  ·rfl
theorem ux {kindOf:Str->Option NameKind}{x:Str} :∀ {binds:List (Str×Value)}{m:Str->Option Value},(∀ v,(x,v)∉binds)->bindC kindOf binds m x=m x
 |[],_,_=>rfl
 |(n,v)::r,m,h=>by
  unfold bindC
  rw[ux λw hw=>h w (ax _ hw)]
  split
  ·rfl
  ·have:x≠n:=by rintro rfl;exact h v aB
   simp[this]
theorem uw {kindOf:Str->Option NameKind}{x:Str}{v:Value} :∀ {P:List Str}{vs:List Value}{i:Nat}{m:Str->Option Value},P.Nodup->P[i]? = some x->vs[i]? = some v->kindOf x=some .local->
  bindL kindOf (P.zip vs) m x=some v
 |[],_,_,_,_,h,_,_=>by simp at h
 |_::_,[],_,_,_,_,h,_=>by simp at h
 |p::P,w::vs,0,m,nd,h1,h2,hk=>by
  simp at h1 h2;subst h1;subst h2
  show bindL kindOf ((p,w)::P.zip vs) m p=_
  unfold bindL
  rw[uv λv hv=>(bq.mp nd).1 (List.of_mem_zip hv).1,aJ hk]
  simp
 |p::P,w::vs,i+1,m,nd,h1,h2,hk=>by
  show bindL kindOf ((p,w)::P.zip vs) m x=_
  unfold bindL
  exact uw (i:=i) (bq.mp nd).2 (by simpa using h1) (by simpa using h2) hk
theorem uy {kindOf:Str->Option NameKind}{x:Str}{v:Value} :∀ {P:List Str}{vs:List Value}{i:Nat}{m:Str->Option Value},P.Nodup->P[i]? = some x->vs[i]? = some v->kindOf x≠some .local->
  bindC kindOf (P.zip vs) m x=some v
 |[],_,_,_,_,h,_,_=>by simp at h
 |_::_,[],_,_,_,_,h,_=>by simp at h
 |p::P,w::vs,0,m,nd,h1,h2,hk=>by
  simp at h1 h2;subst h1;subst h2
  show bindC kindOf ((p,w)::P.zip vs) m p=_
  unfold bindC
  rw[ux λv hv=>(bq.mp nd).1 (List.of_mem_zip hv).1,aF hk]
  simp
 |p::P,w::vs,i+1,m,nd,h1,h2,hk=>by
  show bindC kindOf ((p,w)::P.zip vs) m x=_
  unfold bindC
  exact uy (i:=i) (bq.mp nd).2 (by simpa using h1) (by simpa using h2) hk
def start (N:List Str)(vs:List V):St:=vs.map some++List.replicate (N.length-vs.length) none
def vC (CX:CXT)(P:Program)(w:World)(K:PySem.W.Frag)(mg:Str->Option Value)(base:Heap)(N:List Str)(qual:Str)(scope:Scope)(f:Addr)(cd:Value)(A:Around)(outer:List Env)(s:Shared)(H:Hp)(E:XK):Cx where
 prog:=P
 w:=w
 K:=K
 mg:=mg
 base:=base
 A:=A.deeper (envOfC qual scope s.heap.objs.size f cd)
 N:=N
 s₀:=s
 H₀:=H
 env:=envOfC qual scope s.heap.objs.size f cd
 outer:=outer
 stack:=envOfC qual scope s.heap.objs.size f cd::outer
 ex:=[]
 calm:=true
 fn:=λ_=>true
 pn:=[]
 xe:=λe s'=>wpAny (model P w) (A.deeper (envOfC qual scope s.heap.objs.size f cd)) (leaving (envOfC qual scope s.heap.objs.size f cd) e) (λ_ s''=>CX outer H s E e s'') (λe' s''=>CX outer H s E e' s'') s'
theorem w6 {sc:Scope}{n:Nat}{x:Str}(h:sc.names.lookup x=some .cell):∃ c,(cellsFrom n sc.names []).lookup x=some c:=by
 have q:=PySem.W.cellsFrom_some sc.names n [] (.inl h)
 exact eg.mp q
theorem zY {CX:CXT}{P:Program}{w:World}{K:PySem.W.Frag}{mg:Str->Option Value}{base:Heap}{N ps:List Str}{qual:Str}{scope:Scope}{f:Addr}{cd:Value}{A:Around}{outer:List Env}{s s1:Shared}{H:Hp}{E:XK}{us:List Value}{vs:List V}
  (S:fu N ps scope) (hd:A.handled=none) (e0:De P w K mg base A outer s H) (hl:vs.length=ps.length) (r:Vals vs us)
  (x:InCallC s s.heap.objs.size (bindL (envOfC qual scope s.heap.objs.size f cd).kindOf (ps.zip us) λ_=>none) (cellsFrom (s.heap.objs.size+1) scope.names []) (bindC (envOfC qual scope s.heap.objs.size f cd).kindOf (ps.zip us) λ_=>none) s1):
  Inv (vC CX P w K mg base N qual scope f cd A outer s H E) [] (start N vs) H s1:=by
 have hpl:ps.length<=N.length:=by have:=bS List.length S.pre;rw[aN]at this;omega
 obtain⟨h1,tk,rfl,hk⟩:=x.done
 have noA:∀ b:Addr,b∉(vC CX P w K mg base N qual scope f cd A outer s H E).ex:=λb z=>absurd (show b∈([]:List Addr) from z) (by simp)
 refine⟨⟨e0.mod,S.kind,rfl,rfl,ao _,λy z c h1 h2=>?_,λy hy=>?_,λy c _ h=>?_,λ_=>hd,Around.frames_deeper e0.frames,.inr ⟨rfl,rfl⟩,λb z=>absurd z (noA b),e0.bs,e0.bsz,λb _ _=>noA b,λb z=>absurd z (noA b),e0.p6,e0.frf⟩,
  rfl,e0.bare,Un.kept hk,⟨_,x.toInCall.ns,λi y v h1 h2 h3=>?_⟩,λy c h=>⟨_,x.cell y c h⟩,e0.hok.fresh (ao _),λy c h=>?_,λp hp=>absurd (show p∈([]:List (Addr×Obj)) from hp) (by simp),e0.hok.kept hk,?_⟩
 ·exact name_of_addr x.apart (cg h1) (cg h2)
 ·have hy:scope.names.lookup y=some .cell\/scope.names.lookup y=some .free:=hy
  rcases hy with hy |hy
  ·exact w6 hy
  ·exact absurd rfl (S.Eo _ (cg hy))
 ·exact bE (x.above y c (cg h))
 ·have hi:i<vs.length:=by
   unfold start at h2
   by_cases hi:i<vs.length
   ·exact hi
   ·rw[az (by simpa using hi)]at h2
    rw[List.getElem?_replicate]at h2
    split at h2<;>cases h2
  have ha:vs[i]? = some v:=by
   unfold start at h2
   rw[aq (by simpa using hi),ai]at h2
   cases e:vs[i]? with
   |none=>rw[e]at h2;cases h2
   |some a=>rw[e]at h2;cases h2;rfl
  obtain⟨u,hu,rv⟩:=r.get ha
  have hp:ps[i]? = some y:=by
   rw[<-S.pre,en (by omega)];exact h1
  have ndP:ps.Nodup:=by rw[<-S.pre];exact S.nd.sublist (List.take_sublist _ _)
  refine⟨u,rv,?_⟩
  rcases S.par y (aw hp)with k |k
  ·exact .inl ⟨k,uw ndP hp hu k⟩
  ·obtain⟨c,e⟩:=w6 (n:=s.heap.objs.size+1) k
   refine .inr ⟨.inl k,c,e,?_⟩
   have q:=x.cell y c e
   rw[uy ndP hp hu (by show scope.names.lookup y≠_;rw[k];decide)]at q
   exact q
 ·exact e0.hok.fresh (bE (x.above y c (cg h)))
 ·unfold start
  show _=N.length
  rw[ah,aa,List.length_replicate]
  omega
theorem Dy {CX:CXT}{P:Program}{w:World}{K:PySem.W.Frag}{mg:Str->Option Value}{base:Heap}{k:Nat}{f:Addr}{name qual:Str}{params:Arguments}{body:List Stmt}{scope:Scope}{dV kV doc pm cdv ct oc:Value}{an od:Option Addr}
  {osl:Array (Option Value)}{N ps:List Str}{sp:Sp} (lk:K.lookup f=some ⟨oc,od,.func (PySem.W.fnOf name qual params body scope dV kV doc pm an cdv ct),osl⟩) (hcd:PySem.W.codeIn K cdv qual=true) (S:fu N ps scope)
  (len:∀ vs H Q E,sp vs H Q E->vs.length=ps.length)
  (wJ:∀ (A:Around) (outer:List Env) (s:Shared) (H:Hp) (vs:List V) (Q:VK) (E:XK),lx k (A.deeper (envOfC qual scope s.heap.objs.size f cdv))->sp vs H Q E->
   ∃ t,PSs (vC CX P w K mg base N qual scope f cdv A outer s H E) body t/\t {nx:=λ_ H'=>Q .non H',rt:=Q} (start N vs) H):
  fh P w K mg base CX (k+1) f (PySem.W.fnOf name qual params body scope dV kV doc pm an cdv ct) ps sp:=by
 refine⟨len,λA outer s H args us vs Q E hr e0 hb r hsp=>?_⟩
 have hl:=len _ _ _ _ hsp
 have KX:K.In s.heap:=e0.mod.kin.keeps λb o e=>(e0.bs b o e).1
 have lim:s.heap.NoLimit:=e0.mod.nolimit.keeps λb o e=>(e0.bs b o e).1
 have GI:∀ y∈ps.zip us,scope.names.lookup y.1=some .local\/(scope.names.lookup y.1=some .cell/\((cellsFrom (s.heap.objs.size+1) scope.names []).lookup y.1).isSome=true):=λ⟨n,v⟩ hy=>by
  rcases S.par n (List.of_mem_zip hy).1 with q |q
  ·exact .inl q
  ·exact .inr ⟨q,PySem.W.cellsFrom_some _ _ _ (.inl q)⟩
 refine codeAny_call_function hr.depth (KX _ _ lk) rfl S.co S.gen rfl (PySem.W.codeRec_of KX hcd) (hb _ _ _ _ ?_)
 refine wpAny_newFunctionEnv_cells S.kind GI λenv he s1 x=>?_
 subst he
 refine⟨lim.keeps x.toInCall.keep,codeAny_func ?_⟩
 obtain⟨t,ht,hq⟩:=wJ A outer s H vs Q E (hr.deeper _) hsp
 have I:Inv (vC CX P w K mg base N qual scope f cdv A outer s H E) [] (start N vs) H s1:=zY S hr.hd e0 hl r x
 refine aZ (ht [] s1 (start N vs) H _ I hq) (λfl s' hs=>?_) λe s' hs=>hs
 have fin:∀ {σ':St}{H':Hp}{v:V}{u:Value},Inv (vC CX P w K mg base N qual scope f cdv A outer s H E) [] σ' H' s'->RelV v u->Q v H'->CE outer P w H s Q u s':=
  λ{σ' H' v u} J rv q=>⟨v,H',J.os,J.bare,J.base,J.hok,rv,q⟩
 cases fl with
 |ret u=>
  obtain⟨v,σ',H',J,rv,q⟩:=hs
  exact fin J rv q
 |next=>
  obtain⟨σ',H',J,q⟩:=hs
  exact fin (v:=V.non) (u:=Value.none) J rfl q
 |brk=>
  obtain⟨_,_,_,q⟩:=hs
  exact False.elim q
 |cont=>
  obtain⟨_,_,_,q⟩:=hs
  exact False.elim q
section
variable {X:Cx}{x:Str}{p pos:Pos}{e:Expr}{es:List Expr}{t:TA}{id T:String}{r:List V->Hp->VK->Prop}
def tCB (r:List V->Hp->VK->Prop)(t:TA):TE:=λσ H Q=>t σ H λvs H1=>r vs H1 Q
theorem fc (hc:jC X (.builtin id) r)(hg:Gl X x)(hm:X.mg x=none)(hv:bootBuiltins x=some (.builtin id))(ha:PA X (e::es) t)(hn:x≠ "__name__" :=by decide)(hdb:(x==("__debug__" :Str))=false:=by decide)
  (he:starEach (e::es) X.env=(false,eval e X.env)::starEach es X.env:=by rfl) (hpl:(backTo pos (starEach es X.env)).any (·.1)=false:=by rfl):PE X (.Call (.Name x p) (e::es) [] pos) (tCB r t):=by
 intro pins s σ H Q I h
 refine eo (oy I hg hm hv ?_ hn hdb)
 exact PyProof.Rows.callWith_builtin1 (thn (ha pos pins s σ H _ I h) λus s1 ⟨vs,H1,I1,r1,q1⟩=>hc pins s1 σ H1 vs us Q I1 r1 q1) he hpl
theorem fj (hc:jC X (.type T) r)(hg:Gl X x)(hm:X.mg x=none)(hv:bootBuiltins x=some (.type T))(ha:PA X (e::es) t)(hn:x≠ "__name__" :=by decide)(hdb:(x==("__debug__" :Str))=false:=by decide)
  (he:starEach (e::es) X.env=(false,eval e X.env)::starEach es X.env:=by rfl) (hpl:(backTo pos (starEach es X.env)).any (·.1)=false:=by rfl):PE X (.Call (.Name x p) (e::es) [] pos) (tCB r t):=by
 intro pins s σ H Q I h
 refine eo (oy I hg hm hv ?_ hn hdb)
 exact cj (thn (ha pos pins s σ H _ I h) λus s1 ⟨vs,H1,I1,r1,q1⟩=>hc pins s1 σ H1 vs us Q I1 r1 q1) he hpl
end
end L2
namespace HT
open PySem PyProof.Rows
section
open PySem.SeqAt
open PySem.AutoSeq1 (wpAny_loadPart')
open PySem.MeetsSeq PySem.MeetsSeq2 PySem.MeetsSeq3
end
section
variable {prog:Program}{w:World}{A:Around}{E:Value->Shared->Prop}{s:Shared}
def sIx (n d:Nat):Option Int->Nat
 |none=>d
 |some v=>if v<0 then(v+(n:Int)).toNat else min v.toNat n
theorem vX (n d:Nat):sIx n d none=d:=rfl
theorem Cs (n d k:Nat):sIx n d (some (k:Int))=min k n:=by
 show(if(k:Int)<0 then((k:Int)+(n:Int)).toNat else min (k:Int).toNat n)=min k n
 rw[aF (by omega),Int.toNat_natCast]
theorem C7 (v:Int)(n d:Nat):(if v<0 then max (v+(n:Int)) 0 else min v (n:Int))=((sIx n d (some v):Nat):Int):=by
 show(if v<0 then max (v+(n:Int)) 0 else min v (n:Int))=(((if v<0 then(v+(n:Int)).toNat else min v.toNat n):Nat):Int)
 by_cases hv:v<0
 ·simp only[aJ hv];omega
 ·simp only[aF hv];omega
end
end HT
namespace L2
open PySem PySem.Spec PyProof.Rows
abbrev TO:=St->Hp->(Option Int->Hp->Prop)->Prop
def PO (X:Cx)(e:Option Expr)(t:TO):Prop:=
 ∀ (pins:List (Addr×Obj)) (s:Shared) (σ:St) (H:Hp) (Q:Option Int->Hp->Prop),Inv X pins σ H s->t σ H Q->
  wpAny (model X.prog X.w) X.A (evalPart e X.env) (λu s'=>∃ o H',Inv X pins σ H' s'/\IsPart u o/\Q o H') X.xe s
def Cn:TO:=λ_ H Q=>Q none H
def Fp (t:TE):TO:=λσ H Q=>t σ H λx H1=>∃ i,x = .int i/\Q (some i) H1
theorem intsAre_of {ns:List Int} :∀ {us:List Value},Vals (ns.map V.int) us->IntsAre us ns:=by
 induction ns with
 |nil=>intro us r;rw[List.map_nil]at r;cases r;exact .nil
 |cons n ns ih=>
  intro us r
  rw[aR]at r
  cases r with
  |cons r1 r2=>
   obtain⟨t,e⟩:=r1
   subst e
   exact .cons n t (ih r2)
section
variable {X:Cx}{e:Expr}{te:TE}{lo hi:Option Expr}{tl th:TO}{pos p2:Pos}
theorem mr:PO X none Cn:=by
 intro pins s σ H Q I h
 rw[evalPart_none]
 exact aj ⟨none,H,I,.none,h⟩
theorem lz (h:PE X e te):PO X (some e) (Fp te):=by
 intro pins s σ H Q I hw
 rw[evalPart_some]
 refine thn (h pins s σ H _ I hw) λu s1 ⟨x,H1,I1,r1,q1⟩=>?_
 obtain⟨i,rfl,q⟩:=q1
 obtain⟨t,rfl⟩:=r1
 exact⟨some i,H1,I1,.int i t,q⟩
def SlR (X:Cx)(r:V->Option Int->Option Int->Hp->VK->Prop):Prop:=
 ∀ (pins:List (Addr×Obj)) (s:Shared) (σ:St) (H:Hp) (x:V) (v vl vu:Value) (lo hi:Option Int) (sl:Addr) (Q:VK),Inv X pins σ H s->RelV x v->s.heap.IsSliceOf sl vl vu .none->IsPart vl lo->IsPart vu hi->r x lo hi H Q->
  ∃ T id,typeLookup (.type T) "__getitem__" = pure (some (.builtin id))/\s.TypeIs v T/\wpAny (model X.prog X.w) X.A (getItem v (.ref sl)) (EP X pins σ Q) X.xe s
def tSl (r:V->Option Int->Option Int->Hp->VK->Prop)(te:TE)(tl th:TO):TE:=λσ H Q=>te σ H λx H1=>tl σ H1 λl H2=>th σ H2 λu H3=>r x l u H3 Q
theorem kW {r:V->Option Int->Option Int->Hp->VK->Prop}(hr:SlR X r)(he:PE X e te)(hl:PO X lo tl)(hu:PO X hi th):PE X (.Subscript e (.Slice lo hi none p2) pos) (tSl r te tl th):=by
 intro pins s σ H Q I h
 refine Subscript_ (thn (he pins s σ H _ I h) λv s1 ⟨x,H1,I1,r1,q1⟩=>?_)
 refine wpAny_Slice (thn (hl pins s1 σ H1 _ I1 q1) λvl s2 ⟨l,H2,I2,pl,q2⟩=>thn (hu pins s2 σ H2 _ I2 q2) λvu s3 ⟨u,H3,I3,pu,q3⟩=>?_)
 rw[evalPart_none]
 refine aj ?_
 have I4:Inv X pins σ H3 {s3 with heap:=s3.heap.push {cls:=.type "slice",data:=.fields #[vl,vu,.none]}} :=I3.kept (t':=s3.toks) λb ob q=>av _ q
 obtain⟨T,id,hT,ht,hg⟩:=hr pins {s3 with heap:=s3.heap.push {cls:=.type "slice",data:=.fields #[vl,vu,.none]}} σ H3 x v vl vu l u s3.heap.objs.size Q I4 r1 (Heap.IsSliceOf.new ..) pl pu q3
 show wpAny (model X.prog X.w) X.A (subscriptTail e (.Slice lo hi none p2) v (.ref s3.heap.objs.size)) (EP X pins σ Q) X.xe {s3 with heap:=s3.heap.push {cls:=.type "slice",data:=.fields #[vl,vu,.none]}}
 exact tail_any (ops:=[.ref s3.heap.objs.size,v]) ht hT hg (by with_unfolding_all rfl)
def pf (xs:List V)(lo hi:Option Int):List V:=(xs.drop (HT.sIx xs.length 0 lo)).take (HT.sIx xs.length xs.length hi-HT.sIx xs.length 0 lo)
theorem wW (xs:List V)(lo hi:Option Int):(pf xs lo hi).length<=xs.length:=by
 unfold pf
 rw[aN,bA]
 omega
end
def ixN (n:Nat)(i:Int):Option Nat:=if 0<=i then(if i<n then some i.toNat else none)else if -(n:Int)<=i then some (i+n).toNat else none
def atI {α:Type}(xs:List α)(i:Int):Option α:=(ixN xs.length i).bind λj=>xs[j]?
theorem vi {n:Nat}{i:Int}{j:Nat}(h:ixN n i=some j):seqIndex? i n=some j/\j<n/\ -(n:Int)<=i/\i<n:=by
 unfold ixN at h
 by_cases h0:0<=i
 ·rw[aJ h0]at h
  by_cases h1:i<n
  ·rw[aJ h1]at h
   have e:i.toNat=j:=bh h
   exact⟨by rw[seqIndex_of h0 h1,e],by omega,by omega,h1⟩
  ·rw[aF h1]at h;cases h
 ·rw[aF h0]at h
  by_cases h1: -(n:Int)<=i
  ·rw[aJ h1]at h
   have e:(i+n).toNat=j:=bh h
   exact⟨by rw[seqIndex_neg (by omega) h1,e],by omega,h1,by omega⟩
  ·rw[aF h1]at h;cases h
theorem zk {α:Type}{xs:List α}{i:Int}{v:α}(h:atI xs i=some v):∃ j,seqIndex? i xs.length=some j/\xs[j]? = some v/\j<xs.length/\ -(xs.length:Int)<=i/\i<xs.length:=by
 unfold atI at h
 cases e:ixN xs.length i with
 |none=>rw[e]at h;cases h
 |some j=>
  rw[e]at h
  obtain⟨h1,h2,h3,h4⟩:=vi e
  exact⟨j,h1,h,h2,h3,h4⟩
theorem nS {α:Type}{xs:List α}{j:Nat}{v:α}(h:xs[j]? = some v):atI xs (j:Int)=some v:=by
 have hj:j<xs.length:=(ag.mp h).1
 have e:ixN xs.length (j:Int)=some j:=by
  unfold ixN
  rw[aJ (by omega),aJ (by omega)];simp
 unfold atI;rw[e];exact h
theorem B4 {α:Type}(xs:List α)(v:α):atI (xs ++ [v]) (-1)=some v:=by
 have hl:(xs ++ [v]).length=xs.length+1:=by simp
 have e:ixN (xs ++ [v]).length (-1)=some xs.length:=by
  unfold ixN
  rw[hl,aF (by decide),aJ (by omega)]
  congr 1
  omega
 unfold atI
 rw[e]
 show(xs ++ [v])[xs.length]? = some v
 simp
def Dc (b:Expr):Prop:=∀ o i,subscripted b false o i=operate [o,i] (getItem o i)
def IxR (X:Cx)(r:R2):Prop:=
 ∀ (value slice:Expr) (pins:List (Addr×Obj)) (s:Shared) (σ:St) (H:Hp) (x y:V) (v u:Value) (Q:VK),Inv X pins σ H s->RelV x v->RelV y u->r x y H Q->
  subscripted slice false v u=operate [v,u] (getItem v u)->wpAny (model X.prog X.w) X.A (subscriptTail value slice v u) (EP X pins σ Q) X.xe s
def MtR (X:Cx)(id:String)(r:V->List V->Hp->VK->Prop):Prop:=
 ∀ (pins:List (Addr×Obj)) (s:Shared) (σ:St) (H:Hp) (x:V) (xs:List V) (v:Value) (us:List Value) (Q:VK),Inv X pins σ H s->RelV x v->Vals xs us->r x xs H Q->
  wpAny (model X.prog X.w) X.A (call (.builtin id) (v::us)) (EP X pins σ Q) X.xe s
section
variable {X:Cx}{a b:Expr}{ta tb:TE}{pos:Pos}
theorem fE {r:R2}(hr:IxR X r)(ha:PE X a ta)(hb:PE X b tb)(hs:Dc b):PE X (.Subscript a b pos) (tOp r ta tb):=by
 intro pins s σ H Q I h
 exact Subscript_ (EY ha hb I h λv u s2 x y H2 I2 rx ry q=>hr a b pins s2 σ H2 x y v u Q I2 rx ry q (hs _ _))
def FN (K:PySem.W.Frag):R2:=λx y H Q=>∃ p xs i v,x = .ref p/\y = .int i/\SqL K H p xs/\atI xs i=some v/\Q v H
def FL (K:PySem.W.Frag):R2:=λx y H Q=>∃ p xs i v,x = .ref p/\y = .int i/\SqT K H p xs/\atI xs i=some v/\Q v H
theorem fK:IxR X (FN X.K):=by
 intro value slice pins s σ H x y v u Q I rx ry h hs
 obtain⟨p,xs,i,z,rfl,rfl,hq,he,q⟩:=h
 cases rx
 obtain⟨t,rfl⟩:=ry
 obtain⟨its,r,pl,hz⟩:=I.list hq
 obtain⟨j,h1,h2,h3,h4,h5⟩:=zk he
 obtain⟨w,ew,rw'⟩:=r.get h2
 have hl:=r.length
 have hn:=rW
 have fin:EP X pins σ Q w s:=⟨z,H,I,rw',q⟩
 by_cases h0:0<=i
 ·have hj:i.toNat=j:=by
   rw[seqIndex_of h0 h5]at h1
   exact bh h1
  exact item_listR pl.isList h0 (by omega) (by rw[hj];simpa using ew) fin hs
 ·have hj:(i+(its.toArray.size:Int)).toNat=j:=by
   rw[seqIndex_neg (by omega) h4]at h1
   rw[aD,<-hl]
   exact bh h1
  exact subscriptTail_builtinR (x:=w) pl.isList.typeIs slot_list_getitem.lookup
   (wpAny_getItem_list_neg (Q:=λr s'=>r=w/\EP X pins σ Q r s') pl.isList (by omega) (by rw[aD]<;>omega) (by omega) (by rw[hj];simpa using ew) ⟨rfl,fin⟩) hs
theorem gZ:IxR X (FL X.K):=by
 intro value slice pins s σ H x y v u Q I rx ry h hs
 obtain⟨p,xs,i,z,rfl,rfl,hq,he,q⟩:=h
 cases rx
 obtain⟨t,rfl⟩:=ry
 obtain⟨its,r,pl,hz⟩:=I.tuple hq
 obtain⟨j,h1,h2,h3,h4,h5⟩:=zk he
 obtain⟨w,ew,rw'⟩:=r.get h2
 have hl:=r.length
 have hn:=rW
 have fin:EP X pins σ Q w s:=⟨z,H,I,rw',q⟩
 exact subscriptTail_builtinR (x:=w) pl.typeIs slot_tuple_getitem.lookup
  (getItem_tuple (j:=j) (Q:=λr s'=>r=w/\EP X pins σ Q r s') pl (by omega) (by omega) (by rw[aD,<-hl];exact h1) (by simpa using ew) ⟨rfl,fin⟩) hs
theorem xS (its:List Value)(n j:Nat)(u:Value):Obj.mapSeq (·.setIfInBounds j u) {cls:=.type "list",data:=.seq its.toArray n} = {cls:=.type "list",data:=.seq (its.set j u).toArray n} :=by
 simp[Obj.mapSeq]
theorem Inv.lst {pins:List (Addr×Obj)}{σ:St}{H:Hp}{s:Shared}{p:Addr}{xs:List V}(I:Inv X pins σ H s)(h:H p=some (.lst xs)):
  ∃ (its:List Value) (n:Nat),Vals xs its/\s.heap.get? p=some {cls:=.type "list",data:=.seq its.toArray n} /\xs.length<=sizeLine:=by
 obtain⟨z,its,n,r,e⟩:=I.hok p _ h
 exact⟨its,n,r,e,z⟩
theorem Inv.Es {pins:List (Addr×Obj)}{σ:St}{H:Hp}{s:Shared}{p:Addr}{xs ys:List V}{its its':List Value}{n n':Nat}{f:Obj->Obj}(I:Inv X pins σ H s)(h:H p=some (.lst xs))
  (ho:s.heap.get? p=some {cls:=.type "list",data:=.seq its.toArray n}) (hf:f {cls:=.type "list",data:=.seq its.toArray n} = {cls:=.type "list",data:=.seq its'.toArray n'}) (r:Vals ys its') (hz:ys.length<=sizeLine) (t:Nat):
  Inv X pins σ (upd H p (.lst ys)) {s with heap:=s.heap.update p f,toks:=t} :=by
 have e:(s.heap.update p f).get? p=some {cls:=.type "list",data:=.seq its'.toArray n'} :=by
  rw[Heap.get?_update_self f ho (by rw[hf]<;>rfl),hf]
 refine I.write (x:=p) (e:=p) (by rw[h];trivial) (.inl rfl) (λb u hb q=>(Heap.get?_update_other _ _ (bK hb)).trans q) ⟨_,e⟩ ?_
 exact⟨hz,its',n',r,e⟩
def FJ:V->V->V->Hp->(Hp->Prop)->Prop:=λo i v H Q=>∃ p xs k j,o = .ref p/\i = .int k/\H p=some (.lst xs)/\ixN xs.length k=some j/\Q (upd H p (.lst (xs.set j v)))
theorem set_list:Ho X FJ:=by
 intro pins s σ H o i v ov iv u Q I ro ri rv h
 obtain⟨p,xs,k,j,rfl,rfl,hp,hj,q⟩:=h
 cases ro
 obtain⟨t,rfl⟩:=ri
 obtain⟨its,n,r,ho,hz⟩:=I.lst hp
 obtain⟨h1,h2,h3,h4⟩:=vi hj
 have hl:=r.length
 have hn:=rW
 have I':Inv X pins σ (upd H p (.lst (xs.set j v))) {s with heap:=s.heap.update p (Obj.mapSeq (·.setIfInBounds j u))} :=
  I.Es hp ho (xS its n j u) (r.set rv j) (by rw[bP];exact hz) s.toks
 by_cases h0:0<=k
 ·have hk:k.toNat=j:=by
   rw[seqIndex_of h0 h4]at h1
   exact bh h1
  exact PySem.W.ki_setAt ho h0 (by omega) (by rw[aD,<-hl];exact h4) (by rw[hk];exact⟨_,I',q⟩)
 ·have hk:(k+(its.toArray.size:Int)).toNat=j:=by
   rw[seqIndex_neg (by omega) h3]at h1
   rw[aD,<-hl]
   exact bh h1
  exact PySem.W.ki_setBack ho (by omega) (by rw[aD,<-hl];exact h3) (by omega) (by rw[hk];exact⟨_,I',q⟩)
theorem uH (lo hi:Option Int)(n:Nat):(sliceBounds lo hi none n).1=((HT.sIx n 0 lo:Nat):Int)/\(sliceBounds lo hi none n).2.1=((HT.sIx n n hi:Nat):Int)/\(sliceBounds lo hi none n).2.2=1:=by
 refine⟨?_,?_,rfl⟩
 ·cases lo with
  |none=>simp[sliceBounds,HT.sIx]
  |some i=>
   simp only[sliceBounds,HT.sIx,Option.getD_none,show(1:Int)>0 by decide,dj]
   by_cases h:i<0
   ·simp only[h,dj]<;>omega
   ·simp only[h,bF]<;>omega
 ·cases hi with
  |none=>simp[sliceBounds,HT.sIx]
  |some i=>
   simp only[sliceBounds,HT.sIx,Option.getD_none,show(1:Int)>0 by decide,dj]
   by_cases h:i<0
   ·simp only[h,dj]<;>omega
   ·simp only[h,bF]<;>omega
theorem sQ (its:List Value)(lo hi:Option Int):slicePick its.toArray lo hi none=((its.drop (HT.sIx its.length 0 lo)).take (HT.sIx its.length its.length hi-HT.sIx its.length 0 lo)).toArray:=by
 obtain⟨h1,h2,h3⟩:=uH lo hi its.toArray.size
 unfold slicePick
 rw[h1,h2,h3]
 simp only[sliceRange_one,pick_run,aD]<;>rfl
def Ir (K:PySem.W.Frag):V->Option Int->Option Int->Hp->VK->Prop:=λx lo hi H Q=>∃ a xs,x = .ref a/\SqL K H a xs/\∀ p,H p=none->Q (.ref p) (upd H p (.lst (pf xs lo hi)))
theorem ml:SlR X (Ir X.K):=by
 intro pins s σ H x v vl vu lo hi sl Q I rx hs pl pu h
 obtain⟨a,xs,rfl,hx,q⟩:=h
 cases rx
 obtain⟨its,r,ht,hz⟩:=I.list hx
 have hlen:=r.length
 refine⟨"list",_,slot_list_getitem.lookup,ht.isList.typeIs,?_⟩
 refine wpAny_getItem_list_slice ht.isList hs pl pu .none (by simp) ?_ (by rw[aD]<;>omega)
 rw[sQ,<-hlen]
 refine⟨.ref s.heap.objs.size,_,I.laid (t':=s.toks) (o:=.lst (pf xs lo hi)) (λb ob q=>av _ q) (ao _) ?_,rfl,q _ (I.hok.fresh (ao _))⟩
 exact⟨bj (wW xs lo hi) hz,_,0,(r.drop (HT.sIx xs.length 0 lo)).take (HT.sIx xs.length xs.length hi-HT.sIx xs.length 0 lo),bc _ rfl⟩
theorem fe:jC X (.builtin "len") (λxs H Q=>∃ p ys,xs = [.ref p]/\(SqL X.K H p ys\/SqT X.K H p ys)/\Q (.int ys.length) H):=by
 intro pins s σ H xs us Q I r h
 obtain⟨p,ys,rfl,hq,q⟩:=h
 obtain⟨u,rfl,rx⟩:=vals1 r
 cases rx
 have hn:=rW
 rcases hq with hq |hq
 ·obtain⟨its,r',pl,hz⟩:=I.list hq
  have hlen:=r'.length
  exact Calls.call_len_list pl.isList (by simp only[aD]<;>omega) ⟨.int ys.length,H,I.tok _,⟨s.toks+1,by rw[aD,hlen]⟩,q⟩
 ·obtain⟨its,r',pl,hz⟩:=I.tuple hq
  have hlen:=r'.length
  exact len_tuple pl (by simp only[aD]<;>omega) ⟨.int ys.length,H,I.tok _,⟨s.toks+1,by rw[aD,hlen]⟩,q⟩
theorem gQ:jC X (.type "list") (λxs H Q=>∃ p ys,xs = [.ref p]/\(SqL X.K H p ys\/SqT X.K H p ys)/\∀ l,H l=none->Q (.ref l) (upd H l (.lst ys))):=by
 intro pins s σ H xs us Q I r h
 obtain⟨p,ys,rfl,hq,q⟩:=h
 obtain⟨u,rfl,rx⟩:=vals1 r
 cases rx
 have fin:∀ (its:List Value),Vals ys its->ys.length<=sizeLine->∀ (h':Heap) (c':Nat),(∀ b o',s.heap.get? b=some o'->h'.get? b=some o')->
   h'.get? s.heap.objs.size=some {cls:=.type "list",dict:=none,data:=.seq its.toArray c',slots:= #[]} ->EP X pins σ Q (.ref s.heap.objs.size) {s with heap:=h'} :=λits r' hz h' c' kp e=>
  ⟨.ref s.heap.objs.size,_,I.laid (t':=s.toks) kp (ao _) (show gD X.prog X.w _ h' _ (.lst ys) from⟨hz,its,c',r',e⟩),rfl,q _ (I.hok.fresh (ao _))⟩
 rcases hq with hq |hq
 ·obtain⟨its,r',pl,hz⟩:=I.list hq
  have hlen:=r'.length
  obtain⟨o,ho,hc,n,hd⟩:=pl.isList
  exact call_list_seq p (.inl rfl) ho hc hd (λh' c' kp e=>fin its r' hz h' c' kp e) (by simp only[aD]<;>omega)
 ·obtain⟨its,r',pl,hz⟩:=I.tuple hq
  have hlen:=r'.length
  obtain⟨o,ho,hc,n,hd⟩:=pl
  exact call_list_seq p (.inr rfl) ho hc hd (λh' c' kp e=>fin its r' hz h' c' kp e) (by simp only[aD]<;>omega)
theorem fD:jC X (.type "tuple") (λxs H Q=>∃ p ys,xs = [.ref p]/\((SqL X.K H p ys/\∀ l,H l=none->Q (.ref l) (upd H l (.tup ys)))\/(SqT X.K H p ys/\Q (.ref p) H))):=by
 intro pins s σ H xs us Q I r h
 obtain⟨p,ys,rfl,h⟩:=h
 obtain⟨u,rfl,rx⟩:=vals1 r
 cases rx
 rcases h with⟨hq,q⟩|⟨hq,q⟩
 ·obtain⟨its,r',pl,hz⟩:=I.list hq
  have hlen:=r'.length
  refine call_tuple_list pl.isList (λh' kp=>?_) (by simp only[aD]<;>omega)
  have I1:Inv X pins σ H {s with heap:=h'} :=I.kept (t':=s.toks) kp
  have I2:Inv X pins σ (upd H h'.objs.size (.tup ys)) {s with heap:=h'.push {cls:=.type "tuple",data:=.seq its.toArray}} :=
   I1.laid (t':=s.toks) (λb o e=>av _ e) (ao _) (show gD X.prog X.w _ _ _ (.tup ys) from⟨hz,its,r',IsTup.new _ _⟩)
  exact⟨.ref h'.objs.size,_,I2,rfl,q _ (I1.hok.fresh (ao _))⟩
 ·obtain⟨its,r',pl,hz⟩:=I.tuple hq
  exact call_tuple_same pl ⟨.ref p,H,I,rfl,q⟩
def tyV (K:PySem.W.Frag)(T:String)(x:V)(H:Hp):Prop:=match x with
 |.str _=>T = "str"
 |.int _=>T = "int"
 |.ref p=>(T = "list" /\∃ xs,SqL K H p xs)\/(T = "tuple" /\∃ o,K.lookup p=some o/\o.cls = .type "tuple" /\o.dict=none)\/
   (T = "dict" /\((∃ kvs,H p=some (.dK kvs))\/∃ kvs,H p=some (.dT kvs)))\/(T = "set" /\∃ S n,H p=some (.set S n))
 |_=>False
theorem Az {pins:List (Addr×Obj)}{σ:St}{H:Hp}{s:Shared}{T:String}{x:V}{v:Value}(I:Inv X pins σ H s)(r:RelV x v)(ty:tyV X.K T x H):
  s.TypeIs v T/\∀ a,v = .ref a->∃ ob,s.heap.get? a=some ob/\ob.dict=none:=by
 cases x with
 |str z=>
  obtain⟨t,rfl⟩:=r
  cases(show T = "str" from ty)
  exact⟨typeIs_str s z t,λ_ e=>nomatch e⟩
 |int i=>
  obtain⟨t,rfl⟩:=r
  cases(show T = "int" from ty)
  exact⟨typeIs_int s i t,λ_ e=>nomatch e⟩
 |ref p=>
  cases r
  rcases ty with⟨rfl,xs,hq⟩|⟨rfl,o,hk,hc,hd⟩|⟨rfl,hk⟩|⟨rfl,S,n,hk⟩
  ·obtain⟨its,_,pl,_⟩:=I.list hq
   refine⟨pl.isList.typeIs,λa e=>?_⟩
   cases e
   obtain⟨o,n,e,c,hd,_⟩:=pl
   exact⟨o,e,hd⟩
  ·refine⟨⟨o,I.kIn p o hk,hc⟩,λa e=>?_⟩
   cases e
   exact⟨o,I.kIn _ o hk,hd⟩
  ·have z:∃ o,s.heap.get? p=some o/\o.ExactDict:=by
    rcases hk with⟨kvs,hk⟩|⟨kvs,hk⟩
    ·obtain⟨_,_,_,_,o,_,_,e,ex,_⟩:=I.hok p _ hk
     exact⟨o,e,ex⟩
    ·obtain⟨_,_,_,_,o,_,_,e,ex,_⟩:=I.hok p _ hk
     exact⟨o,e,ex⟩
   obtain⟨o,e,ex⟩:=z
   refine⟨⟨o,e,ex.1⟩,λa e2=>?_⟩
   cases e2
   exact⟨o,e,ex.2.1⟩
  ·obtain⟨o,_,_,_,e,ex,_⟩:=I.hok p _ hk
   refine⟨⟨o,e,ex.1⟩,λa e2=>?_⟩
   cases e2
   exact⟨o,e,ex.2.1⟩
 |_=>exact False.elim ty
def HI (K:PySem.W.Frag)(T:String)(r:V->List V->Hp->VK->Prop)(to:TE):TE:=λσ H Q=>to σ H λx H1=>tyV K T x H1/\r x [] H1 Q
def tBM (K:PySem.W.Frag)(T:String)(r:V->List V->Hp->VK->Prop)(to:TE)(t:TA):TE:=λσ H Q=>to σ H λx H1=>tyV K T x H1/\t σ H1 λxs H2=>r x xs H2 Q
variable {o e:Expr}{es:List Expr}{to:TE}{t:TA}{name:Str}{apos i8:Pos}{T id:String}{r:V->List V->Hp->VK->Prop}
theorem Ef (pa:PlainAttrs T)(slot:Slot T name id)(hty:typeOf (.builtin id)=pure (.type "method_descriptor"))(hm:MtR X id r)(ho:PE X o to)
  (BK:attributeBase o name X.env (eval o X.env)=eval o X.env:=by rfl) (BH:(apos.endLine==i8.line)=true:=by rfl):PE X (.Call (.Attribute o name apos) [] [] i8) (HI X.K T r to):=by
 intro pins s σ H Q I h
 refine wpAny_Call_method0_late BK BH (thn (ho pins s σ H _ I h) λv s1 ⟨x,H1,I1,r1,ty,q1⟩=>?_)
 obtain⟨h1,h2⟩:=Az I1 r1 ty
 exact⟨T,id,pa,slot,hty,h1,h2,dG rfl (PySem.evalArgs_none (hm pins s1 σ H1 x [] v [] Q I1 r1 .nil q1))⟩
theorem ki (pa:PlainAttrs T)(slot:Slot T name id)(hty:typeOf (.builtin id)=pure (.type "method_descriptor"))(hm:MtR X id r)(ho:PE X o to)(ha:PA X (e::es) t)
  (BK:attributeBase o name X.env (eval o X.env)=eval o X.env:=by rfl)
  (vq:((backTo i8 (starEach (e::es) X.env)).all (λx=> !x.1)&&(backToKw i8 (keywordEach [] X.env)).all (λx=>x.1.isSome)
   && decide ((e::es).length+([]:List Keyword).length+(if([]:List Keyword).isEmpty then 0 else 1)<30))=true:=by rfl)
  (BH:(apos.endLine==i8.line)=true:=by rfl) (hs:starEach (e::es) X.env=(false,eval e X.env)::starEach es X.env:=by rfl) (EJ:(backTo i8 (starEach es X.env)).any (·.1)=false:=by rfl):
  PE X (.Call (.Attribute o name apos) (e::es) [] i8) (tBM X.K T r to t):=by
 intro pins s σ H Q I h
 refine wpAny_Call_method_late BK vq BH rfl (thn (ho pins s σ H _ I h) λv s1 ⟨x,H1,I1,r1,ty,q1⟩=>?_)
 obtain⟨h1,h2⟩:=Az I1 r1 ty
 refine⟨T,id,pa,slot,hty,h1,h2,?_⟩
 have hA:=ha i8 pins s1 σ H1 _ I1 q1
 rw[hs]at hA ⊢
 refine dG (by show(false||(backTo i8 (starEach es X.env)).any (·.1))=false;rw[EJ]<;>rfl) (dU ?_)
 exact thn hA λus s2 ⟨vs,H2,I2,r2,q2⟩=>hm pins s2 σ H2 x vs v us Q I2 r1 r2 q2
/- xs.append(e),list.index on a F6 tuple .. are MtR facts of 06m -/
end
def MtM (X:Cx)(id:String)(r:V->List V->Hp->VK->Prop):Prop:=
 ∀ (pins:List (Addr×Obj)) (s:Shared) (σ:St) (H:Hp) (x:V) (xs:List V) (v:Value) (us:List Value) (Q:VK),Inv X pins σ H s->RelV x v->Vals xs us->r x xs H Q->
  wpAny (model X.prog X.w) X.A (call (.builtin id) (v::us)) (EP X pins σ Q) X.xe s
theorem Vals.one:∀ {x:V}{us:List Value},Vals [x] us->∃ u,us = [u]/\RelV x u
 |_,_,.cons r .nil=>⟨_,rfl,r⟩
theorem Vals.two {x y:V}{us:List Value}(h:Vals [x,y] us):∃ u v,us = [u,v]/\RelV x u/\RelV y v:=by
 cases h with
 |cons r t=>
  cases t with
  |cons q n=>
   cases n
   exact⟨_,_,rfl,r,q⟩
theorem Vals.zero:∀ {us:List Value},Vals [] us->us = []
 |_,.nil=>rfl
theorem Vals.eraseIdx:∀ {xs:List V}{us:List Value} (i:Nat),Vals xs us->Vals (xs.eraseIdx i) (us.eraseIdx i)
 |_,_,_,.nil=>.nil
 |_,_,0,.cons _ t=>t
 |_,_,i+1,.cons r t=>.cons r (Vals.eraseIdx i t)
theorem Vals.reverse {xs:List V}{us:List Value}(h:Vals xs us):Vals xs.reverse us.reverse:=by
 induction h with
 |nil=>exact .nil
 |cons r t ih=>rw[dw,dw];exact Vals.append ih (.cons r .nil)
theorem ud {α:Type} :∀ (l:List α) (i:Nat),(l.eraseIdx i).length<=l.length
 |[],_=>ao _
 |_::_,0=>d8 _
 |_::r,i+1=>Nat.succ_le_succ (ud r i)
section
variable {X:Cx}{pins:List (Addr×Obj)}{σ:St}{H:Hp}{s:Shared}{l b:Addr}{xs ys zs:List V}
theorem Inv.CM {its its':List Value}{n:Nat}{f:Array Value->Array Value}{t':Nat}(I:Inv X pins σ H s)(hH:H l=some (.lst xs))
  (e:s.heap.get? l=some {cls:=.type "list",data:=.seq its.toArray n}) (hf:f its.toArray=its'.toArray) (hv:Vals ys its') (hz:ys.length<=sizeLine):
  Inv X pins σ (upd H l (.lst ys)) {s with heap:=s.heap.update l (Obj.mapSeq f),toks:=t'} :=by
 have q:=PySem.IsL.update e f
 rw[hf]at q
 refine I.write (x:=l) (e:=l) (by rw[hH];exact trivial) (.inl rfl) (λb' u hb hu=>(Heap.get?_update_other s.heap (Obj.mapSeq f) (bK hb)).trans hu) ⟨_,q⟩ ?_
 exact⟨hz,its',_,hv,q⟩
theorem Inv.Gb {its:List Value}{t':Nat}(I:Inv X pins σ H s)(hv:Vals ys its)(hz:ys.length<=sizeLine):
  Inv X pins σ (upd H s.heap.objs.size (.lst ys)) {s with heap:=s.heap.push {cls:=.type "list",data:=.seq its.toArray},toks:=t'} :=
 I.laid (λ_ _ q=>av _ q) (ao _) ⟨hz,its,0,hv,bc _ rfl⟩
theorem Inv.fresh (I:Inv X pins σ H s):H s.heap.objs.size=none:=I.hok.fresh (ao _)
theorem Inv.zR (I:Inv X pins σ H s)(hH:H l=some (.lst xs)):xs.length<=sizeLine/\∃ (its:List Value) (n:Nat),Vals xs its/\xs.length=its.length/\s.heap.get? l=some {cls:=.type "list",data:=.seq its.toArray n} :=by
 obtain⟨z,its,n,r,e⟩:=I.hok l _ hH
 exact⟨z,its,n,r,r.length,e⟩
end
section
variable {X:Cx}
def Cw:V->List V->Hp->VK->Prop:=λx vs H Q=>∃ l xs y,x = .ref l/\vs = [y]/\H l=some (.lst xs)/\xs.length<sizeLine/\Q .non (upd H l (.lst (xs ++ [y])))
theorem gI:MtM X "list.append" Cw:=by
 intro pins s σ H x vs v us Q I rx rv h
 obtain⟨l,xs,y,rfl,rfl,hH,hz,q⟩:=h
 cases rx
 obtain⟨u,rfl,ru⟩:=rv.one
 obtain⟨z,its,n,r,hl,e⟩:=I.zR hH
 refine call_meets F.slot_list_append ⟨_,e,rfl⟩ F.entry_list_append (F.args_list_append_2 _ _) (PySem.list_append l its.toArray n u (by rw[aD];omega)) ⟨e,?_⟩
 refine⟨.non,_,I.CM (its':=its ++ [u]) hH e (by simp) (r.append (.cons ru .nil)) ?_,rfl,q⟩
 rw[ah,aQ]
 omega
def DZ:V->List V->Hp->VK->Prop:=λx vs H Q=>∃ l xs i k y,x = .ref l/\vs = [.int i]/\H l=some (.lst xs)/\ -(2 ^ 63)<=i/\i<2 ^ 63/\seqIndex? i xs.length=some k/\xs[k]? = some y/\Q y (upd H l (.lst (xs.eraseIdx k)))
theorem Bi:MtM X "list.pop" DZ:=by
 intro pins s σ H x vs v us Q I rx rv h
 obtain⟨l,xs,i,k,y,rfl,rfl,hH,h1,h2,hk,hy,q⟩:=h
 cases rx
 obtain⟨u,rfl,ru⟩:=rv.one
 obtain⟨t,rfl⟩:=ru
 obtain⟨z,its,n,r,hl,e⟩:=I.zR hH
 obtain⟨w,hw,rw'⟩:=r.get hy
 refine call_meets F.slot_list_pop ⟨_,e,rfl⟩ F.entry_list_pop (F.args_list_pop_2 _ _)
  (MeetsSeq.list_pop_at l its.toArray n i t k w (fitsIndex_both h1 h2) (by rw[aD,<-hl];exact hk) (by rw[<-bI];exact hw) (by rw[aD];omega)) ⟨e,?_⟩
 refine⟨y,_,I.CM (its':=its.eraseIdx k) hH e ?_ (r.eraseIdx k) ?_,rw',q⟩
 ·show its.toArray.eraseIdxIfInBounds k=(its.eraseIdx k).toArray
  rw[List.eraseIdxIfInBounds_toArray]
 ·have:=ud xs k
  omega
def AQ:V->List V->Hp->VK->Prop:=λx vs H Q=>∃ l xs,x = .ref l/\vs = []/\H l=some (.lst xs)/\Q .non (upd H l (.lst xs.reverse))
theorem xP:MtM X "list.reverse" AQ:=by
 intro pins s σ H x vs v us Q I rx rv h
 obtain⟨l,xs,rfl,rfl,hH,q⟩:=h
 cases rx
 have hus:=rv.zero
 subst hus
 obtain⟨z,its,n,r,hl,e⟩:=I.zR hH
 refine call_meets F.slot_list_reverse ⟨_,e,rfl⟩ F.entry_list_reverse (F.args_list_reverse_1 _) (AutoSeq1.list_reverse_list_0 l its.toArray n (by rw[aD];omega)) ⟨e,?_⟩
 refine⟨.non,_,I.CM (its':=its.reverse) hH e (by simp) r.reverse ?_,rfl,q⟩
 rw[b3]
 omega
def Iw:R2:=λx y H Q=>∃ l b xs zs,x = .ref l/\y = .ref b/\H l=some (.lst xs)/\H b=some (.lst zs)/\xs.length+zs.length<=sizeLine/\∀ p,H p=none->Q (.ref p) (upd H p (.lst (xs++zs)))
theorem kX:OpR X (binaryOp .Add) Iw:=by
 intro pins s σ H x y v u Q I rx ry h
 obtain⟨l,b,xs,zs,rfl,rfl,hH,hB,hz,q⟩:=h
 cases rx
 cases ry
 obtain⟨z,its,n,r,hl,e⟩:=I.zR hH
 obtain⟨z2,Gi,n2,r2,hl2,e2⟩:=I.zR hB
 refine PySem.P.add_list e e2 ?_ (by rw[aD,aD];omega)
 have ea:its.toArray++Gi.toArray=(its++Gi).toArray:=by simp
 rw[ea]
 exact⟨.ref _,_,I.Gb (t':=s.toks) (r.append r2) (by rw[ah];omega),rfl,q _ I.fresh⟩
end
section
variable {prog:Program}{w:World}{A:Around}{E:Value->Shared->Prop}{s:Shared}
end
section
variable {X:Cx}
end
end L2
namespace Att
open PySem PySem.W PySem.Calls PyProof.Rows
theorem qH {P:Params}{h:Heap} :∀ (ns:List Int) (vs:List Value),WellAll P h vs (ns.map WData.int)->IntsAre vs ns:=by
 intro ns
 induction ns with
 |nil=>
  intro vs w
  rw[List.map_nil]at w
  cases w
  exact .nil
 |cons n ns ih=>
  intro vs w
  rw[aR]at w
  cases w with
  |cons a b=>
   cases a
   exact .cons _ _ (ih _ b)
theorem zC {l:OpenLaw}{n:Nat}(hn:l.most=some n){P:Params}{h:Heap}{args:List WData}{vals:List Value}
  (wF:l.row.toRowW.claim.pre args=true) (hwl:WellAll P h vals args):
  ∃ a vs ns,vals = [Value.ref a]/\args = [WData.list (ns.map WData.int)]/\h.get? a=some {cls:=.type "list",data:=.seq vs.toArray} /\IntsAre vs ns/\ns.length<=n:=by
 have hsh:WShape.hasAll [] args [.list .int]=true:=(pre_splitW wF).1
 have hc:l.pre.holds [] {args:=args} = true:=(pre_splitW wF).2
 obtain⟨d,r,rfl,h1,h2⟩:=hasAllW_cons hsh
 obtain rfl:=hasAllW_nil h2
 obtain⟨xs,rfl,h3⟩:=hasW_list h1
 obtain⟨ns,rfl⟩:=items_int h3
 have hlen:ns.length<=n:=by
  unfold OpenLaw.pre at hc
  have h4:(WTm.not (.lt (.lit (.int (n:Int))) (.len (.arg 0)))).holds [] {args:=[.list (ns.map .int)]} = true:=by
   have h4:=(holds_andW hc).1
   rw[hn]at h4
   exact h4
  have h5:=condW_of h4 (w_not (w_lt w_lit (w_len_list (w_arg rfl))))
  rw[aa]at h5
  refine Nat.le_of_not_lt λq=>?_
  have q':(n:Int)<((ns.length:Nat):Int):=by omega
  first
   |(rw[bG q']at h5;exact absurd h5 (by decide))
   |(simp at h5;omega)
 cases hwl with
 |cons w1 w2=>
  cases w2
  cases w1 with
  |list ho lj=>exact⟨_,_,ns,rfl,rfl,ho,qH ns _ lj,hlen⟩
theorem zI (l:OpenLaw)(args:List WData):l.row.toRowW.claim.post args (.bool true) args=true:=
 postW_of (r:=l.row.toRowW) (X:=(true==true))
  (show WShape.has [] (.bool true) .bool=true by first |rfl |decide |simp[WShape.has,WShape.arms,WShape.armsAll])
  (show(WTm.eq .res (.lit (.bool true))).value [] {args:=args,res:=some (.bool true),after:=args} = some (.bool (true==true)) from w_eq_bool (w_res rfl) w_lit) rfl
theorem xk {l:OpenLaw}{n:Nat}{q:Program}{loose:List Str}{XP:(Str->Option Value)->Heap->Prop}{YP:World->Heap->Prop}{d:DefRec}
  (hn:l.most=some n) (hdf:d.params.defaults = [])
  (call:∀ (w:World) (s₀ s₁:Shared) (mg mb:Str->Option Value) (fa:Addr) (o:Obj) (pm cd doc:Value) (a:Addr) (vs:List Value) (ns:List Int),
   Ground q loose [] XP w s₀ mg mb s₁.heap->YP w s₁.heap->
   s₁.heap.get? fa=some o->o.data = .func (docDef d.name d.params d.body d.scope pm cd doc)->s₁.heap.CodeRec cd d.name->mg d.name=some (.ref fa)->
   s₁.heap.get? a=some {cls:=.type "list",data:=.seq vs.toArray} ->IntsAre vs ns->ns.length<=n->s₁.gens = #[]->
   codeAny (model l.prog w) callerA (.call (.ref fa) ⟨[.ref a],[]⟩) (λr s'=>r = .ok (.ret (.bool true))/\OldK s₁.heap s'.heap/\s'.os=s₁.os/\AllBare s'.gens) s₁):
  WalkO q loose XP YP l.row.toRowW d [] (λf vs=>PySem.call f vs):=by
 intro w s₀ s₁ mg mb G Y fa o pm cd doc dV kV ho hd hcd hD hmg hg args vals as wF Nh hrd hwl hlo
 obtain rfl:dV = .none:=Dflts.none hD hdf
 obtain rfl:kV = .none:=Dflts.noKw hD
 obtain⟨a,vs,ns,rfl,rfl,EL,hints,hlen⟩:=zC hn wF hwl
 refine enter_call (codeAny_mono (call w s₀ s₁ mg mb fa o pm cd doc a vs ns G Y ho (fd_plain hd) hcd hmg EL hints hlen hg) λr s' hq=>?_)
 obtain⟨rfl,h2,h3,h4⟩:=hq
 exact⟨.inl ⟨.bool true,.bool true,[],rfl,λ_=>rfl,.bool true,zI l _,λ_=>⟨List.Pairwise.nil,λ_ hm=>(nomatch hm)⟩⟩,h2,h3,h4⟩
section
variable {prog:Program}{w:World}{A:Around}{E:Value->Shared->Prop}{s:Shared}{K:Frag}
end
end Att
namespace L2
open PySem PySem.Spec PyProof.Rows
theorem pI:∀ {vs:List Value}{ns:List Int},IntsAre vs ns->Vals (ns.map V.int) vs
 |_,_,.nil=>.nil
 |_,_,.cons n t h=>.cons ⟨t,rfl⟩ (pI h)
def E6 (H:Hp):Prop:=∀ b,H b=none\/∃ o xs,H b=some (.frz o (.lst xs))
theorem Bw {P:Program}{w:World}{K:PySem.W.Frag}{mg mb:Str->Option Value}{CX:CXT}{k:Nat}{fa a:Addr}{fd:FuncData}{x:Str}{sp:Sp}{s₁:Shared}{vs:List Value}{ns:List Int}
  (KX:K.In s₁.heap) (hns:s₁.heap.Ns mainGlobals mg) (hb:s₁.heap.Ns builtinsNs mb) (hbb:∀ x:Str,x≠ "__name__" ->mb x=bootBuiltins x) (KW:s₁.heap.NoLimit) (hg:s₁.gens = #[])
  (ha:s₁.heap.get? a=some {cls:=.type "list",data:=.seq vs.toArray}) (hi:IntsAre vs ns) (hl:ns.length<=sizeLine) (hr:lx k callerA)
  (F:∀ base:Heap,K.In base->base.Ns mainGlobals mg->fh P w K mg base CX k fa fd [x] sp) (GQ:∀ (s:Shared) (u:Value),BindsTo s fd ⟨[u],[]⟩ [(x,u)])
  (hsp:∀ H:Hp,E6 H->SqL K H a (ns.map V.int)->sp [.ref a] H (λv _=>v = .bl true) λ_ _ _=>False)
  (hCX:∀ H e s',CX [] H s₁ (λ_ _ _=>False) e s'->False):
  codeAny (model P w) callerA (.call (.ref fa) ⟨[.ref a],[]⟩) (λr s'=>r = .ok (.ret (.bool true))/\OldK s₁.heap s'.heap/\s'.os=s₁.os/\AllBare s'.gens) s₁:=by
 have rv:=pI hi
 have Kc:=hi.length
 have core:∀ H:Hp,E6 H->SqL K H a (ns.map V.int)->HOk P w H s₁.heap->(∀ b,H b≠none->b=a)->(H a≠none->K.lookup a=none)->
   codeAny (model P w) callerA (.call (.ref fa) ⟨[.ref a],[]⟩) (λr s'=>r = .ok (.ret (.bool true))/\OldK s₁.heap s'.heap/\s'.os=s₁.os/\AllBare s'.gens) s₁:=by
  intro H hO hS hok hA hK
  have zj:∀ {b:Addr}{o:Obj},s₁.heap.get? b=some o->H b=none->(vp s₁.heap H).get? b=some o:=λe n=>BJ e n
  have noA:∀ {b:Addr}{o:Obj}{es:Array DictEntry}{ep:Nat},s₁.heap.get? b=some o->o.data = .dict es ep->H b=none:=λ{b o es ep} e d=>by
   cases q:H b with
   |none=>rfl
   |some u=>
    have e':b=a:=hA b (by rw[q];simp)
    subst e'
    rw[ha]at e;cases e
    have d':Data.seq vs.toArray _=Data.dict es ep:=d
    cases d'
  have nsK:∀ {b:Addr}{m:Str->Option Value},s₁.heap.Ns b m->(vp s₁.heap H).Ns b m:=λ{b m} ⟨o,es,ep,e,d,r⟩=>⟨o,es,ep,zj e (noA e d),d,r⟩
  have hKb:K.In (vp s₁.heap H):=λb o e=>zj (KX b o e) (by
   cases q:H b with
   |none=>rfl
   |some u=>
    have e':b=a:=hA b (by rw[q];simp)
    subst e'
    rw[hK (by rw[q];simp)]at e;cases e)
  have hM:Mod K mg (vp s₁.heap H):=⟨hKb,nsK hns,⟨mb,nsK hb,hbb⟩,let ⟨mc,h1,h2⟩:=KW;⟨mc,nsK h1,h2⟩⟩
  have e0:De P w K mg (vp s₁.heap H) callerA [] s₁ H:=⟨rfl,hM,λb o e=>CJ e,Nat.le_of_eq (Ad _ _),trivial,λb hb=>absurd (show b∈([]:List Addr) from hb) (by simp),hok,.of_eq hg⟩
  refine codeAny_mono ((F _ hKb (nsK hns)).run callerA [] s₁ H ⟨[.ref a],[]⟩ [.ref a] [.ref a] _ _ hr e0 (GQ s₁ (.ref a)) (.cons rfl .nil) (hsp H hO hS)) λr s' h=>?_
  cases r with
  |error e=>exact(hCX H e s' h).elim
  |ok fl=>
   cases fl with
   |next=>exact False.elim h
   |brk=>exact False.elim h
   |cont=>exact False.elim h
   |ret u=>
    obtain⟨v,H',os,bare,un,KQ,r',q⟩:=h
    have q':v = .bl true:=q
    subst q'
    obtain rfl:u=Value.bool true:=r'
    refine⟨rfl,OldK.of_keep λb o e=>?_,os,bare⟩
    cases q:H b with
    |none=>exact un.keep b o e q (by intro z;exact absurd (show b∈([]:List Addr) from z) (by simp)) (by simp)
    |some u=>
     rcases hO b with z |⟨ob,xs,z⟩
     ·rw[q]at z;cases z
     ·have z2:=un.nV b ob _ z
      obtain⟨e1,_⟩:=hok b _ z
      obtain⟨e2,_⟩:=KQ b _ z2
      rw[e]at e1;cases e1
      exact e2
 cases hk:K.lookup a with
 |some o=>
  have e:=KX a o hk
  rw[ha]at e
  cases e
  refine core (λ_=>none) (λ_=>.inl rfl) (.inr ⟨_,vs.toArray,_,hk,rfl,rfl,rfl,by rw[aD,Kc];exact hl,by simpa using rv⟩) (λb u z=>by have z':(none:Option HO)=some u:=z;cases z') (λb z=>absurd rfl z) λz=>absurd rfl z
 |none=>
  refine core (λb=>if b=a then some (.frz {cls:=.type "list",data:=.seq vs.toArray} (.lst (ns.map V.int)))else none) (λb=>?_) (.inl (.inr ⟨{cls:=.type "list",data:=.seq vs.toArray},aJ rfl⟩)) (λb u z=>?_) (λb z=>?_) λ_=>hk
  ·by_cases hb:b=a
   ·exact .inr ⟨_,_,aJ hb⟩
   ·exact .inl (aF hb)
  ·by_cases hb:b=a
   ·have z':=(aJ hb).symm.trans z
    cases z'
    subst hb
    exact⟨ha,by rw[aa];exact hl,vs,_,rv,ha⟩
   ·have z':=(aF hb).symm.trans z
    cases z'
  ·by_cases hb:b=a
   ·exact hb
   ·exact absurd (aF hb) z
abbrev KOf {K:PySem.W.Frag}{h:Heap}(_:K.In h):PySem.W.Frag:=K
theorem Cj {l:PySem.W.OpenLaw}{n k:Nat}{q:Program}{loose:List Str}{XP:(Str->Option Value)->Heap->Prop}{YP:World->Heap->Prop}{d:DefRec}{K:Params->PySem.W.Frag}{CX:World->CXT}{sp:World->Sp}{x:Str}
  (hn:l.most=some n) (hn2:n<=sizeLine) (hdf:d.params.defaults = []) (hr:lx k callerA)
  (hY:∀ (w:World) (h:Heap),YP w h->(K w.params).In h)
  (F:∀ (w:World) (mg:Str->Option Value) (fa:Addr) (h:Heap),(K w.params).In h->h.Ns mainGlobals mg->mg d.name=some (.ref fa)->
   ∃ fd:FuncData,(∀ (s:Shared) (u:Value),BindsTo s fd ⟨[u],[]⟩ [(x,u)])/\
    ∀ base:Heap,(K w.params).In base->base.Ns mainGlobals mg->fh l.prog w (K w.params) mg base (CX w) k fa fd [x] (sp w))
  (hsp:∀ (w:World) (H:Hp) (a:Addr) (ns:List Int),ns.length<=n->E6 H->SqL (K w.params) H a (ns.map V.int)->sp w [.ref a] H (λv _=>v = .bl true) λ_ _ _=>False)
  (hCX:∀ (w:World) (H:Hp) (s:Shared) (e:Value) (s':Shared),CX w [] H s (λ_ _ _=>False) e s'->False):
  PySem.W.WalkO q loose XP YP l.row.toRowW d [] (λf vs=>PySem.call f vs):=by
 refine Att.xk hn hdf λw s₀ s₁ mg mb fa o pm cd doc a vs ns G Y ho hd hcd hmg EL hints hlen hg=>?_
 have KX:=hY w _ Y
 obtain⟨fd,hb,hF⟩:=F w mg fa _ KX G.T.g hmg
 exact Bw KX G.T.g G.T.b G.T.builtins G.T.nolimit hg EL hints (bj hlen hn2) hr hF hb (λH hO hS=>hsp w H a ns hlen hO hS) λH e s'=>hCX w H s₁ e s'
def lC (s:Stmt):Arguments:=match s with
 |.FunctionDef _ a _ _ _ _ _ _ _ _=>a
 |_=>{posonlyargs:=[],args:=[],vararg:=none,kwonlyargs:=[],kw_defaults:=[],kwarg:=none,defaults:=[]}
def jW (s:Stmt):List Stmt:=match s with
 |.FunctionDef _ _ b _ _ _ _ _ _ _=>b
 |_=>[]
def eS (s:Stmt):Scope:=match s with
 |.FunctionDef _ _ _ _ _ _ sc _ _ _=>sc
 |_=>{kind:=.function,names:=[],isGenerator:=false,isCoroutine:=false}
abbrev CX0:CXT:=λ_ _ _ _ _ _=>False
abbrev E0:XK:=λ_ _ _=>False
theorem fi {X:Cx} :Passes CX0 X E0:=λ_ _ _ _ _ _ _ h=>h.elim
structure Fun (K:PySem.W.Frag)(x qual:Str)(st:Stmt)(f:Addr)(fd:FuncData):Prop where
 ex:∃ (oc:Value) (od:Option Addr) (kV doc pm:Value) (an:Option Addr) (cdv ct:Value) (osl:Array (Option Value)),
  fd=PySem.W.fnOf x qual (lC st) (jW st) (eS st) .none kV doc pm an cdv ct/\K.lookup f=some ⟨oc,od,.func fd,osl⟩/\PySem.W.codeIn K cdv qual=true
 kp:PySem.W.keepIn K (.ref f)=true
section
variable {P:Program}{w:World}{K:PySem.W.Frag}{mg:Str->Option Value}{base:Heap}
theorem Fun.ok {x qual:Str}{st:Stmt}{f:Addr}{fd:FuncData}{N ps:List Str}{k:Nat}{sp:Sp}(F:Fun K x qual st f fd)(S:fu N ps (eS st))(len:∀ vs H Q E,sp vs H Q E->vs.length=ps.length)
  (wJ:∀ (cdv:Value) (A:Around) (outer:List Env) (s:Shared) (H:Hp) (vs:List V) (Q:VK) (E:XK),lx k (A.deeper (envOfC qual (eS st) s.heap.objs.size f cdv))->sp vs H Q E->
   ∃ t,PSs (vC CX0 P w K mg base N qual (eS st) f cdv A outer s H E).nox (jW st) t/\t {nx:=λ_ H'=>Q .non H',rt:=Q} (start N vs) H):fh P w K mg base CX0 (k+1) f fd ps sp:=by
 obtain⟨oc,od,kV,doc,pm,an,cdv,ct,osl,rfl,lk,hcd⟩:=F.ex
 refine Dy lk hcd S len λA outer s H vs Q E hr hsp=>?_
 obtain⟨t,h,q⟩:=wJ cdv A outer s H vs Q E hr hsp
 exact⟨t,h.nox,q⟩
theorem Fun.binds {x qual:Str}{st:Stmt}{f:Addr}{fd:FuncData}{ps:List Str}(F:Fun K x qual st f fd)
  (h:∀ (kV doc pm:Value) (an:Option Addr) (cdv ct:Value) (us:List Value),us.length=ps.length->bindArgs (PySem.W.fnOf x qual (lC st) (jW st) (eS st) .none kV doc pm an cdv ct) ⟨us,[]⟩=pure (ps.zip us)):Binds K fd ps []:=by
 obtain⟨oc,od,kV,doc,pm,an,cdv,ct,osl,rfl,lk,hcd⟩:=F.ex
 exact .all (h kV doc pm an cdv ct)
theorem BM {x qual:Str}{st:Stmt}{f:Addr}{oc:Value}{od an:Option Addr}{osl:Array (Option Value)}{kV doc pm cdv ct:Value}(l:K.lookup f=some ⟨oc,od,.func (PySem.W.fnOf x qual (lC st) (jW st) (eS st) .none kV doc pm an cdv ct),osl⟩)
  (c:PySem.W.codeIn K cdv qual=true) (k:PySem.W.keepIn K (.ref f)=true):Fun K x qual st f (PySem.W.fnOf x qual (lC st) (jW st) (eS st) .none kV doc pm an cdv ct):=⟨⟨oc,od,kV,doc,pm,an,cdv,ct,osl,rfl,l,c⟩,k⟩
end
theorem j8 {A:Around}{k:Nat}(hr:lx k A):A.units+1<cLine:=bQ (Nat.add_le_add_left (by decide:1<=64) _) hr.units
section
variable {X:Cx}
theorem pv (i:Nat){x:Str}{pos:Pos}(hN:X.N[i]? = some x:=by rfl)(hv:Vis X.env.scope x:=by first |exact Or.inl rfl |exact Or.inr (Or.inl rfl)|exact Or.inr (Or.inr rfl))(hd:(x==("__debug__" :Str))=false:=by decide)
  (hcd:(x==("__classdict__" :Str))=false:=by decide):PE X (.Name x pos) (Fj i):=Eb hN hv hd hcd
end
theorem oz {A B:Prop}(h:B):if false=true then A else B:=by
 rw[aF aA]
 exact h
theorem nU {A B:Prop}(h:A):if true=true then A else B:=by
 rw[aJ rfl]
 exact h
theorem fN {c A B:Prop} [Decidable c] (h1:c->A)(h2:¬c->B):if c then A else B:=by
 by_cases h:c
 ·rw[aJ h]
  exact h1 h
 ·rw[aF h]
  exact h2 h
def eQ (H H':Hp):Prop:=∀ b o,H b=some o->H' b=some o
theorem eQ.refl (H:Hp):eQ H H:=λ_ _ h=>h
theorem eQ.trans {H H1 H2:Hp}(a:eQ H H1)(b:eQ H1 H2):eQ H H2:=λc o h=>b c o (a c o h)
theorem eQ.free {H H':Hp}(e:eQ H H'){l:Addr}(h:H' l=Option.none):H l=Option.none:=by
 cases q:H l with
 |none=>rfl
 |some o=>
  rw[e l o q]at h
  cases h
theorem eQ.seq {K:PySem.W.Frag}{H H':Hp}{a:Addr}{xs:List V}(e:eQ H H')(h:SqL K H a xs):SqL K H' a xs:=by
 rcases h with(h |⟨o,h⟩)|h
 ·exact .inl (.inl (e _ _ h))
 ·exact .inl (.inr ⟨o,e _ _ h⟩)
 ·exact .inr h
section
variable {κ:Type} [DecidableEq κ]
def jo (kvs:List (κ×V))(k:κ):Option V:=(kvs.find? λkv=>decide (kv.1=k)).map (·.2)
def putK (kvs:List (κ×V))(k:κ)(v:V):List (κ×V):=
 if(kvs.any λkv=>decide (kv.1=k))=true then kvs.map (λkv=>if kv.1=k then(kv.1,v)else kv)else kvs ++ [(k,v)]
theorem qV {p:κ×V}{r:List (κ×V)}{k:κ}(e:p.1=k):jo (p::r) k=some p.2:=by simp[jo,b5,e]
theorem qW {p:κ×V}{r:List (κ×V)}{k:κ}(e:¬p.1=k):jo (p::r) k=jo r k:=by simp[jo,b5,e]
theorem mH (k:κ):∀ kvs:List (κ×V),(kvs.any λkv=>decide (kv.1=k))=(jo kvs k).isSome
 |[]=>rfl
 |p::r=>by
  rw[List.any_cons]
  by_cases e:p.1=k
  ·simp only[qV e,bG e,Bool.true_or,Option.isSome_some]
  ·rw[qW e,bf e,Bool.false_or];exact mH k r
theorem mT (kvs:List (κ×V))(k:κ)(v:V):(putK kvs k v).length<=kvs.length+1:=by
 unfold putK
 split
 ·rw[aa];omega
 ·rw[ah,aO,List.length_nil];omega
theorem oV {kvs:List (κ×V)}{k:κ}(v:V)(h:jo kvs k=none):putK kvs k v=kvs ++ [(k,v)]:=by
 unfold putK
 rw[mH,h]
 exact aF (by decide)
theorem oB.lZ {o:Option V}{u:Option Value}(r:oB o u):o.isSome=u.isSome:=by
 cases o with
 |none=>cases u with
  |none=>rfl
  |some _=>exact(show False from r).elim
 |some _=>cases u with
  |none=>exact(show False from r).elim
  |some _=>rfl
theorem oB.getD {o:Option V}{u:Option Value}{d:V}{d':Value}(r:oB o u)(rd:RelV d d'):RelV (o.getD d) (u.getD d'):=by
 cases o with
 |none=>cases u with
  |none=>exact rd
  |some _=>exact(show False from r).elim
 |some _=>cases u with
  |none=>exact(show False from r).elim
  |some _=>exact r
theorem KV.val {kvs:List (κ×V)}{vs:List (κ×Value)}(r:KV kvs vs)(k:κ):oB (jo kvs k) (valueAt vs k):=by
 unfold KV at r
 induction r with
 |nil=>exact True.intro
 |@cons p q ps qs h t ih=>
  obtain⟨h1,h2⟩:=h
  by_cases e:p.1=k
  ·have e':q.1=k:=h1.symm.trans e
   have b:valueAt (q::qs) k=some q.2:=by simp[valueAt,b5,e']
   rw[qV e,b];exact h2
  ·have e':¬q.1=k:=λz=>e (h1.trans z)
   have b:valueAt (q::qs) k=valueAt qs k:=by simp[valueAt,b5,e']
   rw[qW e,b];exact ih
theorem KV.any {kvs:List (κ×V)}{vs:List (κ×Value)}(r:KV kvs vs)(k:κ):(kvs.any λkv=>decide (kv.1=k))=vs.any λkv=>decide (kv.1=k):=by
 unfold KV at r
 induction r with
 |nil=>rfl
 |cons h t ih=>rw[List.any_cons,List.any_cons,ih,h.1]
theorem KV.AM {kvs:List (κ×V)}{vs:List (κ×Value)}(r:KV kvs vs)(k:κ){y:V}{u:Value}(ry:RelV y u):
  KV (kvs.map λkv=>if kv.1=k then(kv.1,y)else kv) (vs.map λkv=>if kv.1=k then(kv.1,u)else kv):=by
 unfold KV at r ⊢
 induction r with
 |nil=>exact .nil
 |@cons p q ps qs h t ih=>
  rw[aR,aR]
  refine .cons ?_ ih
  obtain⟨h1,h2⟩:=h
  by_cases e:p.1=k
  ·rw[aJ e,aJ (h1.symm.trans e)];exact⟨h1,ry⟩
  ·rw[aF e,aF (λz=>e (h1.trans z))];exact⟨h1,h2⟩
theorem KV.put {kvs:List (κ×V)}{vs:List (κ×Value)}(r:KV kvs vs)(k:κ){y:V}{u:Value}(ry:RelV y u):KV (putK kvs k y) (stored vs k u):=by
 unfold putK stored
 rw[r.any k]
 by_cases e:(vs.any λkv=>decide (kv.1=k))=true
 ·rw[aJ e,aJ e];exact r.AM k ry
 ·rw[aF e,aF e];exact Paired.snoc r ⟨rfl,ry⟩
theorem KV.length {kvs:List (κ×V)}{vs:List (κ×Value)}(r:KV kvs vs):kvs.length=vs.length:=bT r
end
theorem lY {P:Program}{w:World}{k:Key}{u:Value}(r:RelV (kV k) u):(fB P w).is k u=true:=by
 cases k with
 |inl i=>obtain⟨t,e⟩:=(show ∃ t,u=Value.int i t from r);subst e;exact wy P w i t
 |inr x=>obtain⟨t,e⟩:=(show ∃ t,u=Value.str x t from r);subst e;exact wx P w x t
theorem pY {P:Program}{w:World} :∀ {ks:List Key}{us:List Value},Vals (ks.map kV) us->ItemsAre (fB P w) ks us
 |[],_,r=>by rw[List.map_nil]at r;cases r;exact .nil
 |k::ks,_,r=>by
  rw[aR]at r
  cases r with
  |cons h t=>exact .cons (lY h) (pY t)
abbrev KT (H:Hp):List (List Key×V)->List (List Key×Addr×Value)->Prop:=Paired λp q=>p.1=q.1/\H q.2.1=some (.tup (p.1.map kV))/\RelV p.2 q.2.2
theorem KT.val {H:Hp}{kvs:List (List Key×V)}{xs:List (List Key×Addr×Value)}(r:KT H kvs xs)(k:List Key):oB (jo kvs k) ((atKey xs k).map (·.2)):=by
 induction r with
 |nil=>exact True.intro
 |@cons p q ps qs h t ih=>
  obtain⟨h1,_,h2⟩:=h
  by_cases e:p.1=k
  ·have e':q.1=k:=h1.symm.trans e
   have b:atKey (q::qs) k=some q.2:=by simp[atKey,b5,e']
   rw[qV e,b];exact h2
  ·have e':¬q.1=k:=λz=>e (h1.trans z)
   have b:atKey (q::qs) k=atKey qs k:=by simp[atKey,b5,e']
   rw[qW e,b];exact ih
theorem KT.AM {H:Hp}{kvs:List (List Key×V)}{xs:List (List Key×Addr×Value)}(r:KT H kvs xs)(k:List Key){y:V}{u:Value}(ry:RelV y u):
  KT H (kvs.map λkv=>if kv.1=k then(kv.1,y)else kv) (xs.map (putAt k u)):=by
 induction r with
 |nil=>exact .nil
 |@cons p q ps qs h t ih=>
  rw[aR,aR]
  refine .cons ?_ ih
  obtain⟨h1,h2,h3⟩:=h
  unfold putAt
  by_cases e:p.1=k
  ·rw[aJ e,aJ (h1.symm.trans e)];exact⟨h1,h2,ry⟩
  ·rw[aF e,aF (λz=>e (h1.trans z))];exact⟨h1,h2,h3⟩
theorem KT.put {H:Hp}{kvs:List (List Key×V)}{xs:List (List Key×Addr×Value)}(r:KT H kvs xs)(k:List Key){b:Addr}{y:V}{u:Value}(hb:H b=some (.tup (k.map kV)))(ry:RelV y u):
  KT H (putK kvs k y) (storedH xs k b u):=by
 have e:(kvs.any λkv=>decide (kv.1=k))=(atKey xs k).isSome:=by
  rw[mH,(r.val k).lZ,d7]
 unfold putK storedH
 rw[e]
 by_cases q:(atKey xs k).isSome=true
 ·rw[aJ q,aJ q];exact r.AM k ry
 ·rw[aF q,aF q];exact Paired.snoc r ⟨rfl,hb,ry⟩
theorem KT.keeps {H H':Hp}{kvs:List (List Key×V)}{xs:List (List Key×Addr×Value)}(r:KT H kvs xs)(ht:∀ b ys,H b=some (.tup ys)->H' b=some (.tup ys)):KT H' kvs xs:=
 Paired.Er r λ_ _ z=>⟨z.1,ht _ _ z.2.1,z.2.2⟩
section
variable {P:Program}{w:World}{H:Hp}{h:Heap}{a:Addr}
theorem Dk {u:HO}(ok:HOk P w H h)(e:Rd H a u):gD P w H h a u:=e.ok ok
theorem sC {kvs:List (Key×V)}(ok:HOk P w H h)(e:Rd H a (.dK kvs)):kvs.length<=sizeLine/\(a==sysModules)=false/\∃ vs,KV kvs vs/\h.DictOf (fB P w) a vs:=
 show gD P w H h a (.dK kvs) from Dk ok e
theorem He {kvs:List (Key×V)}(ok:HOk P w H h)(e:H a=some (.dK kvs)):kvs.length<=sizeLine/\(a==sysModules)=false/\∃ vs,KV kvs vs/\h.DictOf (fB P w) a vs:=sC ok (.inl e)
theorem mU {ks:List Key}(ok:HOk P w H h)(e:H a=some (.tup (ks.map kV))):(tupleKind (fB P w)).is h ks a:=by
 obtain⟨_,its,r,o,h1,h2,n,h3⟩:=(show gD P w H h a (.tup (ks.map kV)) from ok a _ e)
 exact⟨o,its.toArray,n,h1,h2,h3,by simpa using pY r⟩
theorem sy {kvs:List (List Key×V)}(ok:HOk P w H h)(e:Rd H a (.dT kvs)):kvs.length<=sizeLine/\(a==sysModules)=false/\
  ∃ xs,KT H kvs xs/\h.DictOfH (tupleKind (fB P w)) a xs:=by
 obtain⟨z,y,xs,r,o,es,ep,h1,h2,h3,h4,h5⟩:=(show gD P w H h a (.dT kvs) from Dk ok e)
 refine⟨z,y,xs,r,o,es,ep,h1,h2,h3,h4,λx hx=>?_,h5⟩
 have all:∀ {l:List (List Key×V)}{m:List (List Key×Addr×Value)},KT H l m->∀ x∈m,(tupleKind (fB P w)).is h x.1 x.2.1:=by
  intro l m q
  induction q with
  |nil=>intro x hx;exact nomatch hx
  |@cons p q ps qs hq t ih=>
   intro x hx
   rcases aG.mp hx with e |hx
   ·subst e
    exact mU ok (by rw[<-hq.1];exact hq.2.1)
   ·exact ih x hx
 exact all r x hx
theorem y4 {kvs:List (List Key×V)}(ok:HOk P w H h)(e:H a=some (.dT kvs)):kvs.length<=sizeLine/\(a==sysModules)=false/\
  ∃ xs,KT H kvs xs/\h.DictOfH (tupleKind (fB P w)) a xs:=sy ok (.inl e)
end
def pH (H:Hp)(a:Addr)(y:V)(r:Option V):Prop:=
 (∃ kvs k,Rd H a (.dK kvs)/\y=kV k/\r=jo kvs k)\/∃ kvs k b,Rd H a (.dT kvs)/\y = .ref b/\H b=some (.tup (k.map kV))/\r=jo kvs k
def ym (H:Hp)(a:Addr)(y v:V)(H':Hp):Prop:=
 (∃ kvs k,H a=some (.dK kvs)/\y=kV k/\kvs.length<sizeLine/\H'=upd H a (.dK (putK kvs k v)))\/
 ∃ kvs k b,H a=some (.dT kvs)/\y = .ref b/\H b=some (.tup (k.map kV))/\kvs.length<sizeLine/\H'=upd H a (.dT (putK kvs k v))
theorem pH.t {H:Hp}{a b:Addr}{kvs:List (List Key×V)}{k:List Key}(e:H a=some (.dT kvs))(eb:H b=some (.tup (k.map kV))):pH H a (.ref b) (jo kvs k):=.inr ⟨kvs,k,b,.inl e,rfl,eb,rfl⟩
theorem ym.t {H:Hp}{a b:Addr}{kvs:List (List Key×V)}{k:List Key}{v:V}(e:H a=some (.dT kvs))(eb:H b=some (.tup (k.map kV)))(hl:kvs.length<sizeLine):
  ym H a (.ref b) v (upd H a (.dT (putK kvs k v))):=.inr ⟨kvs,k,b,e,rfl,eb,hl,rfl⟩
section
variable {X:Cx}{pins:List (Addr×Obj)}{σ:St}{H:Hp}{s:Shared}{a:Addr}{y v:V}{u r:Value}{o:Option V}{A:Around}{E:Value->Shared->Prop}
theorem Inv.big (I:Inv X pins σ H s):sysModules<s.heap.objs.size:=by
 have h:mainGlobals<s.heap.objs.size:=(I.mod.glob.keeps I.bk).lt
 exact Nat.lt_trans (by decide) h
theorem Am {Q:Value->Shared->Prop}(hu:A.units+1<cLine)(I:Inv X pins σ H s)(g:pH H a y (some v))(ry:RelV y u)(h:∀ w' s',Inv X pins σ H s'->RelV v w'->Q w' s'):
  wpAny (model X.prog X.w) A (getItem (.ref a) u) Q E s:=by
 rcases g with⟨kvs,k,e,ey,l⟩|⟨kvs,k,b,e,ey,eb,l⟩
 ·subst ey
  obtain⟨z,hd,vs,rel,dd⟩:=sC I.hok e
  obtain⟨w',hw,rw'⟩:=oB.some_of (v:=v) (o:=valueAt vs k) (by rw[l];exact rel.val k)
  exact wpAny_getItem_of (lY ry) dd.mapOf hw (h w' _ (I.tok _) rw')
 ·subst ey
  cases(show u=Value.ref b from ry)
  obtain⟨z,hd,xs,rel,dd⟩:=sy I.hok e
  obtain⟨w',hw,rw'⟩:=oB.some_of (v:=v) (o:=(atKey xs k).map (·.2)) (by rw[l];exact rel.val k)
  obtain⟨p,hp,hp2⟩:=Option.map_eq_some_iff.mp hw
  refine wpAny_getItem_heap (cJ hu) (mU I.hok eb) dd hp ?_
  rw[hp2]
  exact h w' _ (I.tok _) rw'
theorem C6 {Q:Value->Shared->Prop}(hu:A.units+1<cLine)(I:Inv X pins σ H s)(g:pH H a y o)(ry:RelV y u)(h:∀ s',Inv X pins σ H s'->Q (.bool (!o.isSome)) s'):
  wpAny (model X.prog X.w) A (compareOp .NotIn u (.ref a)) Q E s:=by
 rcases g with⟨kvs,k,e,ey,l⟩|⟨kvs,k,b,e,ey,eb,l⟩
 ·subst ey
  obtain⟨z,hd,vs,rel,dd⟩:=sC I.hok e
  refine wpAny_notIn_of (lY ry) hd dd.mapOf ?_
  rw[<-(rel.val k).lZ,<-l]
  exact h _ (I.tok _)
 ·subst ey
  cases(show u=Value.ref b from ry)
  obtain⟨z,hd,xs,rel,dd⟩:=sy I.hok e
  refine wpAny_notIn_heap (cJ hu) (mU I.hok eb) hd dd ?_
  have q:=(rel.val k).lZ
  rw[d7]at q
  rw[<-q,<-l]
  exact h _ (I.tok _)
theorem o8 {h':Heap}{t':Nat}{ob:HO}(I:Inv X pins σ H s)(mu:Mut (H a))(hs:Heap.SameBut a s.heap h')(he:∃ q,h'.get? a=some q)(new:gD X.prog X.w (upd H a ob) h' a ob):
  Inv X pins σ (upd H a ob) {s with heap:=h',toks:=t'} :=
 I.write (x:=a) (e:=a) mu (.inl rfl) (λb q hb z=>(hs.2 b hb).trans z) he new
theorem EU {P:Program}{w:World}{H':Hp}{h':Heap}{kvs:List (Key×V)}{vs:List (Key×Value)}(z:kvs.length<=sizeLine)(hd:(a==sysModules)=false)(rel:KV kvs vs)(dd:h'.DictOf (fB P w) a vs):
  gD P w H' h' a (.dK kvs):=⟨z,hd,vs,rel,dd⟩
theorem Al {H':Hp}{Q:Unit->Shared->Prop}(hu:A.units+1<cLine)(I:Inv X pins σ H s)(g:ym H a y v H')(ry:RelV y u)(rv:RelV v r)(h:∀ s',Inv X pins σ H' s'->Q () s'):
  wpAny (model X.prog X.w) A (setItem (.ref a) u r) Q E s:=by
 rcases g with⟨kvs,k,e,ey,l,eH⟩|⟨kvs,k,b,e,ey,eb,l,eH⟩
 ·subst ey eH
  obtain⟨z,hd,vs,rel,dd⟩:=He I.hok e
  have hz:vs.length<=sizeLine:=by rw[<-rel.length];exact z
  have hl:(putK kvs k v).length<=sizeLine:=by have:=mT kvs k v;omega
  refine wpAny_setItem_pairs (hsz:=hz) (lY ry) dd λh' dd' hs=>h _ ?_
  have he:∃ q,h'.get? a=some q:=let ⟨q,_,_,hq,_⟩:=dd';⟨q,hq⟩
  exact o8 I (by rw[e];exact True.intro) hs he (EU hl hd (rel.put k rv) dd')
 ·subst ey eH
  cases(show u=Value.ref b from ry)
  obtain⟨z,hd,xs,rel,dd⟩:=y4 I.hok e
  have hz:xs.length<=sizeLine:=by rw[<-bT rel];exact z
  have hl:(putK kvs k v).length<=sizeLine:=by have:=mT kvs k v;omega
  refine wpAny_setItem_heap (hsz:=hz) (cJ hu) (mU I.hok eb) dd λh' dd' hs=>h _ ?_
  obtain⟨q,es,ep,hq,h2,h3,h4,_,h5⟩:=dd'
  refine o8 I (by rw[e];exact True.intro) hs ⟨q,hq⟩ ⟨hl,hd,_,(rel.put k eb rv).keeps λc ys ec=>?_,q,es,ep,hq,h2,h3,h4,h5⟩
  rw[eN (fA ec e (λz=>nomatch z))]
  exact ec
end
section
variable {X:Cx}{pins:List (Addr×Obj)}{σ:St}{H:Hp}{s:Shared}{a:Addr}{kvs:List (Key×V)}{k:Key}{u:Value}{A:Around}{E:Value->Shared->Prop}
end
def Cc (i:Expr):Prop:=∀ ov iv,subscripted i false ov iv=operate [ov,iv] (getItem ov iv)
theorem uB {prog:Program}{w:World}{A:Around}{E:Value->Shared->Prop}{s:Shared}{env:Env}{value slice:Expr}{pos:Pos}{T id:String}{Q:Value->Shared->Prop}
  (hl:typeLookup (.type T) "__getitem__" = pure (some (.builtin id))) (hs:Cc slice)
  (h:wpAny (model prog w) A (eval value env) (λo s₁=>wpAny (model prog w) A (eval slice env) (λi s₂=>s₂.TypeIs o T/\wpAny (model prog w) A (getItem o i) Q E s₂) E s₁) E s):
  wpAny (model prog w) A (eval (.Subscript value slice pos) env) Q E s:=by
 refine Subscript_ (aZ h (λo s₁ h₁=>aZ h₁ (λi s₂ h₂=>?_) λ_ _ x=>x) λ_ _ x=>x)
 obtain⟨hT,h₂⟩:=h₂
 unfold subscriptTail
 refine ae ?_
 rw[getitemInPython_of_ne hT.not_modules]
 refine ae (dy hT hl ?_)
 have fin:wpAny (model prog w) A (subscripted slice false o i) (λr s₃=>wpAny (model prog w) A (letTemporaryGo value o r >>= λ_=>pure r) Q E s₃) E s₂:=by
  rw[hs o i]
  exact wpAny_operating (aZ h₂ (λr s₃ h₃=>ae (wpAny_letTemporaryGo (aj h₃))) λ_ _ x=>x)
 first
  |exact aj (ae fin)
  |exact ae (aj (ae fin))
  |exact ae fin
theorem wU {X:Cx}{pins:List (Addr×Obj)}{σ:St}{H:Hp}{s:Shared}{a:Addr}{y:V}{o:Option V}(I:Inv X pins σ H s)(g:pH H a y o):s.TypeIs (.ref a) "dict" :=by
 rcases g with⟨kvs,k,e,_,_⟩|⟨kvs,k,b,e,_,_,_⟩
 ·obtain⟨_,_,vs,_,dd⟩:=sC I.hok e
  exact dd.typeIs
 ·obtain⟨_,_,xs,_,dd⟩:=sy I.hok e
  exact dd.typeIs
def Fv (td ty:TE):TE:=λσ H Q=>td σ H λx H1=>ty σ H1 λy H2=>∃ a v,x = .ref a/\pH H2 a y (some v)/\Q v H2
def Cp (ty td:TE):TE:=λσ H Q=>ty σ H λy H1=>td σ H1 λx H2=>∃ a o,x = .ref a/\pH H2 a y o/\Q (.bl (!o.isSome)) H2
def FE (td ty tv:TE):TS:=λD σ H=>tv σ H λv H1=>td σ H1 λx H2=>ty σ H2 λy H3=>∃ a H4,x = .ref a/\ym H3 a y v H4/\D.nx σ H4
section
variable {X:Cx}{o i e value:Expr}{pos pos' Fh:Pos}{td ty tv:TE}
theorem qN (hu:X.A.units+1<cLine)(ho:PE X o td)(hi:PE X i ty)(hs:Cc i):PE X (.Subscript o i pos) (Fv td ty):=by
 intro pins s σ H Q I h
 refine uB dY.lookup hs (thn (ho pins s σ H _ I h) λu s1 ⟨x,H1,I1,rx,q1⟩=>thn (hi pins s1 σ H1 _ I1 q1) λiv s2 ⟨y,H2,I2,ry,a,v,ex,g,q2⟩=>?_)
 subst ex
 obtain rfl:u=Value.ref a:=rx
 exact⟨wU I2 g,Am hu I2 g ry λw' s3 I3 rw'=>⟨v,H2,I3,rw',q2⟩⟩
theorem nM (hu:X.A.units+1<cLine)(hi:PE X i ty)(ho:PE X o td):PC X .NotIn i o (Cp ty td):=by
 intro pins s σ H Q I h
 refine thn (hi pins s σ H _ I h) λiv s1 ⟨y,H1,I1,ry,q1⟩=>thn (ho pins s1 σ H1 _ I1 q1) λu s2 ⟨x,H2,I2,rx,a,ov,ex,g,q2⟩=>?_
 subst ex
 obtain rfl:u=Value.ref a:=rx
 exact C6 hu I2 g ry λs3 I3=>⟨.bl (!ov.isSome),H2,I3,rfl,q2⟩
theorem uO (hu:X.A.units+1<cLine)(ho:PE X o td)(hi:PE X i ty)(hv:PE X value tv)(hs:swapsWith value (some (.Subscript o i pos')) pos.line X.env=pure false):
  PS X (.Assign [.Subscript o i pos'] value pos) (FE td ty tv):=by
 intro pins s σ H D I h
 refine wpAny_Assign_Subscript (thn (hv pins s σ H _ I h) λr s1 ⟨v,H1,I1,rv,q1⟩=>thn (ho pins s1 σ H1 _ I1 q1) λu s2 ⟨x,H2,I2,rx,q2⟩=>thn (hi pins s2 σ H2 _ I2 q2) λiv s3 ⟨y,H3,I3,ry,a,H4,ex,g,q3⟩=>?_) hs
 subst ex
 obtain rfl:u=Value.ref a:=rx
 exact Al hu I3 g ry rv λs4 I4=>⟨σ,H4,I4,q3⟩
end
theorem sA {P:Program}{w:World}{H:Hp}(h:Heap)(hb:sysModules<h.objs.size):gD P w H (h.push {cls:=.type "dict",data:=.dict #[]}) h.objs.size (.dT []):=
 ⟨aH _,dO.mpr (bK (aI hb)),[],.nil,_,#[],0,bc _ rfl,⟨rfl,rfl,rfl⟩,rfl,rfl,b6⟩
def DO:TE:=λ_ H Q=>∀ p,H p=none->Q (.ref p) (upd H p (.dT []))
section
variable {X:Cx}{pos:Pos}
theorem AY:PE X (.Dict [] [] pos) DO:=λpins s σ H Q I h=>
 wpAny_Dict_empty ⟨.ref s.heap.objs.size,_,I.laid (a:=s.heap.objs.size) (o:=.dT []) (t':=s.toks) (λ_ _ q=>av _ q) (ao _) (sA s.heap I.big),rfl,h _ (I.hok.fresh (ao _))⟩
end
def xw:List (TE×TE)->St->Hp->(List (V×V)->Hp->Prop)->Prop
 |[],_,H,Q=>Q [] H
 |(tk,tv)::r,σ,H,Q=>tk σ H λx H1=>tv σ H1 λy H2=>xw r σ H2 λps H3=>Q ((x,y)::ps) H3
abbrev VV:List (V×V)->List (Value×Value)->Prop:=Paired λp q=>RelV p.1 q.1/\RelV p.2 q.2
def PPs (X:Cx)(pos:Pos)(keys:List (Option Expr))(values:List Expr)(trs:List (TE×TE)):Prop:=
 ∀ (pins:List (Addr×Obj)) (s:Shared) (σ:St) (H:Hp) (Q:List (V×V)->Hp->Prop),Inv X pins σ H s->xw trs σ H Q->
  wpAny (model X.prog X.w) X.A (evalPairs (pairTrees keys values X.env pos)) (λvs s'=>∃ ps H',Inv X pins σ H' s'/\VV ps vs/\Q ps H') X.xe s
theorem Cz {X:Cx}{pos:Pos} :PPs X pos [] [] []:=λpins s σ H Q I h=>pairTrees_nil_walk ⟨[],H,I,.nil,h⟩
theorem AS {X:Cx}{pos:Pos}{k v:Expr}{ks:List (Option Expr)}{vs:List Expr}{tk tv:TE}{trs:List (TE×TE)}(hk:PE X k tk)(hv:PE X v tv)(hr:PPs X pos ks vs trs):
  PPs X pos (some k::ks) (v::vs) ((tk,tv)::trs):=λpins s σ H Q I h=>
 pairTrees_cons_walk (thn (hk pins s σ H _ I h) λu s1 ⟨x,H1,I1,rx,q1⟩=>thn (hv pins s1 σ H1 _ I1 q1) λw2 s2 ⟨y,H2,I2,ry,q2⟩=>
  thn (hr pins s2 σ H2 _ I2 q2) λws s3 ⟨ps,H3,I3,rel,q3⟩=>⟨(x,y)::ps,H3,I3,.cons ⟨rx,ry⟩ rel,q3⟩)
structure M1 (X:Cx)(o:Expr)(m:Str)(apos:Pos)(e:Expr)(i8:Pos):Prop where
 base:attributeBase o m X.env (eval o X.env)=eval o X.env
 few:((backTo i8 (starEach [e] X.env)).all (λx=> !x.1)&&(backToKw i8 (keywordEach [] X.env)).all (λx=>x.1.isSome)
  && decide (([e]:List Expr).length+([]:List Keyword).length+(if([]:List Keyword).isEmpty then 0 else 1)<30))=true
 line:(apos.endLine==i8.line)=true
 trees:backTo i8 (starEach [e] X.env) = [(false,eval e X.env)]
structure M2 (X:Cx)(o:Expr)(m:Str)(apos:Pos)(e f:Expr)(i8:Pos):Prop where
 base:attributeBase o m X.env (eval o X.env)=eval o X.env
 few:((backTo i8 (starEach [e,f] X.env)).all (λx=> !x.1)&&(backToKw i8 (keywordEach [] X.env)).all (λx=>x.1.isSome)
  && decide (([e,f]:List Expr).length+([]:List Keyword).length+(if([]:List Keyword).isEmpty then 0 else 1)<30))=true
 line:(apos.endLine==i8.line)=true
 trees:backTo i8 (starEach [e,f] X.env) = [(false,eval e X.env),(false,eval f X.env)]
def IsD (H:Hp)(a:Addr):Prop:=(∃ kvs,Rd H a (.dK kvs))\/∃ kvs,Rd H a (.dT kvs)
theorem BB {X:Cx}{pins:List (Addr×Obj)}{σ:St}{H:Hp}{s:Shared}{a:Addr}(I:Inv X pins σ H s)(d:IsD H a):
  s.TypeIs (.ref a) "dict" /\(∀ b,Value.ref a = .ref b->∃ ob,s.heap.get? b=some ob/\ob.dict=none)/\(a==sysModules)=false:=by
 rcases d with⟨kvs,e⟩|⟨kvs,e⟩
 ·obtain⟨_,hd,vs,_,dd⟩:=sC I.hok e
  refine⟨dd.typeIs,λb q=>?_,hd⟩
  cases q
  obtain⟨ob,_,_,h1,h2,_⟩:=dd
  exact⟨ob,h1,h2.2.1⟩
 ·obtain⟨_,hd,xs,_,dd⟩:=sy I.hok e
  refine⟨dd.typeIs,λb q=>?_,hd⟩
  cases q
  obtain⟨ob,_,_,h1,h2,_⟩:=dd
  exact⟨ob,h1,h2.2.1⟩
section
variable {X:Cx}{pins:List (Addr×Obj)}{σ:St}{H:Hp}{s:Shared}{a:Addr}{y d:V}{u r:Value}{o:Option V}{A:Around}{E:Value->Shared->Prop}
theorem EW {Q:Value->Shared->Prop}(hu:A.units+1<cLine)(I:Inv X pins σ H s)(g:pH H a y o)(ry:RelV y u)(h:∀ w' s',Inv X pins σ H s'->RelV (o.getD .non) w'->Q w' s'):
  wpAny (model X.prog X.w) A (call (.builtin "dict.get") [.ref a,u]) Q E s:=by
 rcases g with⟨kvs,k,e,ey,l⟩|⟨kvs,k,b,e,ey,eb,l⟩
 ·subst ey
  obtain⟨z,hd,vs,rel,dd⟩:=sC I.hok e
  refine call_meetsIn ck dd.typeIs dr (PySem.F.args_dict_get_2 _ _) (meets_dict_get (fB X.prog X.w) a (lY ry) hd) ⟨_,dd.mapOf,h _ _ (I.tok _) ?_⟩
  rw[l]
  exact(rel.val k).getD rfl
 ·subst ey
  cases(show u=Value.ref b from ry)
  obtain⟨z,hd,xs,rel,dd⟩:=sy I.hok e
  refine call_meetsIn ck dd.typeIs dr (PySem.F.args_dict_get_2 _ _) (meetsH_dict_get (tupleKind (fB X.prog X.w)) a b hd) ⟨cJ hu,k,xs,mU I.hok eb,dd,h _ _ (I.tok _) ?_⟩
  rw[l]
  exact(rel.val k).getD rfl
theorem EV {Q:Value->Shared->Prop}(hu:A.units+1<cLine)(I:Inv X pins σ H s)(g:pH H a y o)(ry:RelV y u)(rd:RelV d r)(h:∀ w' s',Inv X pins σ H s'->RelV (o.getD d) w'->Q w' s'):
  wpAny (model X.prog X.w) A (call (.builtin "dict.get") [.ref a,u,r]) Q E s:=by
 rcases g with⟨kvs,k,e,ey,l⟩|⟨kvs,k,b,e,ey,eb,l⟩
 ·subst ey
  obtain⟨z,hd,vs,rel,dd⟩:=sC I.hok e
  refine call_meetsIn ck dd.typeIs dr (PySem.F.args_dict_get_3 _ _ _) (meets_dict_get_default (fB X.prog X.w) a (lY ry) hd r) ⟨_,dd.mapOf,h _ _ (I.tok _) ?_⟩
  rw[l]
  exact(rel.val k).getD rd
 ·subst ey
  cases(show u=Value.ref b from ry)
  obtain⟨z,hd,xs,rel,dd⟩:=sy I.hok e
  refine call_meetsIn ck dd.typeIs dr (PySem.F.args_dict_get_3 _ _ _) (meetsH_dict_get_default (tupleKind (fB X.prog X.w)) a b hd r) ⟨cJ hu,k,xs,mU I.hok eb,dd,h _ _ (I.tok _) ?_⟩
  rw[l]
  exact(rel.val k).getD rd
end
def DQ (td ty:TE):TE:=λσ H Q=>td σ H λx H1=>∃ a,x = .ref a/\IsD H1 a/\ty σ H1 λy H2=>∃ o,pH H2 a y o/\Q (o.getD .non) H2
def DP (td ty tx:TE):TE:=λσ H Q=>td σ H λx H1=>∃ a,x = .ref a/\IsD H1 a/\ty σ H1 λy H2=>tx σ H2 λz H3=>∃ o,pH H3 a y o/\Q (o.getD z) H3
section
variable {X:Cx}{o e f:Expr}{apos i8:Pos}{td ty tx:TE}
theorem A0 (hu:X.A.units+1<cLine)(ho:PE X o td)(he:PE X e ty)(m:M1 X o "get" apos e i8):PE X (.Call (.Attribute o "get" apos) [e] [] i8) (DQ td ty):=by
 intro pins s σ H Q I h
 refine wpAny_Call_method m.base m.few m.line PySem.F.plainAttrs_dict ck PySem.F.type_dict_get (thn (ho pins s σ H _ I h) λu s1 ⟨x,H1,I1,rx,a,ex,d,q1⟩=>?_)
 subst ex
 obtain rfl:u=Value.ref a:=rx
 obtain⟨t1,t2,_⟩:=BB I1 d
 refine⟨t1,t2,?_⟩
 rw[m.trees]
 refine dG rfl (dU (eB (thn (he pins s1 σ H1 _ I1 q1) λiv s2 ⟨y,H2,I2,ry,ov,g,q2⟩=>Calls.spliced_nil ?_)))
 exact EW hu I2 g ry λw' s3 I3 rw'=>⟨_,H2,I3,rw',q2⟩
theorem AZ (hu:X.A.units+1<cLine)(ho:PE X o td)(he:PE X e ty)(hf:PE X f tx)(m:M2 X o "get" apos e f i8):PE X (.Call (.Attribute o "get" apos) [e,f] [] i8) (DP td ty tx):=by
 intro pins s σ H Q I h
 refine wpAny_Call_method m.base m.few m.line PySem.F.plainAttrs_dict ck PySem.F.type_dict_get (thn (ho pins s σ H _ I h) λu s1 ⟨x,H1,I1,rx,a,ex,d,q1⟩=>?_)
 subst ex
 obtain rfl:u=Value.ref a:=rx
 obtain⟨t1,t2,_⟩:=BB I1 d
 refine⟨t1,t2,?_⟩
 rw[m.trees]
 refine dG rfl (dU (eB (thn (he pins s1 σ H1 _ I1 q1) λiv s2 ⟨y,H2,I2,ry,q2⟩=>
  eB (thn (hf pins s2 σ H2 _ I2 q2) λfv s3 ⟨z,H3,I3,rz,ov,g,q3⟩=>Calls.spliced_nil ?_))))
 exact EV hu I3 g ry rz λw' s4 I4 rw'=>⟨_,H3,I4,rw',q3⟩
end
section
variable {X:Cx}{pins:List (Addr×Obj)}{σ:St}{H:Hp}{s:Shared}{a:Addr}{kvs:List (Key×V)}{A:Around}{E:Value->Shared->Prop}
end
section
variable {X:Cx}{pins:List (Addr×Obj)}{σ:St}{H:Hp}{s:Shared}{a:Addr}{y:V}{u:Value}{A:Around}{E:Value->Shared->Prop}
end
end L2
namespace TL
open PySem
theorem sx {α β:Type}{f:α->β->Sem (ForInStep β)}(P:List α->β->Prop)
  (step:∀ x l c,P (x::l) c->∃ c',f x c=pure (.yield c')/\P l c'):∀ (l:List α) (c:β),P l c->∃ c',forIn l c f=pure c'/\P [] c'
 |[],c,h=>⟨c,rfl,h⟩
 |x::l,c,h=>by
  obtain⟨c1,e,h1⟩:=step x l c h
  obtain⟨c2,e2,h2⟩:=sx P step l c1 h1
  refine⟨c2,?_,h2⟩
  rw[cq,e,pure_bind]
  exact e2
theorem jJ {scope:Scope}{env:Env}(h:∀ y∈scope.names,y.2 = .free->∃ c,env.cells.lookup y.1=some c):
  ∃ cl,closureFor scope env=pure cl/\(∀ x c,cl.lookup x=some c->env.cells.lookup x=some c)/\(∀ y∈scope.names,y.2 = .free->∃ c,cl.lookup y.1=some c):=by
 let P:List (Str×NameKind)->List (Str×Addr)->Prop:=λl c=>(∀ y∈l,y.2 = .free->∃ c,env.cells.lookup y.1=some c)/\(∀ x a,c.lookup x=some a->env.cells.lookup x=some a)/\
  (∀ y∈scope.names,y.2 = .free->y∈l\/∃ a,c.lookup y.1=some a)
 simp only[closureFor]
 obtain⟨cl,e,_,h2,h3⟩:=sx (f:=λ(x:Str×NameKind) (r:List (Str×Addr))=>if(x.2==NameKind.free)=true then cellOf env x.1 >>= λc=>pure (ForInStep.yield ((x.1,c)::r))else pure (ForInStep.yield r)) P (by
  rintro⟨n,k⟩ l c ⟨p1,p2,p3⟩
  by_cases hk:k = .free
  ·subst hk
   obtain⟨a,ha⟩:=p1 _ aB rfl
   refine⟨(n,a)::c,?_,λy hy=>p1 y (ax _ hy),λx b hb=>?_,λy hy hf=>?_⟩
   ·have ha':env.cells.lookup n=some a:=ha
    simp[cellOf,ha']
   ·rw[bH]at hb
    by_cases hx:(x==n)=true
    ·rw[hx]at hb
     have e1:x=n:=by simpa using hx
     subst e1
     cases hb
     exact ha
    ·have hx':(x==n)=false:=by simpa using hx
     rw[hx']at hb
     exact p2 x b hb
   ·by_cases hx:(y.1==n)=true
    ·exact .inr ⟨a,by rw[bH,hx]⟩
    ·have hx':(y.1==n)=false:=by simpa using hx
     rcases p3 y hy hf with q |⟨b,q⟩
     ·rcases aG.mp q with q |q
      ·exact absurd (by rw[q];simp) hx
      ·exact .inl q
     ·exact .inr ⟨b,by rw[bH,hx'];exact q⟩
  ·refine⟨c,?_,λy hy=>p1 y (ax _ hy),p2,λy hy hf=>?_⟩
   ·have:(k==NameKind.free)=false:=by simpa using hk
    simp[this]
   ·rcases p3 y hy hf with q |q
    ·rcases aG.mp q with q |q
     ·subst q;exact absurd hf hk
     ·exact .inl q
    ·exact .inr q) scope.names [] ⟨h,λx a hx=>by simp at hx,λy hy _=>.inl hy⟩
 refine⟨cl,?_,h2,λy hy hf=>?_⟩
 ·refine Eq.trans ?_ (bS (λt:Sem (List (Str×Addr))=>t >>= λr=>pure r) e)
  rfl
 ·rcases h3 y hy hf with q |q
  ·cases q
  ·exact q
theorem kj {env:Env} :∀ {names:List (Str×NameKind)}{x:Str},names.lookup x=some .free->
  (names.map λ(n,k)=>if(k==NameKind.free&&env.scope.kind == .function&&env.kindOf n==some .cell)then(n,NameKind.cell)else(n,k)).lookup x=some .cell\/
  (names.map λ(n,k)=>if(k==NameKind.free&&env.scope.kind == .function&&env.kindOf n==some .cell)then(n,NameKind.cell)else(n,k)).lookup x=some .free
 |[],_,h=>by simp at h
 |(n,k)::r,x,h=>by
  have ih:=@kj env r x
  show List.lookup x ((if(k==NameKind.free&&env.scope.kind == .function&&env.kindOf n==some .cell)=true then(n,NameKind.cell)else(n,k))::_)=_\/List.lookup x ((if(k==NameKind.free&&env.scope.kind == .function&&env.kindOf n==some .cell)=true then(n,NameKind.cell)else(n,k))::_)=_
  cases hx:x==n with
  |true=>
   simp only[bH,hx]at h
   cases h
   by_cases hc:(NameKind.free==NameKind.free&&env.scope.kind == .function&&env.kindOf n==some .cell)=true
   ·rw[aJ hc];left;simp[bH,hx]
   ·rw[aF hc];right;simp[bH,hx]
  |false=>
   simp only[bH,hx]at h
   by_cases hc:(k==NameKind.free&&env.scope.kind == .function&&env.kindOf n==some .cell)=true
   ·rw[aJ hc];simp only[bH,hx];exact ih h
   ·rw[aF hc];simp only[bH,hx];exact ih h
theorem j6 {env:Env} :∀ {names:List (Str×NameKind)}{x:Str},(∀ y∈names,y.2≠ .cell)->
  ((names.map λ(n,k)=>if(k==NameKind.free&&env.scope.kind == .function&&env.kindOf n==some .cell)then(n,NameKind.cell)else(n,k)).lookup x=some .cell\/
  (names.map λ(n,k)=>if(k==NameKind.free&&env.scope.kind == .function&&env.kindOf n==some .cell)then(n,NameKind.cell)else(n,k)).lookup x=some .free)->∃ y∈names,y.1=x/\y.2 = .free
 |[],_,_,h=>by simp at h
 |(n,k)::r,x,hn,h=>by
  have ih:=@j6 env r x (λy hy=>hn y (ax _ hy))
  change List.lookup x ((if(k==NameKind.free&&env.scope.kind == .function&&env.kindOf n==some .cell)=true then(n,NameKind.cell)else(n,k))::_)=_\/List.lookup x ((if(k==NameKind.free&&env.scope.kind == .function&&env.kindOf n==some .cell)=true then(n,NameKind.cell)else(n,k))::_)=_ at h
  cases hx:x==n with
  |true=>
   have e:x=n:=by simpa using hx
   by_cases hc:(k==NameKind.free&&env.scope.kind == .function&&env.kindOf n==some .cell)=true
   ·have hk:k = .free:=by
     simp only[eC,beq_iff_eq]at hc
     exact hc.1.1
    exact⟨(n,k),aB,e.symm,hk⟩
   ·rw[aF hc]at h
    simp only[bH,hx]at h
    rcases h with h |h
    ·exact absurd (bh h) (hn (n,k) aB)
    ·exact⟨(n,k),aB,e.symm,bh h⟩
  |false=>
   have h':(r.map λ(n,k)=>if(k==NameKind.free&&env.scope.kind == .function&&env.kindOf n==some .cell)then(n,NameKind.cell)else(n,k)).lookup x=some .cell\/
     (r.map λ(n,k)=>if(k==NameKind.free&&env.scope.kind == .function&&env.kindOf n==some .cell)then(n,NameKind.cell)else(n,k)).lookup x=some .free:=by
    by_cases hc:(k==NameKind.free&&env.scope.kind == .function&&env.kindOf n==some .cell)=true
    ·rw[aJ hc]at h;simpa only[bH,hx]using h
    ·rw[aF hc]at h;simpa only[bH,hx]using h
   obtain⟨y,hy,e⟩:=ih h'
   exact⟨y,ax _ hy,e⟩
section
variable {prog:Program}{w:World}{A:Around}{R:Result->Shared->Prop}{s:Shared}
abbrev qK (ifs:List Expr)(env:Env):Sem Bool:=forIn ifs true λc r=>if r=true then do let ok <-isTrue c env (eval c env);pure (ForInStep.yield ok)else pure (ForInStep.yield r)
theorem wY {elt target iter:Expr}{ifs:List Expr}{scope:Scope}{pos:Pos}{it acc:Value}{env:Env}(I:Nat->Shared->Prop)
  (turn:∀ n s,I n s->wpAny (model prog w) A (pyNext it) (λr s₁=>match r with
   |none=>R (.ok .next) s₁
   |some v=>wpAny (model prog w) A (letOwnedTupleGo target it v) (λ_ s₀=>wpAny (model prog w) A (assign target env v) (λ_ s₂=>
     wpAny (model prog w) A (qK ifs env) (λok s₃=>
      if ok=true then wpAny (model prog w) A (eval elt env) (λx s₄=>
       wpAny (model prog w) A (call (.builtin "list.append") [acc,x]) (λ_ s₅=>∃ m,m<n/\I m s₅) (λ_ _=>False) s₄) (λ_ _=>False) s₃
      else ∃ m,m<n/\I m s₃) (λ_ _=>False) s₂) (λ_ _=>False) s₀) (λ_ _=>False) s₁) (λ_ _=>False) s)
  (n:Nat) (h:I n s):
  codeAny (model prog w) A (.compLoop (.ListComp elt [⟨target,iter,ifs,0⟩] scope pos) 0 it acc env) R s:=by
 refine codeAny_loop rfl I (λn s hI=>?_) n h
 show wpAny _ A ((compTurn (.ListComp elt [⟨target,iter,ifs,0⟩] scope pos) 0 it acc env).onRaise (λx=>do noteFrame x env;theTreesLotGoes x)) _ _ s
 refine wpAny_noted ?_
 rw[compTurn_list]
 refine ae (cm (ae (aZ (turn n s hI) (λr s₁ h₁=>?_) λ_ _ h'=>h'.elim)))
 cases r with
 |none=>exact aj h₁
 |some v=>
  refine ae (aZ h₁ (λ_ s₀ h₀=>?_) λ_ _ h'=>h'.elim)
  refine ae (aZ h₀ (λ_ s₂ h₂=>ae (aZ h₂ (λok s₃ h₃=>?_) λ_ _ h'=>h'.elim)) λ_ _ h'=>h'.elim)
  cases ok with
  |false=>exact aj ⟨rfl,h₃⟩
  |true=>
   exact ae (ae (aZ h₃ (λx s₄ h₄=>ae (aZ h₄ (λ_ s₅ h₅=>aj (aj ⟨rfl,h₅⟩)) λ_ _ h'=>h'.elim)) λ_ _ h'=>h'.elim))
theorem vD (elt target iter:Expr)(ifs:List Expr)(scope:Scope)(pos:Pos)(it acc:Value)(env:Env):
  compTurn (.SetComp elt [⟨target,iter,ifs,0⟩] scope pos) 0 it acc env=(do
   standAt iter.pos
   match <-pyNext it with
   |none=>pure (.done .next)
   |some v=>
    letOwnedTupleGo target it v
    assign target env v
    let mut ok:=true
    for c in ifs do
     if ok then ok <-isTrue c env (eval c env)
    if ok then
     (do let v <-eval elt env;standAt elt.pos;let _ <-call (.builtin "set.add") [acc,v])
    again (.compLoop (.SetComp elt [⟨target,iter,ifs,0⟩] scope pos) 0 it acc env)):=by rfl
theorem ph {elt target iter:Expr}{ifs:List Expr}{scope:Scope}{pos:Pos}{it acc:Value}{env:Env}(I:Nat->Shared->Prop)
  (turn:∀ n s,I n s->wpAny (model prog w) A (pyNext it) (λr s₁=>match r with
   |none=>R (.ok .next) s₁
   |some v=>wpAny (model prog w) A (letOwnedTupleGo target it v) (λ_ s₀=>wpAny (model prog w) A (assign target env v) (λ_ s₂=>
     wpAny (model prog w) A (qK ifs env) (λok s₃=>
      if ok=true then wpAny (model prog w) A (eval elt env) (λx s₄=>
       wpAny (model prog w) A (call (.builtin "set.add") [acc,x]) (λ_ s₅=>∃ m,m<n/\I m s₅) (λ_ _=>False) s₄) (λ_ _=>False) s₃
      else ∃ m,m<n/\I m s₃) (λ_ _=>False) s₂) (λ_ _=>False) s₀) (λ_ _=>False) s₁) (λ_ _=>False) s)
  (n:Nat) (h:I n s):
  codeAny (model prog w) A (.compLoop (.SetComp elt [⟨target,iter,ifs,0⟩] scope pos) 0 it acc env) R s:=by
 refine codeAny_loop rfl I (λn s hI=>?_) n h
 show wpAny _ A ((compTurn (.SetComp elt [⟨target,iter,ifs,0⟩] scope pos) 0 it acc env).onRaise (λx=>do noteFrame x env;theTreesLotGoes x)) _ _ s
 refine wpAny_noted ?_
 rw[vD]
 refine ae (cm (ae (aZ (turn n s hI) (λr s₁ h₁=>?_) λ_ _ h'=>h'.elim)))
 cases r with
 |none=>exact aj h₁
 |some v=>
  refine ae (aZ h₁ (λ_ s₀ h₀=>?_) λ_ _ h'=>h'.elim)
  refine ae (aZ h₀ (λ_ s₂ h₂=>ae (aZ h₂ (λok s₃ h₃=>?_) λ_ _ h'=>h'.elim)) λ_ _ h'=>h'.elim)
  cases ok with
  |false=>exact aj ⟨rfl,h₃⟩
  |true=>
   exact ae (ae (aZ h₃ (λx s₄ h₄=>ae (cm (ae (aZ h₄ (λ_ s₅ h₅=>aj (aj ⟨rfl,h₅⟩)) λ_ _ h'=>h'.elim)))) λ_ _ h'=>h'.elim))
theorem oj {elt target iter ifs rest scope pos it acc env}
  (h0:codeAny (model prog w) A (.compLoop (.SetComp elt (⟨target,iter,ifs,0⟩::rest) scope pos) 0 it acc env) R s)
  (h:wpAny (model prog w) A (pyIter it) (λit' s'=>codeAny (model prog w) A (.compLoop (.SetComp elt (⟨target,iter,ifs,0⟩::rest) scope pos) 0 it' acc env) R s')
   (notedBy (model prog w) A env λx s'=>R (.error x) s') s):
  codeAny (model prog w) A (.compStart (.SetComp elt (⟨target,iter,ifs,0⟩::rest) scope pos) 0 it acc env) R s:=by
 refine codeAny_of_tree ?_
 show wpAny _ _ ((compStart (.SetComp elt (⟨target,iter,ifs,0⟩::rest) scope pos) 0 it acc env).onRaise (λx=>do noteFrame x env;standAt theWindowsPlace)) _ _ s
 refine wpAny_notedAt ?_
 unfold compStart
 show wpAny _ _ (ask >>= _) _ _ s
 refine ae (wpAny_askSetting (wpAny_ite ?_))
 split
 ·first
   |exact ae (aj (aj (And.intro rfl h0)))
   |exact aj (And.intro rfl h0)
 ·first
   |exact ae (wpAny_rule (ae (cm (ae (aZ h (λit' s' h'=>aj (And.intro rfl h')) λ_ _ x=>x)))))
   |(refine ae (wpAny_rule ?_);show wpAny _ _ (standAt iter.pos >>= _) _ _ s;exact ae (cm (ae (aZ h (λit' s' h'=>aj (And.intro rfl h')) λ_ _ x=>x))))
end
open PyProof.Rows
def oth (e:Int):Int:=e+1-2*(e%2)
theorem Cf (x:Int):Builtin.bitXor x 1=oth x:=by
 rw[bitXor_and,bitAnd_m1];unfold oth;omega
theorem qO (e:Int):oth (oth e)=e:=by unfold oth;omega
theorem A5 (e:Int):oth e/2=e/2:=by unfold oth;omega
theorem xG {e:Int}(h:0<=e):0<=oth e:=by unfold oth;omega
end TL
set_option maxHeartbeats 4000000
namespace TL
open PySem PySem.Spec PyProof.Rows L2
abbrev St:=L2.St
def eZ (X:Cx)(scope:Scope)(cl:List (Str×Addr))(N:List Str)(fp:List Addr)(s3:Shared)(H3:Hp):Cx where
 prog:=X.prog
 w:=X.w
 K:=X.K
 mg:=X.mg
 base:=X.base
 A:=X.A
 N:=N
 s₀:=s3
 H₀:=H3
 env:=compEnvC scope cl s3.heap.objs.size X.env
 outer:=X.stack
 stack:=X.stack
 ex:=fp
 fn:=λ_=>false
 calm:=X.calm
 pn:=[]
 xe:=λ_ _=>False
def DC (NX:List Str)(scope:Scope)(N:List Str)(cap:List (Option Nat)):Bool:=
 (N.zip cap).all λp=>match p.2 with
  |none=>true
  |some j=>decide (NX[j]? = some p.1)&&decide (scope.names.lookup p.1=some .free)
structure fG (scX:Scope)(NX:List Str)(scope:Scope)(N:List Str)(own:Nat)(cap:List (Option Nat)):Prop where
 kind:scope.kind = .function
 pV:∀ y∈scope.names,y.2≠ .cell
 loc:∀ y∈scope.names,y.2 = .local->scope.names.lookup y.1=some .local
 fre:∀ y∈scope.names,y.2 = .free->scX.names.lookup y.1=some .cell\/scX.names.lookup y.1=some .free
 len:cap.length=N.length
 MA:DC NX scope N cap=true
 I0:(cap.take own).all (·.isNone)=true
 nd:N.Nodup
def gJ (cap:List (Option Nat))(σ:St):St:=cap.map λo=>o.bind λj=>(σ[j]?).bind id
theorem Ap {cap:List (Option Nat)}{σ:St} :(gJ cap σ).length=cap.length:=by simp[gJ]
theorem kI {cap:List (Option Nat)}{σ:St}{i:Nat}{v:V}(h:(gJ cap σ)[i]? = some (some v)):∃ j,cap[i]? = some (some j)/\σ[j]? = some (some v):=by
 unfold gJ at h
 rw[ai]at h
 cases e:cap[i]? with
 |none=>rw[e]at h;cases h
 |some o=>
  rw[e]at h
  cases o with
  |none=>cases h
  |some j=>
   refine⟨j,rfl,?_⟩
   have h':(σ[j]?).bind id=some v:=by simpa using h
   cases q:σ[j]? with
   |none=>rw[q]at h';cases h'
   |some z=>rw[q]at h';exact bS some h'
theorem fG.at {scX:Scope}{NX:List Str}{scope:Scope}{N:List Str}{own:Nat}{cap:List (Option Nat)}(C:fG scX NX scope N own cap){i j:Nat}{x:Str}(h1:N[i]? = some x)(h2:cap[i]? = some (some j)):
  NX[j]? = some x/\scope.names.lookup x=some .free:=by
 have h:=C.MA
 unfold DC at h
 have hm:(x,some j)∈N.zip cap:=by
  refine dz.mpr ⟨i,?_⟩
  rw[List.getElem?_zip_eq_some]
  exact⟨h1,h2⟩
 have:=cv.mp h _ hm
 simpa using this
theorem fG.mR {scX:Scope}{NX:List Str}{scope:Scope}{N:List Str}{own:Nat}{cap:List (Option Nat)}(C:fG scX NX scope N own cap){i j:Nat}(hi:i<own)(h:cap[i]? = some (some j)):False:=by
 have hm:some j∈cap.take own:=by
  refine dz.mpr ⟨i,?_⟩
  rw[en hi]
  exact h
 have:=cv.mp C.I0 _ hm
 cases this
section
variable {X:Cx}{pins:List (Addr×Obj)}{σ:St}{H H3:Hp}{s s3:Shared}{scope:Scope}{N:List Str}{own:Nat}{cap:List (Option Nat)}{cl:List (Str×Addr)}{fp:List Addr}
theorem mV (I3:Inv X pins σ H3 s3)(C:fG X.env.scope X.N scope N own cap)(i5:∀ x c,cl.lookup x=some c->X.env.cells.lookup x=some c)(ku:∀ y∈scope.names,y.2 = .free->∃ c,cl.lookup y.1=some c)
  (hf:∀ b∈fp,kg X pins H3 b/\b<s3.heap.objs.size) {h4:Heap}{tk:Nat}{m4:Str->Option Value} (hn:h4.Ns s3.heap.objs.size m4) (hk:∀ b u,s3.heap.get? b=some u->h4.get? b=some u):
  Inv (eZ X scope cl N fp s3 H3) [] (gJ cap σ) H3 {s3 with heap:=h4,toks:=tk} :=by
 refine⟨⟨I3.ok.mod,C.kind,I3.ok.glob,I3.ok.blt,ao _,λx y c e1 e2=>I3.ok.inj x y c (i5 _ _ e1) (i5 _ _ e2),λx hx=>?_,λx c h=>?_,I3.ok.hd,I3.ok.frames,.inl rfl,λb hb=>?_,
  I3.bs,bj I3.ok.bsz I3.sz,λb o e hb=>?_,λb hb hz=>?_,I3.stack,I3.uC⟩,rfl,I3.bare,Un.kept hk,⟨m4,hn,λi x v e1 e2 e3=>?_⟩,λx c e=>?_,I3.hok.fresh (ao _),λx c e=>I3.jE x c (i5 x c e),
  λp hp=>absurd (show p∈([]:List (Addr×Obj)) from hp) (by simp),I3.hok.kept hk,?_⟩
 ·obtain⟨y,hy,e,f⟩:=j6 (env:=X.env) C.pV hx
  obtain⟨c,q⟩:=ku y hy f
  exact⟨c,by rw[<-e];exact q⟩
 ·exact absurd (show false=true from h) aA
 ·obtain⟨⟨f0,f1,f2,f3,f4,f5⟩,hlt⟩:=hf b hb
  exact⟨aI hlt,λx c e=>f4 x c (i5 x c e)⟩
 ·obtain⟨⟨f0,f1,f2,f3,f4,f5⟩,hlt⟩:=hf b hb
  rcases f3 with z |z
  ·exact I3.ok.xN b o e z
  ·exact absurd (aU (ay e) (bj I3.ok.bsz z)) (cC _)
 ·obtain⟨⟨f0,f1,f2,f3,f4,f5⟩,hlt⟩:=hf b hb
  rcases aG.mp (I3.lJ b hz)with z |z
  ·exact f1 z
  ·exact f2 z
 ·obtain⟨j,c1,c2⟩:=kI e2
  obtain⟨d1,d2⟩:=C.at e1 c1
  have hk2:=C.fre (x,.free) (cg d2) rfl
  obtain⟨mX,hnX,hl⟩:=I3.loc
  obtain⟨u,r,l⟩:=hl j x v d1 c2 (.inr hk2)
  refine⟨u,r,?_⟩
  rcases l with⟨k,_⟩|⟨k,c,e,z⟩
  ·exfalso
   have k':X.env.scope.names.lookup x=some .local:=k
   rcases hk2 with q |q
   ·rw[k']at q;cases q
   ·rw[k']at q;cases q
  ·obtain⟨c',q⟩:=ku (x,.free) (cg d2) rfl
   have e':=i5 x c' q
   rw[e]at e'
   cases e'
   obtain⟨o,ho,hd⟩:=z
   exact .inr ⟨kj (env:=X.env) d2,c,q,o,hk _ _ ho,hd⟩
 ·obtain⟨v,o,ho,hd⟩:=I3.cell x c (i5 x c e)
  exact⟨v,o,hk _ _ ho,hd⟩
 ·rw[Ap];exact C.len
theorem comp_back {rH:List (Addr×Obj)}{σ':St}{H':Hp}{s':Shared}(I3:Inv X pins σ H3 s3)(hf:∀ b∈fp,kg X pins H3 b)(I':Inv (eZ X scope cl N fp s3 H3) rH σ' H' s'):Inv X pins σ H' s':=
 I3.DD (ch:=fp) I'.os I'.base I'.hok I'.bare λb hb=>by
  obtain⟨f0,f1,f2,f3,f4,f5⟩:=hf b hb
  exact⟨f3,f1,f4,f5⟩
structure Apart (X:Cx)(pins:List (Addr×Obj))(C:Addr):Prop where
 loc:C≠X.env.locals
 new:X.s₀.heap.objs.size<=C
 cel:∀ x c,X.env.cells.lookup x=some c->c≠C
 pin:∀ p∈X.pn++pins,p.1≠C
theorem Inv.apart (I3:Inv X pins σ H3 s3):Apart X pins s3.heap.objs.size:=
 ⟨Nat.ne_of_gt I3.lt,I3.sz,λx c e=>by obtain⟨v,o,ho,_⟩:=I3.cell x c e;exact aI (ay ho),λp hp=>aI (ay (I3.pin p hp).1)⟩
theorem kH {C:Addr}{h':Heap}(I:Inv X pins σ H s)(P:Apart X pins C)(hn:H C=none)(hs:Heap.SameBut C s.heap h'):Inv X pins σ H {s with heap:=h'} :=
 I.turned (t':=s.toks) (λb o hb e=>(hs.2 b hb).trans e) hn P.loc (.inr P.new) P.cel P.pin
end
structure nX (own:Nat)(g:TG):Prop where
 mono:∀ v σ H Q Q',(∀ σ' H',Q σ' H'->Q' σ' H')->g v σ H Q->g v σ H Q'
 own:∀ v σ H Q,g v σ H Q->g v σ H λσ' H'=>Q σ' H'/\σ'.length=σ.length/\∀ i,own<=i->σ'[i]? = σ[i]?
structure uA (own:Nat)(g:TGs):Prop where
 mono:∀ v σ H Q Q',(∀ σ' H',Q σ' H'->Q' σ' H')->g v σ H Q->g v σ H Q'
 own:∀ v σ H Q,g v σ H Q->g v σ H λσ' H'=>Q σ' H'/\σ'.length=σ.length/\∀ i,own<=i->σ'[i]? = σ[i]?
theorem nX.name {own i:Nat}(h:i<own):nX own (mY i):=
 ⟨λv σ H Q Q' f q=>f _ _ q,λv σ H Q q=>⟨q,bP,λj hj=>List.getElem?_set_ne (by omega)⟩⟩
theorem uA.nil {own:Nat} :uA own GY:=⟨λv σ H Q Q' f q=>⟨q.1,f _ _ q.2⟩,λv σ H Q q=>⟨q.1,q.2,rfl,λ_ _=>rfl⟩⟩
theorem uA.cons {own:Nat}{t:TG}{u:TGs}(h1:nX own t)(h2:uA own u):uA own (Dx t u) where
 mono:=λv σ H Q Q' f ⟨x,r,e,q⟩=>⟨x,r,e,h1.mono _ _ _ _ _ (λσ' H' q=>h2.mono _ _ _ _ _ f q) q⟩
 own:=λv σ H Q ⟨x,r,e,q⟩=>⟨x,r,e,h1.mono _ _ _ _ _ (λσ1 H1 ⟨q,l1,o1⟩=>h2.mono _ _ _ _ _ (λσ2 H2 ⟨q,l2,o2⟩=>⟨q,l2.trans l1,λi hi=>(o2 i hi).trans (o1 i hi)⟩) (h2.own _ _ _ _ q)) (h1.own _ _ _ _ q)⟩
theorem nX.tup {own n:Nat}{K:PySem.W.Frag}{t:TGs}(h:uA own t):nX own (GX K n t) where
 mono:=λv σ H Q Q' f ⟨a,xs,e,q1,q2,q⟩=>⟨a,xs,e,q1,q2,h.mono _ _ _ _ _ f q⟩
 own:=λv σ H Q ⟨a,xs,e,q1,q2,q⟩=>⟨a,xs,e,q1,q2,h.own _ _ _ _ q⟩
def qi (X:Cx)(ifs:List Expr)(t:TT):Prop:=
 ∀ (pins:List (Addr×Obj)) (s:Shared) (σ:St) (H:Hp) (Q:Bool->Hp->Prop),Inv X pins σ H s->t σ H Q->wpAny (model X.prog X.w) X.A (qK ifs X.env) (TP X pins σ Q) X.xe s
def AB:TT:=λ_ H Q=>Q true H
theorem gj {X:Cx} :qi X [] AB:=λ_ _ _ H _ I h=>wpAny_tests_nil ⟨H,I,h⟩
theorem lV {X:Cx}{c:Expr}{t:TT}(h:PT X c t):qi X [c] t:=λpins s σ H Q I q=>wpAny_tests_one (h pins s σ H Q I q)
def LcW (J:It)(g:TG)(tt:TT)(te:TE)(cap:List (Option Nat))(σ:St)(Q:VK)(l:Addr)(H1:Hp):Prop:=
 ∃ W:Nat->Nat->List V->Hp->Prop,(∃ m,W 0 m [] (upd H1 l (.lst [])))/\∀ i m acc H,W i m acc H->
  (J.stop i H/\Q (.ref l) H)\/(J.go i H/\∃ N:List V->Hp->Prop,(∀ sZ H',N sZ H'->∃ m',m'<m/\W (i+1) m' sZ H')/\
   ∀ x H',J.yld i H x H'->g x (gJ cap σ) H' λσ2 H2=>tt σ2 H2 λb H3=>
    if b=true then te σ2 H3 λy H4=>H4 l=some (.lst acc)/\acc.length<sizeLine/\N (acc ++ [y]) (upd H4 l (.lst (acc ++ [y])))
    else N acc H3)
def tLC (wi:TI)(cap:List (Option Nat))(g:TG)(tt:TT)(te:TE):TE:=λσ H Q=>wi σ H λJ H1=>∀ l,H1 l=none->
 LcW J g tt te cap σ Q l H1
section
variable {X:Cx}{pins:List (Addr×Obj)}{σ:St}{H1:Hp}{s2:Shared}{scope:Scope}{N:List Str}{own:Nat}{cap:List (Option Nat)}{cl:List (Str×Addr)}{fp:List Addr}
 {tg iter elt:Expr}{ifs:List Expr}{pos:Pos}{g:TG}{tt:TT}{te:TE}{wi:TI}
theorem wX {it:Addr}{tn:Nat->Heap->Prop}{J:It}{Q:VK}{RR:Value->Addr->Result->Shared->Prop}{E:Value->Shared->Prop}(I:Inv X pins σ H1 s2)(T:Turn X.prog X.w X.K tg J fp it tn)(t0:tn 0 s2.heap)
  (f:∀ b∈fp,kg X pins H1 b) (hc:X.calm=true) (C:fG X.env.scope X.N scope N own cap) (ho:nX own g)
  (i5:∀ x c,cl.lookup x=some c->X.env.cells.lookup x=some c) (ku:∀ y∈scope.names,y.2 = .free->∃ c,cl.lookup y.1=some c)
  (hg:∀ s3 H3,PG (eZ X scope cl N fp s3 H3) tg g) (ht:∀ s3 H3,qi (eZ X scope cl N fp s3 H3) ifs tt) (he:∀ s3 H3,PE (eZ X scope cl N fp s3 H3) elt te)
  (hw:∀ l,H1 l=none->LcW J g tt te cap σ Q l H1)
  (fin:∀ l C s' H' m',Inv X pins σ H' s'->s'.heap.Ns C m'->H' C=none->Apart X pins C->Q (.ref l) H'->RR (.ref l) C (.ok .next) s'):
  wpAny (model X.prog X.w) X.A (newList []) (λacc s₃=>wpAny (model X.prog X.w) X.A (newFunctionEnv scope X.env.globals cl [] X.env.qual none .none (some X.env)) (λpx s₄=>
   codeAny (model X.prog X.w) X.A (.compStart (.ListComp elt [⟨tg,iter,ifs,0⟩] scope pos) 0 (.ref it) acc {px with scope:=relabel scope X.env}) (RR acc px.locals) s₄) E s₃) E s2:=by
 refine cQ (cV C.pV (by intro y hy;simp at hy) (λh₁ iA iz=>?_) C.kind)
 dsimp only at iA iz ⊢
 obtain⟨W,⟨m0,w0⟩,turn⟩:=hw s2.heap.objs.size I.fresh
 have I3:Inv X pins σ (upd H1 s2.heap.objs.size (.lst [])) {s2 with heap:=s2.heap.push {cls:=.type "list",dict:=none,data:=.seq ([]:List Value).toArray}} :=I.Gb (ys:=[]) (its:=[]) (t':=s2.toks) .nil (aH _)
 generalize hs3:({s2 with heap:=s2.heap.push {cls:=.type "list",dict:=none,data:=.seq ([]:List Value).toArray}} :Shared)=s3 at I3
 have hh3:s3.heap=s2.heap.push {cls:=.type "list",dict:=none,data:=.seq ([]:List Value).toArray} :=by rw[<-hs3]
 rw[<-hh3]at iA iz ⊢
 have e4:({s2 with heap:=h₁,toks:=s2.toks+([]:List (Str×Value)).length} :Shared) = {s3 with heap:=h₁,toks:=s2.toks} :=by rw[<-hs3];rfl
 rw[e4]
 have k4:∀ b u,s3.heap.get? b=some u->h₁.get? b=some u:=λb u e=>iz.extBut b u (aI (ay e)) (av _ e)
 have k3:∀ b u,s2.heap.get? b=some u->s3.heap.get? b=some u:=λb u e=>by rw[hh3];exact av _ e
 have hb2:∀ b∈fp,b<s2.heap.objs.size:=λb hb=>by obtain⟨o,e,_⟩:=T.obj _ _ t0 b hb;exact ay e
 have f3:∀ b∈fp,kg X pins (upd H1 s2.heap.objs.size (.lst [])) b:=λb hb=>by
  obtain⟨f0,fr⟩:=f b hb
  exact⟨by rw[eN (aI (hb2 b hb))];exact f0,fr⟩
 have hb3:∀ b∈fp,b<s3.heap.objs.size:=λb hb=>by obtain⟨o,e,_⟩:=T.obj _ _ t0 b hb;exact ay (k3 b o e)
 have I4:=mV (tk:=s2.toks) I3 C i5 ku (λb hb=>⟨f3 b hb,hb3 b hb⟩) iA k4
 generalize hH3:upd H1 s2.heap.objs.size (.lst [])=H3 at *
 have st4:tn 0 h₁:=T.keep _ _ _ t0 λb hb o e=>k4 b o (k3 b o e)
 have fpX:∀ {H':Hp},(∀ b∈fp,H' b=none)->∀ b∈fp,kg (eZ X scope cl N fp s3 H3) [] H' b:=λ{H'} hn b hb=>by
  obtain⟨f0,f1,f2,f3',f4,f5⟩:=f3 b hb
  refine⟨hn b hb,aI (hb3 b hb),λhz=>?_,.inl hb,λx c e=>f4 x c (i5 x c e),λp hp=>absurd (show p∈([]:List (Addr×Obj)) from hp) (by simp)⟩
  rcases aG.mp (I3.lJ b hz)with z |z
  ·exact f1 z
  ·exact f2 z
 have loop:codeAny (model X.prog X.w) X.A (.compLoop (.ListComp elt [⟨tg,iter,ifs,0⟩] scope pos) 0 (.ref it) (.ref s2.heap.objs.size) (compEnvC scope cl s3.heap.objs.size X.env)) (RR (.ref s2.heap.objs.size) s3.heap.objs.size) {s3 with heap:=h₁,toks:=s2.toks} :=by
  refine wY (λn s'=>∃ i acc H',Inv (eZ X scope cl N fp s3 H3) [] (gJ cap σ) H' s'/\tn i s'.heap/\(∀ b∈fp,H' b=none)/\W i n acc H') ?_ m0 ⟨0,[],H3,I4,st4,λb hb=>(f3 b hb).1,w0⟩
  rintro n s' ⟨i,acc,H',I',st,fr,w⟩
  rcases turn i n acc H' w with⟨stop,q⟩|⟨go,NN,hNN,step⟩
  ·refine thn (T.done (eZ X scope cl N fp s3 H3) rfl rfl rfl hc i [] s' _ H' (λ_ _=>False) I' (fpX fr) st stop) λr s5 ⟨hr,I5⟩=>?_
   subst hr
   obtain⟨m5,hn5,_⟩:=id I5.loc
   exact fin _ _ s5 H' m5 (comp_back I3 f3 I5) hn5 I5.free (TL.Inv.apart I3) q
  ·refine thn (T.item (eZ X scope cl N fp s3 H3) rfl rfl rfl hc i [] s' _ H' (λ_ _=>False) I' (fpX fr) st go) λr s5 ⟨u,hr,h5⟩=>?_
   subst hr
   refine thn h5 λ_ s6 ⟨x,H6,I6,r6,y6,st6,fr6⟩=>?_
   have I6':=I6.pinned (fpX fr6) (T.obj _ _ st6)
   refine thn (hg s3 H3 _ s6 _ H6 x u _ I6' r6 (ho.own _ _ _ _ (step x H6 y6))) λ_ s7 ⟨σ7,H7,I7,q7,l7,o7⟩=>?_
   have cov:∀ (i:Nat) v,(gJ cap σ)[i]? = some (some v)->σ7[i]? = some (some v):=λi v e=>by
    obtain⟨j,c1,c2⟩:=kI e
    by_cases hi:i<own
    ·exact(C.mR hi c1).elim
    ·rw[o7 i (by omega)];exact e
   have back:∀ {H8:Hp}{s8:Shared},Inv (eZ X scope cl N fp s3 H3) ([]++mw fp s6.heap) σ7 H8 s8->Inv (eZ X scope cl N fp s3 H3) [] (gJ cap σ) H8 s8/\tn (i+1) s8.heap/\∀ b∈fp,H8 b=none:=λ{H8 s8} I8=>by
    refine⟨(Inv.jZ (pins:=[]) I8).weak l7.symm cov,T.keep _ _ _ st6 λb hb o e=>(I8.pin (b,o) (au _ (au _ (gK hb e)))).1,λb hb=>?_⟩
    obtain⟨o,e,d⟩:=T.obj _ _ st6 b hb
    exact(I8.pin (b,o) (au _ (au _ (gK hb e)))).2.1
   refine thn (ht s3 H3 _ s7 σ7 H7 _ I7 q7) λb s8 ⟨H8,I8,q8⟩=>?_
   cases b with
   |false=>
    rw[aF aA]at q8 ⊢
    obtain⟨m',hm,w8⟩:=hNN _ _ q8
    obtain⟨J1,J2,J3⟩:=back I8
    exact⟨m',hm,i+1,acc,H8,J1,J2,J3,w8⟩
   |true=>
    rw[aJ rfl]at q8 ⊢
    refine thn (he s3 H3 _ s8 σ7 H8 _ I8 q8) λv s9 ⟨y,H9,I9,r9,ha,hz,n9⟩=>?_
    obtain⟨m',hm,w9⟩:=hNN _ _ n9
    refine thn (gI _ s9 σ7 H9 (.ref s2.heap.objs.size) [y] (.ref s2.heap.objs.size) [v] (λ_ H10=>W (i+1) m' (acc ++ [y]) H10) I9 rfl (.cons r9 .nil) ⟨_,acc,y,rfl,rfl,ha,hz,w9⟩) λ_ s10 ⟨_,H10,I10,_,w10⟩=>?_
    obtain⟨J1,J2,J3⟩:=back I10
    exact⟨m',hm,i+1,acc ++ [y],H10,J1,J2,J3,w10⟩
 exact codeAny_compStart_list loop (T.self X.A 0 _ _ _ st4 loop)
theorem lW (hi:PI X tg iter wi)(hc:X.calm=true)(C:fG X.env.scope X.N scope N own cap)(ho:nX own g)
  (hg:∀ cl fp s3 H3,PG (eZ X scope cl N fp s3 H3) tg g) (ht:∀ cl fp s3 H3,qi (eZ X scope cl N fp s3 H3) ifs tt) (he:∀ cl fp s3 H3,PE (eZ X scope cl N fp s3 H3) elt te)
  (hs:∀ x,foldedSetIterable iter X.env x=pure x:=by intro _;rfl):PE X (.ListComp elt [⟨tg,iter,ifs,0⟩] scope pos) (tLC wi cap g tt te):=by
 intro pins s σ H Q I h
 obtain⟨cl,ecl,i5,ku⟩:=jJ (scope:=scope) (env:=X.env) λy hy hf=>I.ok.has y.1 (C.fre y hy hf)
 rw[eval_ListComp]
 refine cb (use:=none) rfl hs ecl C.kind C.loc (thn (hi pins s σ H _ I h) λxv s1 h1=>thn h1 λitv s2 h2=>?_)
 obtain⟨it,fp,tn,J,H2,e,I2,T,st2,f2,hw⟩:=h2
 subst e
 refine wX (RR:=λacc C=>compPost (model X.prog X.w) X.A X.xe none (EP X pins σ Q) acc C) I2 T st2 f2 hc C ho i5 ku (hg cl fp) (ht cl fp) (he cl fp) hw λl Ca s' H' m' I' hn jD hP q=>?_
 exact⟨m',hn,λh'' sh=>⟨.ref l,H',kH I' hP jD sh,rfl,q⟩⟩
theorem qv {i:Nat}{x:Str}{pos' AH:Pos}(hN:X.N.Nodup)(hi':X.N[i]? = some x)(hx:X.env.scope.names.lookup x=some .local)(hi:PI X tg iter wi)(hc:X.calm=true)(C:fG X.env.scope X.N scope N own cap)(ho:nX own g)
  (hg:∀ cl fp s3 H3,PG (eZ X scope cl N fp s3 H3) tg g) (ht:∀ cl fp s3 H3,qi (eZ X scope cl N fp s3 H3) ifs tt) (he:∀ cl fp s3 H3,PE (eZ X scope cl N fp s3 H3) elt te)
  (hsw:swapsWith (.ListComp elt [⟨tg,iter,ifs,0⟩] scope pos) (some (.Name x pos')) AH.line X.env=pure true:=by rfl)
  (hs:∀ x,foldedSetIterable iter X.env x=pure x:=by intro _;rfl):PS X (.Assign [.Name x pos'] (.ListComp elt [⟨tg,iter,ifs,0⟩] scope pos) AH) (AD (tLC wi cap g tt te) (mY i)):=by
 intro pins s σ H D I h
 obtain⟨cl,ecl,i5,ku⟩:=jJ (scope:=scope) (env:=X.env) λy hy hf=>I.ok.has y.1 (C.fre y hy hf)
 rw[exec_Assign_Name_used _ _ _ _ hsw]
 refine ae (cm (ae ?_))
 show wpAny _ X.A (do let _ <-comprehension (.ListComp elt [⟨tg,iter,ifs,0⟩] scope pos) scope X.env _ (newList []) false (eval iter X.env) (some (assign (.Name x pos') X.env))) _ _ s
 refine ae (aZ (cb (use:=some (assign (.Name x pos') X.env)) (Q:=λ_ s'=>SP X pins D .next s') rfl hs ecl C.kind C.loc
  (thn (hi pins s σ H _ I h) λxv s1 h1=>thn h1 λitv s2 h2=>?_)) (λ_ s' hq=>aj (aj hq)) λ_ _ e=>e)
 obtain⟨it,fp,tn,J,H2,e,I2,T,st2,f2,hw⟩:=h2
 subst e
 refine wX (RR:=λacc C=>compPost (model X.prog X.w) X.A X.xe (some (assign (.Name x pos') X.env)) (λ_ s'=>SP X pins D .next s') acc C) I2 T st2 f2 hc C ho i5 ku (hg cl fp) (ht cl fp) (he cl fp) hw λl Ca s' H' m' I' hn jD hP q=>?_
 show wpAny _ X.A (assign (.Name x pos') X.env (.ref l)) _ _ _
 refine wpAny_assign_Name (pK I' hN hi' (.inl hx) (v:=.ref l) rfl (λs5 I5 ⟨a,sb,ha⟩=>?_) (.inr hx))
 have hne:Ca≠a:=by
  rcases ha with z |z
  ·rw[z];exact hP.loc
  ·exact λe=>hP.cel x a z e.symm
 refine⟨m',hn.sameBut sb hne,λh'' sh=>⟨_,H',kH I5 hP jD sh,q⟩⟩
end
section
variable {K:PySem.W.Frag}{a l:Addr}{xs:List V}{g:TG}{tt:TT}{te:TE}{cap:List (Option Nat)}{σ:St}{Q:VK}{H1:Hp}
theorem CN (Pv:Nat->List V->Hp->Prop)(h0:Pv 0 [] (upd H1 l (.lst [])))(hl:∀ i acc H,i<=xs.length->Pv i acc H->SqL K H a xs)
  (hs:∀ i x acc H,xs[i]? = some x->Pv i acc H->g x (gJ cap σ) H λσ2 H2=>tt σ2 H2 λb H3=>
    if b=true then te σ2 H3 λy H4=>H4 l=some (.lst acc)/\acc.length<sizeLine/\Pv (i+1) (acc ++ [y]) (upd H4 l (.lst (acc ++ [y])))
    else Pv (i+1) acc H3) (hd:∀ acc H,Pv xs.length acc H->Q (.ref l) H):LcW (Itl K a) g tt te cap σ Q l H1:=by
 refine⟨λi m acc H=>m=xs.length-i/\i<=xs.length/\Pv i acc H,⟨xs.length,by simp,aH _,h0⟩,?_⟩
 rintro i m acc H ⟨rfl,hi,p⟩
 have q:=hl i acc H hi p
 by_cases hlt:i<xs.length
 ·refine .inr ⟨⟨xs,xs[i],q,by simp[hlt]⟩,Pv (i+1),λsZ H' p'=>⟨xs.length-(i+1),by omega,rfl,hlt,p'⟩,λx H' y=>?_⟩
  obtain⟨e,y⟩:=y
  subst e
  exact hs i x acc _ (y xs q) p
 ·have e:i=xs.length:=by omega
  subst e
  exact .inl ⟨⟨xs,q,ao _⟩,hd acc H p⟩
theorem eE {H:Hp}{l:Addr}{o:HO}(hn:H l=none):eQ H (upd H l o):=λb u e=>by rw[eN (eM e hn)];exact e
theorem jU {α:Type}(ds:List α)(p:α->Bool)(f:α->V)(hn:H1 l=none)(hx:SqL K H1 a xs)(hlen:xs.length=ds.length)(hz:xs.length<sizeLine)
  (hs:∀ (i:Nat) x d H,xs[i]? = some x->ds[i]? = some d->eQ H1 H->∀ (P1:VK) (P0:Hp->Prop),(p d=true->P1 (f d) H)->(p d=false->P0 H)->
   g x (gJ cap σ) H λσ2 H2=>tt σ2 H2 λb H3=>if b=true then te σ2 H3 P1 else P0 H3)
  (hq:Q (.ref l) (upd H1 l (.lst ((ds.filter p).map f)))):LcW (Itl K a) g tt te cap σ Q l H1:=by
 refine CN (λi acc H=>acc=((ds.take i).filter p).map f/\H=upd H1 l (.lst acc)) ⟨rfl,rfl⟩ (λi acc H _ ⟨_,e⟩=>by rw[e];exact(eE hn).seq hx) ?_ ?_
 ·rintro i x acc H hi ⟨e1,e2⟩
  have hlt:i<xs.length:=(ag.mp hi).1
  have hd:ds[i]? = some (ds[i]'(by omega)):=by simp
  generalize ds[i]'(by omega)=d at hd
  have step:((ds.take (i+1)).filter p).map f=acc++(if p d=true then[f d]else[]):=by
   rw[take_succ_filter p ds i d hd,ar,e1]
   cases p d<;>rfl
  refine hs i x d H hi hd (by rw[e2];exact eE hn) _ _ (λhp=>?_) (λhp=>?_)
  ·refine⟨by rw[e2,eG],?_,?_,?_⟩
   ·have h1:acc.length<=i:=by
     rw[e1,aa]
     exact bj (bN _ _) (by rw[aN];omega)
    omega
   ·rw[step,hp];rfl
   ·rw[e2,oK]
  ·refine⟨?_,e2⟩
   rw[step,hp,aF aA,cY]
 ·rintro acc H ⟨e1,e2⟩
  rw[hlen,aW]at e1
  rw[e2,e1]
  exact hq
end
mutual
def Dg (L T:Addr->List V->Prop):PyData->V->Prop
 |.none,v=>v = .non
 |.bool b,v=>v = .bl b
 |.int i,v=>v = .int i
 |.str x,v=>v = .str x
 |.list ds,v=>∃ a vs,v = .ref a/\L a vs/\Dgs L T ds vs
 |.tuple ds,v=>∃ a vs,v = .ref a/\T a vs/\Dgs L T ds vs
 |.dict _,_=>False
def Dgs (L T:Addr->List V->Prop):List PyData->List V->Prop
 |[],vs=>vs = []
 |d::ds,vs=>∃ v r,vs=v::r/\Dg L T d v/\Dgs L T ds r
end
mutual
theorem Dg.mono {L T L' T':Addr->List V->Prop}(hL:∀ a vs,L a vs->L' a vs)(hT:∀ a vs,T a vs->T' a vs):∀ {d:PyData}{v:V},Dg L T d v->Dg L' T' d v
 |.none,_,h=>by simpa only[Dg]using h
 |.bool _,_,h=>by simpa only[Dg]using h
 |.int _,_,h=>by simpa only[Dg]using h
 |.str _,_,h=>by simpa only[Dg]using h
 |.list ds,_,h=>by
  simp only[Dg]at h ⊢
  obtain⟨a,vs,e,l,q⟩:=h
  exact⟨a,vs,e,hL a vs l,Dgs.mono hL hT q⟩
 |.tuple ds,_,h=>by
  simp only[Dg]at h ⊢
  obtain⟨a,vs,e,l,q⟩:=h
  exact⟨a,vs,e,hT a vs l,Dgs.mono hL hT q⟩
 |.dict _,_,h=>by simp only[Dg]at h
theorem Dgs.mono {L T L' T':Addr->List V->Prop}(hL:∀ a vs,L a vs->L' a vs)(hT:∀ a vs,T a vs->T' a vs):∀ {ds:List PyData}{vs:List V},Dgs L T ds vs->Dgs L' T' ds vs
 |[],_,h=>by simpa only[Dgs]using h
 |d::ds,_,h=>by
  simp only[Dgs]at h ⊢
  obtain⟨v,r,e,l,q⟩:=h
  exact⟨v,r,e,Dg.mono hL hT l,Dgs.mono hL hT q⟩
end
section
variable {L T:Addr->List V->Prop}
theorem gw {i:Int}{v:V} :Dg L T (.int i) v↔v = .int i:=by simp only[Dg]
theorem yf {i:Str}{v:V} :Dg L T (.str i) v↔v = .str i:=by simp only[Dg]
theorem ic {ds:List PyData}{v:V} :Dg L T (.list ds) v↔∃ a vs,v = .ref a/\L a vs/\Dgs L T ds vs:=by simp only[Dg]
theorem gB {ds:List PyData}{v:V} :Dg L T (.tuple ds) v↔∃ a vs,v = .ref a/\T a vs/\Dgs L T ds vs:=by simp only[Dg]
theorem gh {vs:List V} :Dgs L T [] vs↔vs = []:=by simp only[Dgs]
theorem fx {d:PyData}{ds:List PyData}{vs:List V} :Dgs L T (d::ds) vs↔∃ v r,vs=v::r/\Dg L T d v/\Dgs L T ds r:=by simp only[Dgs]
theorem Dgs.length:∀ {ds:List PyData}{vs:List V},Dgs L T ds vs->vs.length=ds.length
 |[],_,h=>by rw[gh.mp h];rfl
 |d::ds,_,h=>by
  obtain⟨v,r,rfl,_,q⟩:=fx.mp h
  rw[aO,aO,Dgs.length q]
theorem l0:∀ {ns:List Int}{vs:List V},Dgs L T (ns.map .int) vs↔vs=ns.map V.int
 |[],vs=>gh
 |n::ns,vs=>by
  rw[aR,fx]
  constructor
  ·rintro⟨v,r,rfl,h1,h2⟩
   rw[gw.mp h1,l0.mp h2];rfl
  ·rintro rfl
   exact⟨_,_,rfl,gw.mpr rfl,l0.mpr rfl⟩
theorem Dgs.append:∀ {ds es:List PyData}{vs us:List V},Dgs L T ds vs->Dgs L T es us->Dgs L T (ds++es) (vs++us)
 |[],_,_,_,h,k=>by rw[gh.mp h];exact k
 |d::ds,_,_,_,h,k=>by
  obtain⟨v,r,rfl,h1,q⟩:=fx.mp h
  exact fx.mpr ⟨v,_,rfl,h1,Dgs.append q k⟩
theorem Dgs.one {d:PyData}{v:V}(h:Dg L T d v):Dgs L T [d] [v]:=fx.mpr ⟨v,[],rfl,h,gh.mpr rfl⟩
theorem Dgs.two {d e:PyData}{v u:V}(h:Dg L T d v)(k:Dg L T e u):Dgs L T [d,e] [v,u]:=fx.mpr ⟨v,[u],rfl,h,.one k⟩
theorem Dgs.get:∀ {ds:List PyData}{vs:List V}{i:Nat}{v:V},Dgs L T ds vs->vs[i]? = some v->∃ d,ds[i]? = some d/\Dg L T d v
 |[],_,_,_,h,e=>by rw[gh.mp h]at e;simp at e
 |d::ds,_,0,v,h,e=>by
  obtain⟨x,r,rfl,h1,q⟩:=fx.mp h
  simp at e;subst e
  exact⟨d,rfl,h1⟩
 |d::ds,_,i+1,v,h,e=>by
  obtain⟨x,r,rfl,h1,q⟩:=fx.mp h
  obtain⟨d',e1,e2⟩:=Dgs.get (i:=i) (v:=v) q (by simpa using e)
  exact⟨d',by simpa using e1,e2⟩
theorem Dgs.insert:∀ {ds:List PyData}{vs:List V} (i:Nat) {d:PyData}{v:V},Dgs L T ds vs->Dg L T d v->Dgs L T (ds.take i++d::ds.drop i) (vs.take i++v::vs.drop i)
 |ds,vs,0,d,v,h,k=>fx.mpr ⟨v,vs,by simp,k,by simpa using h⟩
 |[],vs,i+1,d,v,h,k=>by rw[gh.mp h];simpa using Dgs.one k
 |x::ds,vs,i+1,d,v,h,k=>by
  obtain⟨y,r,rfl,h1,q⟩:=fx.mp h
  exact fx.mpr ⟨y,_,rfl,h1,Dgs.insert i q k⟩
end
abbrev Da (K:PySem.W.Frag)(H:Hp):PyData->V->Prop:=Dg (SqL K H) (SqT K H)
abbrev Das (K:PySem.W.Frag)(H:Hp):List PyData->List V->Prop:=Dgs (SqL K H) (SqT K H)
theorem fq {K:PySem.W.Frag}{H H':Hp}{a:Addr}{xs:List V}(e:eQ H H')(h:SqT K H a xs):SqT K H' a xs:=by
 rcases h with(h |⟨o,h⟩)|h
 ·exact .inl (.inl (e _ _ h))
 ·exact .inl (.inr ⟨o,e _ _ h⟩)
 ·exact .inr h
theorem Da.same {K:PySem.W.Frag}{H H':Hp}(e:eQ H H'){d:PyData}{v:V}(h:Da K H d v):Da K H' d v:=Dg.mono (λ_ _ q=>e.seq q) (λ_ _ q=>fq e q) h
theorem Das.same {K:PySem.W.Frag}{H H':Hp}(e:eQ H H'){d:List PyData}{v:List V}(h:Das K H d v):Das K H' d v:=Dgs.mono (λ_ _ q=>e.seq q) (λ_ _ q=>fq e q) h
section
variable {X:Cx}{pins:List (Addr×Obj)}{σ:St}{H:Hp}{s:Shared}
mutual
theorem Da.reads (I:Inv X pins σ H s):∀ {d:PyData}{v:V}{u:Value},Da X.K H d v->RelV v u->∃ as,Reads s.heap u d as
 |.none,v,u,h,r=>by
  have e:v = .non:=by simpa only[Dg]using h
  subst e;cases r;exact⟨_,.none⟩
 |.bool b,v,u,h,r=>by
  have e:v = .bl b:=by simpa only[Dg]using h
  subst e;cases r;exact⟨_,.bool b⟩
 |.int i,v,u,h,r=>by
  have e:v = .int i:=by simpa only[Dg]using h
  subst e;obtain⟨t,rfl⟩:=r;exact⟨_,.int i t⟩
 |.str i,v,u,h,r=>by
  have e:v = .str i:=by simpa only[Dg]using h
  subst e;obtain⟨t,rfl⟩:=r;exact⟨_,.str i t⟩
 |.list ds,v,u,h,r=>by
  obtain⟨a,vs,rfl,l,q⟩:=ic.mp h
  cases r
  obtain⟨its,rv,p,hz⟩:=I.list l
  obtain⟨as,rs⟩:=Das.reads I q rv
  obtain⟨o,ho,hc,n,hd⟩:=p.isList
  exact⟨_,.list ho hc hd (by simpa using rs)⟩
 |.tuple ds,v,u,h,r=>by
  obtain⟨a,vs,rfl,l,q⟩:=gB.mp h
  cases r
  obtain⟨its,rv,p,hz⟩:=I.tuple l
  obtain⟨as,rs⟩:=Das.reads I q rv
  obtain⟨o,ho,hc,n,hd⟩:=p
  exact⟨_,.tuple ho hc hd (by simpa using rs)⟩
 |.dict _,v,u,h,r=>by simp only[Dg]at h
theorem Das.reads (I:Inv X pins σ H s):∀ {ds:List PyData}{vs:List V}{us:List Value},Das X.K H ds vs->Vals vs us->∃ as,ReadsAll s.heap us ds as
 |[],vs,us,h,r=>by
  rw[gh.mp h]at r;cases r;exact⟨_,.nil⟩
 |d::ds,vs,us,h,r=>by
  obtain⟨v,w,rfl,h1,q⟩:=fx.mp h
  cases r with
  |cons r1 r2=>
   obtain⟨as,e1⟩:=Da.reads I h1 r1
   obtain⟨bs,e2⟩:=Das.reads I q r2
   exact⟨_,.cons e1 e2⟩
end
end
section
variable {X:Cx}
def OkD (d:PyData):Prop:=d.canLay0=true/\d.depth<=20
def Iv (K:PySem.W.Frag):R2:=λx y H Q=>∃ d e,Da K H d x/\Da K H e y/\OkD d/\OkD e/\Q (.bl (PyData.eqv d e)) H
def Iu (K:PySem.W.Frag):R2:=λx y H Q=>∃ d e,Da K H d x/\Da K H e y/\OkD d/\OkD e/\Q (.bl (!PyData.eqv d e)) H
theorem uS (hu:X.A.units+64<cLine):OpR X (compareOp .Eq) (Iv X.K):=by
 intro pins s σ H x y v u Q I rx ry h
 obtain⟨d,e,h1,h2,o1,o2,q⟩:=h
 obtain⟨as,r1⟩:=Da.reads I h1 rx
 obtain⟨bs,r2⟩:=Da.reads I h2 ry
 exact SeqAt.compareEq_reads r1 r2 o1.1 o2.1 (by have:=o1.2;have:=o2.2;omega) ⟨.bl _,H,I,rfl,q⟩
theorem xI (hu:X.A.units+64<cLine):OpR X (compareOp .NotEq) (Iu X.K):=by
 intro pins s σ H x y v u Q I rx ry h
 obtain⟨d,e,h1,h2,o1,o2,q⟩:=h
 obtain⟨as,r1⟩:=Da.reads I h1 rx
 obtain⟨bs,r2⟩:=Da.reads I h2 ry
 exact SeqAt.compareNe_reads r1 r2 o1.1 o2.1 (by have:=o1.2;have:=o2.2;omega) ⟨.bl _,H,I,rfl,q⟩
def Cb (ds:List PyData):Prop:=PyData.canLayAll0 ds=true/\PyData.depthAll ds<=20
def Cv (K:PySem.W.Frag)(neg:Bool):R2:=λx y H Q=>∃ ds d,Da K H (.list ds) y/\Da K H d x/\Cb ds/\OkD d/\Q (.bl (if neg then !(ds.any λz=>PyData.eqv z d)else ds.any λz=>PyData.eqv z d)) H
theorem A6 (hu:X.A.units+64<cLine):OpR X (compareOp .In) (Cv X.K false):=by
 intro pins s σ H x y v u Q I rx ry h
 obtain⟨ds,d,h1,h2,o1,o2,q⟩:=h
 obtain⟨as,r1⟩:=Da.reads I h1 ry
 obtain⟨bs,r2⟩:=Da.reads I h2 rx
 exact SeqAt.in_list_reads r1 r2 o1.1 o2.1 (by have:=o1.2;have:=o2.2;omega) ⟨.bl _,H,I,rfl,q⟩
theorem kE (hu:X.A.units+64<cLine):OpR X (compareOp .NotIn) (Cv X.K true):=by
 intro pins s σ H x y v u Q I rx ry h
 obtain⟨ds,d,h1,h2,o1,o2,q⟩:=h
 obtain⟨as,r1⟩:=Da.reads I h1 ry
 obtain⟨bs,r2⟩:=Da.reads I h2 rx
 exact SeqAt.notIn_list_reads r1 r2 o1.1 o2.1 (by have:=o1.2;have:=o2.2;omega) ⟨.bl _,H,I,rfl,q⟩
end
theorem gC {α:Type}{f:α->PyData}(h:∀ x,(f x).canLay0=true):∀ l:List α,PyData.canLayAll0 (l.map f)=true
 |[]=>by simp[PyData.canLayAll0]
 |x::l=>by simp[PyData.canLayAll0,h x,gC h l]
theorem fL {α:Type}{f:α->PyData}{k:Nat}(h:∀ x,(f x).depth<=k):∀ l:List α,PyData.depthAll (l.map f)<=k
 |[]=>by simp[PyData.depthAll]
 |x::l=>by
  simp only[aR,PyData.depthAll]
  exact Nat.max_le.mpr ⟨h x,fL h l⟩
def dI (ns:List Int):PyData:=.list (ns.map .int)
def dP (p:Int×Int):PyData:=.tuple [.int p.1,.int p.2]
def dJ (js:List (Int×Int)):PyData:=.list (js.map dP)
def dL (l:Int×List (Int×Int)):PyData:=.tuple [.int l.1,dJ l.2]
theorem nN (i:Int):OkD (.int i):=⟨rfl,by simp[PyData.depth]⟩
theorem j7 (ns:List Int):OkD (dI ns):=⟨by simp only[dI,PyData.canLay0];exact gC (λ_=>rfl) ns,by
 simp only[dI,PyData.depth]
 have:=fL (f:=PyData.int) (k:=0) (λ_=>by simp[PyData.depth]) ns
 omega⟩
theorem sF (p:Int×Int):(dP p).canLay0=true:=by simp[dP,PyData.canLay0,PyData.canLayAll0]
theorem vB (p:Int×Int):(dP p).depth<=1:=by simp[dP,PyData.depth,PyData.depthAll]
theorem mS (p:Int×Int):OkD (dP p):=⟨sF p,by have:=vB p;omega⟩
theorem Ek (js:List (Int×Int)):Cb (js.map dP):=⟨gC sF js,by have:=fL vB js;omega⟩
theorem ze (js:List (Int×Int)):(dJ js).depth<=2:=by simp only[dJ,PyData.depth];have:=fL vB js;omega
theorem F0 (js:List (Int×Int)):OkD (dJ js):=⟨by simp only[dJ,PyData.canLay0];exact gC sF js,by have:=ze js;omega⟩
theorem zd (l:Int×List (Int×Int)):(dL l).depth<=3:=by
 simp only[dL,PyData.depth,PyData.depthAll]
 have:=ze l.2
 omega
theorem FZ (l:Int×List (Int×Int)):OkD (dL l):=⟨by simp only[dL,PyData.canLay0,PyData.canLayAll0,Bool.and_true,Bool.true_and];exact(F0 l.2).1,by have:=zd l;omega⟩
theorem wN {d:PyData}(h:OkD d):PyData.eqv d d=true:=SeqAt.eqv_refl d h.1
theorem wO (p q:Int×Int):PyData.eqv (dP p) (dP q)=decide (p=q):=by
 obtain⟨a,b⟩:=p
 obtain⟨c,d⟩:=q
 simp only[dP,PyData.eqv,PyData.eqvAll,Bool.and_true]
 rw[bx]
 simp
theorem Hk (js:List (Int×Int))(p:Int×Int):((js.map dP).any λz=>PyData.eqv z (dP p))=decide (p∈js):=by
 rw[List.any_map,bx,eA,cw]
 constructor
 ·rintro⟨x,hx,e⟩
  have e':PyData.eqv (dP x) (dP p)=true:=e
  rw[wO,cw]at e'
  rw[<-e'];exact hx
 ·intro h
  exact⟨p,h,by show PyData.eqv (dP p) (dP p)=true;rw[wO];simp⟩
theorem ky (ds:List PyData):PyData.eqv (.list ds) (.list [])=ds.isEmpty:=by
 cases ds<;>simp[PyData.eqv,PyData.eqvAll]
theorem qP:OkD (.list []):=j7 []
section
variable {X:Cx}
theorem CS (its:List Value)(k:Nat)(y:Value):(its.toArray.extract 0 k).push y++its.toArray.extract k=(its.take k++y::its.drop k).toArray:=PySem.W.kl_ins_eq its k y
def Cu:V->List V->Hp->VK->Prop:=λx vs H Q=>∃ l xs i y,x = .ref l/\vs = [.int i,y]/\H l=some (.lst xs)/\0<=i/\i<=xs.length/\xs.length<sizeLine/\Q .non (upd H l (.lst (xs.take i.toNat++y::xs.drop i.toNat)))
theorem t7:MtM X "list.insert" Cu:=by
 intro pins s σ H x vs v us Q I rx rv h
 obtain⟨l,xs,i,y,rfl,rfl,hH,h0,h1,hz,q⟩:=h
 cases rx
 obtain⟨ui,u,rfl,ri,ru⟩:=rv.two
 obtain⟨t,rfl⟩:=ri
 obtain⟨z,its,n,r,hl,e⟩:=I.zR hH
 have hs:its.toArray.size<=sizeLine:=by rw[aD];omega
 have hf:Builtin.List.listFitsIndex i=true:=by
  unfold Builtin.List.listFitsIndex
  have h63:(sizeLine:Nat)<2 ^ 62:=by rw[cF];decide
  simp only[eC,dk]
  constructor<;>omega
 refine call_meets ef ⟨_,e,rfl⟩ PySem.F.entry_list_insert (PySem.F.args_list_insert_3 _ _ _) (PySem.AutoSeq1.list_insert_list_int_val_1 l its.toArray n i t u (by simp[hf]) hs) ⟨e,?_⟩
 refine⟨.non,_,I.CM (its':=its.take i.toNat++u::its.drop i.toNat) (ys:=xs.take i.toNat++y::xs.drop i.toNat) hH e ?_ ((r.take i.toNat).append (.cons ru (r.drop i.toNat))) ?_,rfl,q⟩
 ·have hk:(if i<0 then(i+(its.toArray.size:Int)).toNat else min i.toNat its.toArray.size)=i.toNat:=by
   rw[aF (by omega),aD]
   omega
  show(its.toArray.extract 0 (if i<0 then(i+(its.toArray.size:Int)).toNat else min i.toNat its.toArray.size)).push u++its.toArray.extract (if i<0 then(i+(its.toArray.size:Int)).toNat else min i.toNat its.toArray.size)=_
  rw[hk,CS]
 ·rw[ah,aO,aN,bA]
  omega
end
def srt (ns:List Int):List Int:=ns.mergeSort (λa b=>decide (a<=b))
theorem oO (ns:List Int):(srt ns).Perm ns:=List.mergeSort_perm ns _
theorem vO (ns:List Int):(srt ns).Pairwise (· <= ·):=by
 have h:=List.pairwise_mergeSort (le:=λa b:Int=>decide (a<=b)) (by intro a b c h1 h2;simp only[dk]at *;omega) (by intro a b;simp only[Bool.or_eq_true,dk];omega) ns
 exact h.imp (by intro a b h;simpa using h)
theorem xy {a b:List Int}(hp:a.Perm b)(ha:a.Pairwise (· <= ·))(hb:b.Pairwise (· <= ·)):a=b:=PySem.W.ksm_same hp ha hb
theorem AF {a ns:List Int}(hp:a.Perm ns)(ha:a.Pairwise (· <= ·)):a=srt ns:=xy (hp.trans (oO ns).symm) ha (vO ns)
theorem zB {a b:List Int}(hp:a.Perm b):srt a=srt b:=AF ((oO a).trans hp) (vO a)
theorem Cq {ns:List Int}{x:Int} :x∈srt ns↔x∈ns:=(oO ns).mem_iff
theorem mj (ns:List Int):(srt ns).length=ns.length:=(oO ns).length_eq
section
variable {X:Cx}
theorem qz:jC X (.builtin "sorted") (λxs H Q=>∃ a ns,xs = [.ref a]/\SqL X.K H a (ns.map V.int)/\ns.length<64/\∀ p,H p=none->Q (.ref p) (upd H p (.lst ((srt ns).map V.int)))):=by
 intro pins s σ H xs us Q I r h
 obtain⟨a,ns,rfl,hx,h64,q⟩:=h
 obtain⟨u,rfl,ru⟩:=vals1 r
 cases ru
 obtain⟨its,rv,p,hz⟩:=I.list hx
 have hlen:=rv.length
 rw[aa]at hlen
 refine sorted_ints p.isList (intsAre_of rv) (by omega) λout ns' h1 h2 h3=>?_
 obtain⟨e,he⟩:=sortedAll_at s.heap its out
 have e':ns'=srt ns:=AF h2 h3
 subst e'
 have vo:Vals ((srt ns).map V.int) out.toList:=pI h1
 refine⟨.ref (s.heap.objs.size+1),_,I.laid (t':=s.toks) (o:=.lst ((srt ns).map V.int)) (λb ob q=>sortedAll_old q) (d8 _) ⟨?_,out.toList,e,vo,?_⟩,rfl,q _ (I.hok.fresh (d8 _))⟩
 ·rw[aa,mj]
  rw[aa]at hz
  exact hz
 ·rw[he,Array.toArray_toList]
end
theorem Inv.tw {X:Cx}{pins:List (Addr×Obj)}{σ:St}{H:Hp}{s:Shared}{h':Heap}{t':Nat}{ch:List Addr}{xs:List V}{us:List Value}(I:Inv X pins σ H s)(hf:∀ b∈ch,kg X pins H b)
  (keep:∀ b o,b∉ch->s.heap.get? b=some o->h'.get? b=some o) (r:Vals xs us) (hz:xs.length<=sizeLine) (ht:h'.get? s.heap.objs.size=some {cls:=.type "tuple",data:=.seq us.toArray}):
  Inv X pins σ (upd H s.heap.objs.size (.tup xs)) {s with heap:=h',toks:=t'} :=by
 have hn:H s.heap.objs.size=none:=I.fresh
 have nch:∀ b u,H b=some u->b∉ch:=λb u q z=>by rw[(hf b z).1]at q;cases q
 refine I.step (g':=s.gens) (d':=s.drawn) (ch:=ch) (λb hb=>?_) (λb o _ _ hc q _=>keep b o hc q) (λb o _ _ hc q _=>⟨o.slots,keep b o hc q⟩) (λb o _ q n=>?_)
  (λb o hc q=>⟨o,keep b o hc q⟩) (λb ys q=>by rw[eN (eM q hn)];exact q) (λb o ys q=>by rw[eN (eM q hn)];exact q) (λb ps q=>⟨#[],by rw[eN (eM q hn),q];simp⟩) (λm hm=>?_) (λb u q=>?_) I.bare
 ·obtain⟨f0,f1,f2,f3,f4,f5⟩:=hf b hb
  exact⟨f3,f1,f4,f5⟩
 ·rw[eN (aI (ay q))];exact n
 ·obtain⟨o,es,ep,ho,r⟩:=hm
  exact⟨o,es,ep,keep _ o (λz=>(hf _ z).2.1 rfl) ho,r⟩
 ·by_cases hb:b=s.heap.objs.size
  ·subst hb
   rw[eG]at q
   cases q
   exact⟨hz,us,r,⟨_,ht,rfl,_,rfl⟩⟩
  ·rw[eN hb]at q
   refine(I.hok b u q).ot (λc v hc q'=>keep c v ?_ q') (λc z=>by rw[eN (eM z hn)];exact z) λc ys z=>by rw[eN (eM z hn)];exact z
   rcases hc with z |z
   ·rw[z];exact nch b u q
   ·exact nch c _ z
def Ite (K:PySem.W.Frag)(a:Addr):It:=
 ⟨λi H=>∃ xs x,SqL K H a xs/\xs[i]? = some x,λi H x H'=>∃ p,H p=none/\x = .ref p/\∀ xs y,SqL K H a xs->xs[i]? = some y->H'=upd H p (.tup [.int i,y]),λi H=>∃ xs,SqL K H a xs/\xs.length<=i⟩
theorem zx {P:Program}{w:World}{K:PySem.W.Frag}{es:List Expr}{x1:Nat}{pt:Pos}(a e it:Addr)(hne:e≠it):
  Turn P w K (.Tuple es x1 pt) (Ite K a) [e,it] e (λi h=>∃ old,IsEnum h e it i old/\h.IsListIter it a i) where
 mem:=by simp
 obj:=λi h st b hb=>by
  obtain⟨old,h1,h2⟩:=st
  rcases aG.mp hb with z |z
  ·subst z;exact⟨_,h1,λv z=>by cases z⟩
  ·have z:b=it:=by simpa using z
   subst z
   obtain⟨o,ho,c,d⟩:=h2
   exact⟨o,ho,λv z=>by rw[d]at z;cases z⟩
 keep:=λi h h' ⟨old,h1,h2⟩ k=>⟨old,k e (by simp) _ h1,h2.at λo q=>k it (by simp) o q⟩
 item:=by
  intro X hP hw hK hc i pins s σ H E I hf st hg
  subst hP hw hK
  obtain⟨old,h1,h2⟩:=st
  obtain⟨xs,x,hq,hx⟩:=hg
  obtain⟨its,rv,p,hz⟩:=I.list hq
  obtain⟨u,hu,ru⟩:=rv.get hx
  have lt1:e<s.heap.objs.size:=ay h1
  refine wpAny_pyNext_enum_item h1 h2 p.isList (x:=u) (by simpa using hu) hne λh' k1 k2 k3 k4 k5=>?_
  refine⟨_,rfl,?_⟩
  refine wpAny_letOwnedTupleGo_enum (s:={s with heap:=h',toks:=s.toks+1}) k1 λh'' m1 m2=>?_
  have keep:∀ b o,b∉ [e,it]->s.heap.get? b=some o->h''.get? b=some o:=λb o hb q=>m2.extBut b o (λz=>hb (by simp[z])) (k5 b o (λz=>hb (by simp[z])) (λz=>hb (by simp[z])) q)
  have ht:h''.get? s.heap.objs.size=some {cls:=.type "tuple",data:=.seq [Value.int i s.toks,u].toArray} :=m2.extBut _ _ (Nat.ne_of_gt lt1) k3
  have J1:Inv X pins σ (upd H s.heap.objs.size (.tup [.int i,x])) {s with heap:=h'',toks:=s.toks+1} :=Inv.tw I hf keep (.cons ⟨_,rfl⟩ (.cons ru .nil)) (by show 2<=sizeLine;decide) ht
  have hn:H s.heap.objs.size=none:=I.fresh
  refine⟨.ref s.heap.objs.size,_,J1,rfl,⟨_,hn,rfl,λys y hy h=>?_⟩,⟨u,?_,?_⟩,λb hb=>?_⟩
  ·have e1:=I.o5 hy hq
   subst e1
   rw[hx]at h
   cases h
   rfl
  ·have e1:((i+1:Nat):Int)=(i:Int)+1:=by omega
   rw[e1];exact m1
  ·exact k2.extBut m2.extBut (bK hne)
  ·obtain⟨o,q,_⟩:∃ o,s.heap.get? b=some o/\True:=by
    rcases aG.mp hb with z |z
    ·subst z;exact⟨_,h1,trivial⟩
    ·have z:b=it:=by simpa using z
     subst z
     obtain⟨o,ho,_⟩:=h2
     exact⟨o,ho,trivial⟩
   rw[eN (aI (ay q))]
   exact(hf b hb).1
 done:=by
  intro X hP hw hK hc i pins s σ H E I hf st hg
  subst hP hw hK
  obtain⟨old,h1,h2⟩:=st
  obtain⟨xs,hq,hx⟩:=hg
  obtain⟨its,rv,p,hz⟩:=I.list hq
  obtain⟨g0,g1,g2,g3,g4,g5⟩:=hf it (by simp)
  have hl:=rv.length
  exact wpAny_pyNext_enum_end (I.ok.hd hc) h1 h2 p.isList (by simp;omega) λh' eb=>⟨rfl,I.turned (t':=s.toks) (λb o hb e=>eb b o hb e) g0 g1 g3 g4 g5⟩
 self:=λ_ _ _ _ _ ⟨old,h1,h2⟩ h=>wpAny_pyIter_enum h1 h
section
variable {X:Cx}
def Gp (K:PySem.W.Frag)(ta:TA):TI:=λσ H R=>ta σ H λvs H1=>∃ a,vs = [.ref a]/\(∃ xs,SqL K H1 a xs)/\R (Ite K a) H1
theorem CB {a:Expr}{ta:TA}{p pos:Pos}{es:List Expr}{x1:Nat}{pt:Pos}(hg:Gl X "enumerate")(hm:X.mg "enumerate" = none)(ha:PA X [a] ta)(hs:starEach [a] X.env = [(false,eval a X.env)]:=by rfl):PI X (.Tuple es x1 pt) (.Call (.Name "enumerate" p) [a] [] pos) (Gp X.K ta):=by
 intro pins s σ H R I h
 refine Call_ (oy I hg hm boot_enumerate (cj (thn (ha pos pins s σ H _ I h) λus s1 ⟨vs,H1,I1,r1,q1⟩=>?_) hs rfl))
 obtain⟨a,e,⟨xs,hq⟩,q⟩:=q1
 subst e
 obtain⟨u,rfl,ru⟩:=vals1 r1
 cases ru
 obtain⟨its,rv,pl,hz⟩:=I1.list hq
 refine call_enumerate_list pl.isList λh' k1 k2 k3 k4=>?_
 refine wpAny_pyIter_enum (s:={s1 with heap:=h'}) k1 ?_
 refine⟨s1.heap.objs.size+1,[s1.heap.objs.size+1,s1.heap.objs.size],_,_,H1,rfl,I1.kept (t':=s1.toks) k4,zx a _ _ (Nat.succ_ne_self _),⟨.none,k1,k2⟩,λb hb=>?_,q⟩
 have hb':s1.heap.objs.size<=b:=by
  rcases aG.mp hb with z |z
  ·rw[z];exact d8 _
  ·have z:b=s1.heap.objs.size:=by simpa using z
   rw[z];exact ao _
 exact I1.BO hb' (I1.hok.fresh hb')
end
theorem BP {K:PySem.W.Frag}{a:Addr}{xs:List V}{g:TG}{tb:TS}{D:Ends}{σ:St}{H:Hp}(Pv:Nat->St->Hp->Prop)(h0:Pv 0 σ H)(hl:∀ i σ H,i<=xs.length->Pv i σ H->SqL K H a xs)
  (hs:∀ i x σ H p,xs[i]? = some x->Pv i σ H->H p=none->g (.ref p) σ (upd H p (.tup [.int i,x])) λσ2 H2=>tb {D with nx:=Pv (i+1),ct:=Pv (i+1),bk:=D.nx} σ2 H2) (hd:∀ σ H,Pv xs.length σ H->D.nx σ H):
  ∃ W:Nat->Nat->St->Hp->Prop,(∃ m,W 0 m σ H)/\∀ i m σ H,W i m σ H->
   ((Ite K a).stop i H/\D.nx σ H)\/((Ite K a).go i H/\∃ N:St->Hp->Prop,(∀ σ' H',N σ' H'->∃ m',m'<m/\W (i+1) m' σ' H')/\∀ x H',(Ite K a).yld i H x H'->g x σ H' λσ2 H2=>tb {D with nx:=N,ct:=N,bk:=D.nx} σ2 H2):=by
 refine⟨λi m σ H=>m=xs.length-i/\i<=xs.length/\Pv i σ H,⟨xs.length,by simp,aH _,h0⟩,?_⟩
 rintro i m σ H ⟨rfl,hi,p⟩
 have q:=hl i σ H hi p
 by_cases hlt:i<xs.length
 ·refine .inr ⟨⟨xs,xs[i],q,by simp[hlt]⟩,Pv (i+1),λσ' H' p'=>⟨xs.length-(i+1),by omega,rfl,hlt,p'⟩,λx H' y=>?_⟩
  obtain⟨pa,hp,e,y⟩:=y
  subst e
  have hx:xs[i]? = some xs[i]:=by simp[hlt]
  rw[y xs _ q hx]
  exact hs i _ σ H pa hx p hp
 ·have e:i=xs.length:=by omega
  subst e
  exact .inl ⟨⟨xs,q,ao _⟩,hd σ H p⟩
section
variable {X:Cx}{tg:Expr}
end
section
variable {X:Cx}{e:Expr}{te:TE}{pos p2:Pos}
def DK (K:PySem.W.Frag)(te ts:TE):TE:=λσ H Q=>te σ H λx H1=>ts σ H1 λy H2=>∃ i,y = .int i/\∃ a xs,some i=some (-1:Int)/\x = .ref a/\SqL K H2 a xs/\∀ p,H2 p=none->Q (.ref p) (upd H2 p (.lst xs.reverse))
theorem AV {st:Expr}{ts:TE}(he:PE X e te)(hs:PE X st ts):PE X (.Subscript e (.Slice none none (some st) p2) pos) (DK X.K te ts):=by
 intro pins s σ H Q I h
 refine Subscript_ (thn (he pins s σ H _ I h) λv s1 ⟨x,H1,I1,r1,q1⟩=>?_)
 refine wpAny_Slice ?_
 rw[evalPart_none]
 refine aj (aj (thn (lz hs pins s1 σ H1 (λo H2=>∃ a xs,o=some (-1)/\x = .ref a/\SqL X.K H2 a xs/\∀ p,H2 p=none->Q (.ref p) (upd H2 p (.lst xs.reverse))) I1 q1) λvk s3 ⟨o,H3,I3,pk,q3⟩=>?_))
 ·obtain⟨a,xs,rfl,rfl,hq,q⟩:=q3
  cases r1
  have I4:Inv X pins σ H3 {s3 with heap:=s3.heap.push {cls:=.type "slice",data:=.fields #[.none,.none,vk]}} :=I3.kept (t':=s3.toks) λb ob q=>av _ q
  obtain⟨its,r,ht,hz⟩:=I4.list hq
  have hlen:=r.length
  refine tail_any (ops:=[.ref a,.ref s3.heap.objs.size]) ht.isList.typeIs slot_list_getitem.lookup ?_ (by with_unfolding_all rfl)
  refine wpAny_getItem_list_slice ht.isList (Heap.IsSliceOf.new ..) .none .none pk (by simp) ?_ (by rw[aD]<;>omega)
  rw[PySem.W.krv_pick]
  refine⟨.ref _,_,I4.laid (t':=s3.toks) (o:=.lst xs.reverse) (λb ob q=>av _ q) (ao _) ⟨by rw[b3];exact hz,its.reverse,0,r.reverse,?_⟩,rfl,q _ (I4.hok.fresh (ao _))⟩
  exact bc _ rfl
end
theorem xi {X:Cx} :jC X (.builtin "isinstance") (λxs H Q=>∃ x c t b,xs = [x,.ty c]/\qg X.K H x t/\PySem.W.kitOne X.K t (.type c)=some b/\Q (.bl b) H):=by
 intro pins s σ H xs us Q I r h
 obtain⟨x,c,t,b,rfl,ty,e,q⟩:=h
 obtain⟨u,u2,rfl,ru,rc⟩:=vals2 r
 cases rc
 exact zX I ru ty e λtk=>⟨.bl b,H,I.tok tk,rfl,q⟩
theorem By {K:PySem.W.Frag}{t:Value} :PySem.W.kitOne K t t=some true:=by unfold PySem.W.kitOne;rw[aJ (by simp)]
structure Bl (mg:Str->Option Value):Prop where
 len:mg "len" = none
 range:mg "range" = none
 sorted:mg "sorted" = none
 enumerate:mg "enumerate" = none
 reversed:mg "reversed" = none
 min:mg "min" = none
 max:mg "max" = none
 list:mg "list" = none
 int:mg "int" = none
 isinstance:mg "isinstance" = none
structure Fn (K:PySem.W.Frag)(mg:Str->Option Value)(x:Str)(st:Stmt)(ps:List Str)(f:Addr)(fd:FuncData):Prop where
 F:Fun K x x st f fd
 m:mg x=some (.ref f)
 b:Binds K fd ps []
def below (js:List (Int×Int))(e:Int):List Int:=(js.filter λp=>decide (p.2=e)).map (·.1)
def above (js:List (Int×Int))(e:Int):List Int:=(js.filter λp=>decide (p.1=e)).map (·.2)
def inc (js:List (Int×Int))(e:Int):Nat:=(below js e).length+(above js e).length
def jn (js:List (Int×Int))(e:Int):List Int:=srt (below js e++above js e)
theorem Gh (js:List (Int×Int))(e:Int):srt (above js e++below js e)=jn js e:=zB List.perm_append_comm
structure fC (l:Int×List (Int×Int)):Prop where
 one:1<=l.1
 most:l.1<=40
 len:l.2.length<=80
 inc:∀ e,inc l.2 e<=60
 ends:∀ p∈l.2,0<=p.1/\p.1<=p.2/\p.2<2*l.1
theorem inc_le (js:List (Int×Int))(e:Int):inc js e<=2*js.length:=by
 unfold inc below above
 rw[aa,aa]
 have h1:=bN (λp:Int×Int=>decide (p.2=e)) js
 have h2:=bN (λp:Int×Int=>decide (p.1=e)) js
 omega
def vJ (H:Hp)(ns:List Int)(Q:VK):Prop:=∀ (p:Addr) (H':Hp),eQ H H'->H p=none->H' p=some (.lst (ns.map V.int))->Q (.ref p) H'
theorem eQ.upd {H H':Hp}{l:Addr}{o:HO}(s:eQ H H')(hn:H l=none):eQ H (upd H' l o):=λb u e=>by rw[eN (eM e hn)];exact s b u e
theorem gz {K:PySem.W.Frag}{H:Hp}{ns:List Int}{v:V} :Da K H (dI ns) v↔∃ a,v = .ref a/\SqL K H a (ns.map V.int):=by
 unfold dI
 refine Iff.trans ic ?_
 constructor
 ·rintro⟨a,vs,rfl,h,q⟩
  rw[l0.mp q]at h
  exact⟨a,rfl,h⟩
 ·rintro⟨a,rfl,h⟩
  exact⟨a,_,rfl,h,l0.mpr rfl⟩
theorem gP {K:PySem.W.Frag}{H:Hp}{ns:List Int}{p:Addr}(h:H p=some (.lst (ns.map V.int))):Da K H (dI ns) (.ref p):=gz.mpr ⟨p,rfl,SqL.of h⟩
theorem kA {K:PySem.W.Frag}{H:Hp}{l:Int×List (Int×Int)}{v:V}(h:Da K H (dL l) v):∃ a b,v = .ref a/\SqT K H a [.int l.1,.ref b]/\∃ vs,SqL K H b vs/\Das K H (l.2.map dP) vs:=by
 unfold dL at h
 obtain⟨a,vs,rfl,ht,q⟩:=gB.mp h
 obtain⟨v1,r,rfl,h1,q⟩:=fx.mp q
 obtain⟨v2,r,rfl,h2,q⟩:=fx.mp q
 cases gh.mp q
 cases gw.mp h1
 unfold dJ at h2
 obtain⟨b,us,rfl,hl,q⟩:=ic.mp h2
 exact⟨a,b,rfl,ht,us,hl,q⟩
theorem mZ {K:PySem.W.Frag}{H:Hp}{js:List (Int×Int)}{vs:List V}{i:Nat}{x:V}(h:Das K H (js.map dP) vs)(e:vs[i]? = some x):∃ a p,js[i]? = some p/\x = .ref a/\SqT K H a [.int p.1,.int p.2]:=by
 obtain⟨d,e1,hd⟩:=Dgs.get h e
 rw[ai]at e1
 cases q:js[i]? with
 |none=>rw[q]at e1;cases e1
 |some p=>
  rw[q]at e1
  cases e1
  unfold dP at hd
  obtain⟨a,us,rfl,ht,q⟩:=gB.mp hd
  obtain⟨v1,r,rfl,h1,q⟩:=fx.mp q
  obtain⟨v2,r,rfl,h2,q⟩:=fx.mp q
  cases gh.mp q
  cases gw.mp h1
  cases gw.mp h2
  exact⟨a,p,rfl,rfl,ht⟩
theorem pU (ms:List Int):Cb (ms.map PyData.int):=⟨gC (λ_=>rfl) ms,by have:=fL (f:=PyData.int) (k:=0) (λ_=>by simp[PyData.depth]) ms;omega⟩
theorem uz (ms:List Int)(x:Int):((ms.map PyData.int).any λz=>PyData.eqv z (.int x))=decide (x∈ms):=by
 rw[List.any_map,bx,eA,cw]
 constructor
 ·rintro⟨y,hy,e⟩
  have e':PyData.eqv (.int y) (.int x)=true:=e
  simp only[PyData.eqv,beq_iff_eq]at e'
  rw[<-e'];exact hy
 ·intro h
  exact⟨x,h,by show PyData.eqv (.int x) (.int x)=true;simp[PyData.eqv]⟩
theorem h9 {i:Nat}{x:V}{σ:St}{H:Hp}{te:TE}{P1:VK}{P0:Hp->Prop}(h:te (σ.set i (some x)) H P1):mY i x σ H (λσ2 H2=>AB σ2 H2 λb H3=>if b=true then te σ2 H3 P1 else P0 H3):=nU (A:=te (σ.set i (some x)) H P1) (B:=P0 H) h
theorem iV {α:Type}(xs:List α):(xs.filter λ_=>true)=xs:=by simp
section
variable {X:Cx}{K:PySem.W.Frag}
theorem CG (hK:X.K=K)(hu:X.A.units+64<cLine):OpR X (compareOp .In) (Cv K false):=hK ▸ A6 hu
theorem rO (hK:X.K=K)(hu:X.A.units+64<cLine):OpR X (compareOp .NotIn) (Cv K true):=hK ▸ kE hu
theorem se (hK:X.K=K):IxR X (FN K):=hK ▸ fK
theorem CP (hK:X.K=K):IxR X (FL K):=hK ▸ gZ
end
structure JS (J:It)(n:Nat)(H1:Hp)(it:Nat->V->Prop):Prop where
 go:∀ i H,eQ H1 H->i<n->J.go i H
 yld:∀ i H x H',eQ H1 H->i<n->J.yld i H x H'->H'=H/\it i x
 stop:∀ H,eQ H1 H->J.stop n H
theorem gd {K:PySem.W.Frag}{a:Addr}{xs:List V}{H1:Hp}(hx:SqL K H1 a xs):JS (Itl K a) xs.length H1 (λi x=>xs[i]? = some x):=
 ⟨λi H s hi=>⟨xs,xs[i],s.seq hx,by simp⟩,λi H x H' s hi y=>⟨y.1,y.2 xs (s.seq hx)⟩,λH s=>⟨xs,s.seq hx,ao _⟩⟩
theorem rY {lo:Int}{n:Nat}{H1:Hp} :JS (Itr lo n) n H1 (λi x=>x = .int (lo+i)):=
 ⟨λi H s hi=>hi,λi H x H' s hi y=>y,λH s=>ao _⟩
theorem wB {α:Type}{J:It}{n:Nat}{it:Nat->V->Prop}{l:Addr}{g:TG}{tt:TT}{te:TE}{cap:List (Option Nat)}{σ:St}{Q:VK}{H1:Hp}(S:JS J n H1 it)(ds:List α)(p:α->Bool)(f:α->V)(hn:H1 l=none)(hlen:n=ds.length)(hz:n<sizeLine)
  (hs:∀ (i:Nat) x d H,it i x->ds[i]? = some d->eQ H1 H->∀ (P1:VK) (P0:Hp->Prop),(p d=true->P1 (f d) H)->(p d=false->P0 H)->
   g x (gJ cap σ) H λσ2 H2=>tt σ2 H2 λb H3=>if b=true then te σ2 H3 P1 else P0 H3)
  (hq:Q (.ref l) (upd H1 l (.lst ((ds.filter p).map f)))):LcW J g tt te cap σ Q l H1:=by
 refine⟨λi m acc H=>m=n-i/\i<=n/\acc=((ds.take i).filter p).map f/\H=upd H1 l (.lst acc),⟨n,by simp,aH _,rfl,rfl⟩,?_⟩
 rintro i m acc H ⟨rfl,hi,e1,e2⟩
 have sm:eQ H1 H:=by rw[e2];exact eE hn
 by_cases hlt:i<n
 ·refine .inr ⟨S.go i H sm hlt,λsZ H'=>sZ=((ds.take (i+1)).filter p).map f/\H'=upd H1 l (.lst sZ),λsZ H' ⟨p1,p2⟩=>⟨n-(i+1),by omega,rfl,hlt,p1,p2⟩,λx H' y0=>?_⟩
  obtain⟨e,y⟩:=S.yld i H x H' sm hlt y0
  clear y0
  subst e
  have hd:ds[i]? = some (ds[i]'(by omega)):=by simp
  generalize ds[i]'(by omega)=d at hd
  have step:((ds.take (i+1)).filter p).map f=acc++(if p d=true then[f d]else[]):=by
   rw[take_succ_filter p ds i d hd,ar,e1]
   cases p d<;>rfl
  refine hs i x d H' y hd sm _ _ (λhp=>?_) (λhp=>?_)
  ·refine⟨by rw[e2,eG],?_,?_,?_⟩
   ·have h1:acc.length<=i:=by
     rw[e1,aa]
     exact bj (bN _ _) (by rw[aN];omega)
    omega
   ·rw[step,hp];rfl
   ·rw[e2,oK]
  ·refine⟨?_,e2⟩
   rw[step,hp,aF aA,cY]
 ·have e:i=n:=by omega
  subst e
  refine .inl ⟨S.stop H sm,?_⟩
  rw[hlen,aW]at e1
  rw[e2,e1]
  exact hq
abbrev Mv:=(Str×Int)×List Int
def dMv (m:Mv):PyData:=.tuple [.tuple [.str m.1.1,.int m.1.2],dI m.2]
def fr (l:Int×List (Int×Int))(ns:List Int)(e:Int):List Int:=(jn l.2 e).filter λt=> !decide (t/2∈ns.map (· / 2))
def onM (ns:List Int)(e:Int):Mv:=(("on",e),ns.drop 1 ++ [e])
def sI (ns:List Int)(e:Int):Mv:=(("back",e),oth e::ns.dropLast)
def mvs (l:Int×List (Int×Int))(ns:List Int):List Mv:=(fr l ns (oth (ns.getLastD 0))).map (onM ns)++(fr l ns (ns.headD 0)).map (sI ns)
def Lf (H H2:Hp)(t:Addr):Addr->List V->Prop:=λa us=>H2 a=some (.lst us)/\H a=none/\a≠t
theorem kn {K:PySem.W.Frag}{H:Hp}{t b:Addr}{vs xs:List V}{o:HO}(ht:H t=some (.lst vs))(h:SqT K H b xs):SqT K (upd H t o) b xs:=by
 rcases h with(h |⟨o,h⟩)|h
 ·exact .inl (.inl (by rw[eN (fA h ht (by intro z;cases z))];exact h))
 ·exact .inl (.inr ⟨o,by rw[eN (fA h ht (by intro z;cases z))];exact h⟩)
 ·exact .inr h
theorem Dgs.grow {K:PySem.W.Frag}{H H2 H5:Hp}{t:Addr}{o:HO}{vs:List V}{ds:List PyData}{us:List V}(D:Dgs (Lf H H2 t) (SqT K H2) ds us)(S5:eQ H2 H5)(ht:H5 t=some (.lst vs)):
  Dgs (Lf H (upd H5 t o) t) (SqT K (upd H5 t o)) ds us:=
 Dgs.mono (λa us ⟨h1,h2,h3⟩=>⟨by rw[eN h3];exact S5 _ _ h1,h2,h3⟩) (λa us h=>kn ht (fq S5 h)) D
theorem nL {K:PySem.W.Frag}{H H2 H5:Hp}{t p1 p4 p5:Addr}{vs:List V}{ms:List Mv}{w:Str}{e:Int}{xs:List Int}(S:eQ H H2)(hn:H t=none)(ht:H2 t=some (.lst vs))(D:Dgs (Lf H H2 t) (SqT K H2) (ms.map dMv) vs)
  (S5:eQ H2 H5) (h1:H5 p1=some (.tup [.str w,.int e])) (n4:H2 p4=none) (h4:H5 p4=some (.lst (xs.map V.int))) (h5:H5 p5=some (.tup [.ref p1,.ref p4])):
  eQ H (upd H5 t (.lst (vs ++ [.ref p5])))/\(upd H5 t (.lst (vs ++ [.ref p5]))) t=some (.lst (vs ++ [.ref p5]))/\
   Dgs (Lf H (upd H5 t (.lst (vs ++ [.ref p5]))) t) (SqT K (upd H5 t (.lst (vs ++ [.ref p5])))) ((ms ++ [((w,e),xs)]).map dMv) (vs ++ [.ref p5]):=by
 have ht5:=S5 _ _ ht
 have q4:p4≠t:=(eM ht n4).symm
 refine⟨eQ.upd (S.trans S5) hn,eG,?_⟩
 rw[ar]
 refine Dgs.append (D.grow S5 ht5) (Dgs.one ?_)
 refine gB.mpr ⟨p5,_,rfl,kn ht5 (SqT.of h5),Dgs.two ?_ ?_⟩
 ·exact gB.mpr ⟨p1,_,rfl,kn ht5 (SqT.of h1),Dgs.two (yf.mpr rfl) (gw.mpr rfl)⟩
 ·exact ic.mpr ⟨p4,_,rfl,⟨by rw[eN q4];exact h4,eQ.free S n4,q4⟩,l0.mpr rfl⟩
def Cd (K:PySem.W.Frag)(H:Hp)(ms:List Mv)(Q:VK):Prop:=∀ (p:Addr) (vs:List V) (H':Hp),eQ H H'->H p=none->H' p=some (.lst vs)->Dgs (Lf H H' p) (SqT K H') (ms.map dMv) vs->Q (.ref p) H'
theorem o9 (ns:List Int):pf (ns.map V.int) (some 1) none=(ns.drop 1).map V.int:=by
 unfold pf
 rw[HT.vX]
 have e:HT.sIx (ns.map V.int).length 0 (some 1)=min 1 (ns.map V.int).length:=HT.Cs _ _ 1
 rw[e,aa,dB]
 cases ns with
 |nil=>rfl
 |cons a r=>
  have e1:min 1 (a::r).length=1:=by simp
  rw[e1]
  simp
  exact cx (by simp)
theorem sD (ns:List Int):pf (ns.map V.int) none (some (-1))=ns.dropLast.map V.int:=by
 unfold pf
 have e:HT.sIx (ns.map V.int).length (ns.map V.int).length (some (-1))=ns.length-1:=by
  have h:=HT.C7 (-1) (ns.map V.int).length (ns.map V.int).length
  rw[aa]at h ⊢
  rw[aJ (by decide)]at h
  omega
 rw[e,HT.vX,List.drop_zero,Nat.sub_zero,<-List.map_take,List.dropLast_eq_take]
theorem vG {ns:List Int}(h:ns≠ []):atI (ns.map V.int) (-1)=some (V.int (ns.getLastD 0)):=by
 obtain⟨r,x,rfl⟩:∃ r x,ns=r ++ [x]:=⟨ns.dropLast,ns.getLast h,(List.dropLast_concat_getLast h).symm⟩
 rw[ar]
 show atI (r.map V.int ++ [V.int x]) (-1)=_
 rw[B4]
 have e:(r ++ [x]).getLastD 0=x:=by simp[d6]
 rw[e]
theorem xn {ns:List Int}(h:ns≠ []):atI (ns.map V.int) 0=some (V.int (ns.headD 0)):=by
 cases ns with
 |nil=>exact absurd rfl h
 |cons a r=>exact nS (j:=0) rfl
abbrev NoL:Addr->List V->Prop:=λ_ _=>False
abbrev Ps (K:PySem.W.Frag)(H:Hp)(js:List (Int×Int))(vs:List V):Prop:=Dgs NoL (SqT K H) (js.map dP) vs
theorem Ps.same {K:PySem.W.Frag}{H H':Hp}{js:List (Int×Int)}{vs:List V}(D:Ps K H js vs)(S:eQ H H'):Ps K H' js vs:=Dgs.mono (λ_ _ h=>h) (λ_ _ h=>fq S h) D
theorem Ps.Fe {K:PySem.W.Frag}{H:Hp}{js:List (Int×Int)}{vs us:List V}{t:Addr}{o:HO}(D:Ps K H js vs)(ht:H t=some (.lst us)):Ps K (upd H t o) js vs:=Dgs.mono (λ_ _ h=>h) (λ_ _ h=>kn ht h) D
theorem Ps.das {K:PySem.W.Frag}{H:Hp}{js:List (Int×Int)}{vs:List V}(D:Ps K H js vs):Das K H (js.map dP) vs:=Dgs.mono (λ_ _ h=>h.elim) (λ_ _ h=>h) D
theorem Ps.da {K:PySem.W.Frag}{H:Hp}{js:List (Int×Int)}{vs:List V}{t:Addr}(D:Ps K H js vs)(ht:H t=some (.lst vs)):Da K H (dJ js) (.ref t):=ic.mpr ⟨t,vs,rfl,SqL.of ht,D.das⟩
theorem Ps.len {K:PySem.W.Frag}{H:Hp}{js:List (Int×Int)}{vs:List V}(D:Ps K H js vs):vs.length=js.length:=by rw[D.length,aa]
theorem yG {K:PySem.W.Frag}{H:Hp}{p:Addr}{x:Int×Int}(h:H p=some (.tup [.int x.1,.int x.2])):Dg NoL (SqT K H) (dP x) (.ref p):=gB.mpr ⟨p,_,rfl,SqT.of h,Dgs.two (gw.mpr rfl) (gw.mpr rfl)⟩
theorem Ps.push {K:PySem.W.Frag}{H:Hp}{js:List (Int×Int)}{vs:List V}{t p:Addr}{x:Int×Int}{o:HO}(D:Ps K H js vs)(ht:H t=some (.lst vs))(hp:H p=some (.tup [.int x.1,.int x.2])):Ps K (upd H t o) (js ++ [x]) (vs ++ [.ref p]):=by
 show Dgs _ _ ((js ++ [x]).map dP) _
 rw[ar]
 exact(D.Fe ht).append (.one (Dg.mono (λ_ _ h=>h) (λ_ _ h=>kn ht h) (yG hp)))
theorem Ps.ins {K:PySem.W.Frag}{H:Hp}{js:List (Int×Int)}{vs:List V}{t p:Addr}{x:Int×Int}{o:HO}(i:Nat)(D:Ps K H js vs)(ht:H t=some (.lst vs))(hp:H p=some (.tup [.int x.1,.int x.2])):Ps K (upd H t o) (js.take i++x::js.drop i) (vs.take i ++ .ref p::vs.drop i):=by
 show Dgs _ _ ((js.take i++x::js.drop i).map dP) _
 rw[ar,aR,List.map_take,dB]
 exact Dgs.insert i (D.Fe ht) (Dg.mono (λ_ _ h=>h) (λ_ _ h=>kn ht h) (yG hp))
theorem um {K:PySem.W.Frag}{H:Hp}{l:Int×List (Int×Int)}{p t:Addr}(h:H p=some (.tup [.int l.1,.ref t]))(hd:Da K H (dJ l.2) (.ref t)):Da K H (dL l) (.ref p):=gB.mpr ⟨p,_,rfl,SqT.of h,Dgs.two (gw.mpr rfl) hd⟩
theorem v9 {α:Type}(l:List α)(i:Nat)(x:α):(l.take i++x::l.drop i).Perm (x::l):=by
 have h:=List.perm_middle (a:=x) (l₁:=l.take i) (l₂:=l.drop i)
 rw[cD]at h
 exact h
theorem xQ (i j:Int):(if j<i then j else i)=min i j:=by omega
theorem xR (i j:Int):(if j>i then j else i)=max i j:=by omega
theorem vH {ns:List Int}{i:Int}(h0:0<=i)(h1:i<ns.length):∃ x,ns[i.toNat]? = some x/\x∈ns/\atI (ns.map V.int) i=some (V.int x):=by
 have hlt:i.toNat<ns.length:=by omega
 refine⟨ns[i.toNat],by simp,dA _,?_⟩
 have h:=nS (xs:=ns.map V.int) (j:=i.toNat) (v:=V.int ns[i.toNat]) (by rw[ai];simp)
 have e1:((i.toNat:Nat):Int)=i:=by omega
 rw[e1]at h
 exact h
end TL
namespace L2
open PySem PySem.Spec PySem.Calls PyProof.Rows PySem.W
section
variable {prog:Program}{w:World}{A:Around}{E:Value->Shared->Prop}{s:Shared}{K:Frag}{a C:Addr}{o:Obj}
theorem xty {M:Model}{h:Heap}(hx:h.get? a=some o)(hc:o.cls = .ref C):Looks M h (typeOf (.ref a)) (.ref C):=hc ▸ (Looks.ld hx).andThen .now
structure ExC (K:Frag)(C:Addr):Prop where
 obj:mroIn K C (.type "object")=some true
 bex:mroIn K C (.type "BaseException")=some true
 cls:findIn K (.ref C) "__class__" = some (some (.builtin "object.__class__"))
 ga:findIn K (.ref C) "__getattribute__" = some (some (.builtin "BaseException.__getattribute__"))
 gn:findIn K (.ref C) "__getattr__" = some none
 isc:(clsIn K C).isSome=true
def XAt (a:Addr)(C:Addr)(h:Heap):Prop:=∃ o,h.get? a=some o/\o.cls = .ref C
end
section
variable {P:Program}{w:World}{H H1:Hp}{h:Heap}{a:Addr}{o:HO}
theorem gD.some (x:gD P w H h a o):∃ u,h.get? a=Option.some u:=by
 cases o with
 |lst xs=>obtain⟨_,_,_,_,e⟩:=x;exact⟨_,e⟩
 |tup xs=>obtain⟨_,_,_,p⟩:=x;obtain⟨u,e,_⟩:=p;exact⟨u,e⟩
 |dK kvs=>obtain⟨_,_,_,_,o,_,_,e,_⟩:=x;exact⟨_,e⟩
 |dT kvs=>obtain⟨_,_,_,_,o,_,_,e,_⟩:=x;exact⟨_,e⟩
 |set S n=>obtain⟨o,_,_,_,e,_⟩:=x;exact⟨_,e⟩
 |ins C dx fs=>obtain⟨_,_,_,e,_⟩:=x;exact⟨_,e⟩
 |own y=>obtain⟨_,e⟩:=x;exact⟨_,e⟩
 |xd fs=>obtain⟨_,⟨_,_,_,e,_⟩,_⟩:=x;exact⟨_,e⟩
 |rng lo hi=>obtain⟨_,_,_,e⟩:=x;exact⟨_,e⟩
 |frz ob u=>obtain⟨e,_⟩:=x;exact⟨_,e⟩
 |tbl ps=>exact⟨_,(show h.get? a=Option.some _ from x)⟩
 |met f y=>exact⟨_,(show h.get? a=Option.some _ from x)⟩
 |ext φ=>obtain⟨_,⟨_,e⟩,_⟩:=x;exact⟨_,e⟩
theorem HOk.none_of (x:HOk P w H h)(e:h.get? a=Option.none):H a=Option.none:=by
 cases q:H a with
 |none=>rfl
 |some u=>obtain⟨v,z⟩:=(x a u q).some;rw[e]at z;cases z
end
structure Fl0 (P:Program)(w:World)(base:Heap)(l:List Env)(H H1:Hp)(h0 B h:Heap):Prop where
 bas:base.StaysIn B
 hok:HOk P w H1 B
 kp:∀ b o,h0.get? b=some o->H b=none->b∉frs l->B.get? b=some o
 thr:∀ b o,h0.get? b=some o->b∉frs l->∃ o',B.get? b=some o'
 un:Un (frs l) [] H H1 h0 h
theorem Fl0.step {P:Program}{w:World}{base:Heap}{l:List Env}{H H1:Hp}{h0 B h h':Heap}(x:Fl0 P w base l H H1 h0 B h)(st:B.StaysIn h')(ff:h.FunFrames B l)(ff':h'.FunFrames B l)(sm:h.UpToSlots h'):
  Fl0 P w base l H H1 h0 B h':=by
 refine⟨x.bas,x.hok,x.kp,x.thr,⟨λb o q n hb _=>st b o (x.kp b o q n hb),λb o q n hb _=>?_,x.un.free,λb o q _=>?_,x.un.jF,x.un.nV,x.un.oM⟩⟩
 ·obtain⟨sl,e⟩:=x.un.slot b o q n hb (by simp)
  obtain⟨_,o2,e2,nf⟩:=ff.mem hb
  rw[e]at e2;cases e2
  obtain⟨sl',e'⟩:=sm b _ e nf
  exact⟨sl',e'⟩
 ·by_cases hb:b∈frs l
  ·obtain⟨_,o2,e2,_⟩:=ff'.mem hb
   exact⟨o2,e2⟩
  ·obtain⟨o',e⟩:=x.thr b o q hb
   exact⟨o',st b o' e⟩
structure Fl (P:Program)(w:World)(base:Heap)(l:List Env)(H H1:Hp)(h0:Heap)(e C:Addr)(B h:Heap):Prop extends Fl0 P w base l H H1 h0 B h where
 fly:∃ a0,Heap.FlyingW B l e (.ref C) a0 h
def CXr (P:Program)(w:World)(base:Heap):CXT:=λl H s E ev s'=>
 ∃ e C H1 B,ev = .ref e/\s'.os=s.os/\AllBare s'.gens/\Fl P w base l H H1 s.heap e C B s'.heap/\E (.ref C) (some e) H1
section
variable {X:Cx}{pins:List (Addr×Obj)}{σ:St}{H H1:Hp}{s s':Shared}{e C:Addr}{B:Heap}
theorem Fl.inv (x:Fl X.prog X.w X.base X.stack H H1 s.heap e C B s'.heap)(I:Inv X pins σ H s)(ho:s'.os=s.os)(hg:AllBare s'.gens):Inv X pins σ H1 s':=by
 obtain⟨a0,f⟩:=x.fly
 exact I.DD (ch:=[]) ho x.un (x.hok.kept f.1) hg (λb z=>absurd z (by simp))
theorem AO {M:Model}{E:Value->Shared->Prop}{Q:Unit->Shared->Prop}{h':Heap}{vs:List Value}(I:Inv X pins σ H s)(hst:X.stack=X.env::X.outer)(hf:X.env.frame=some X.env.locals)(hex:X.ex = [])
  (hx:Heap.MadeExcOf s.heap h' e (.ref C) vs) (hQ:∀ B h'',Fl X.prog X.w X.base X.outer X.H₀ H X.s₀.heap e C B h''->Q () {s with heap:=h''}):
  wpAny M X.A (leaving X.env (.ref e)) Q E {s with heap:=h'} :=by
 have hfr:=I.ok.frames
 rw[hst]at hfr
 have CV:=I.stack
 rw[hst]at CV
 have hin:∀ env∈(X.env::X.outer),∀ b,env.frame=some b->b∈frs (X.env::X.outer):=λenv he b hb=>dS.mpr ⟨env,he,hb⟩
 have nb:∀ b,b≠X.env.locals->b∉X.fs->b∉frs (X.env::X.outer):=λb h1 h2 hb=>by
  unfold frs at hb
  rw[cU,hf]at hb
  rcases aG.mp hb with z |z
  ·exact h1 z
  ·exact h2 z
 have neL:∀ b o,X.s₀.heap.get? b=some o->b≠X.env.locals:=λb o e=>aI (aU (ay e) I.ok.above)
 refine wpAny_leaves_madeW (base:=hideAll s.heap (frs (X.env::X.outer))) hfr hf (λb o q=>of_hideAll _ q) (funFrames_hide CV hin) hx λh'' t x1 x2 x3 x4=>?_
 have hok:HOk X.prog X.w H (hideAll s.heap (frs (X.env::X.outer))):=λb u q=>by
  refine(I.hok b u q).ot (λc v hc z=>hideAll_get _ z λhm=>?_) (λ_ z=>z) λ_ _ z=>z
  have hn:H c=none:=I.uC c (by rw[hst];exact hm)
  rcases hc with rfl |hc
  ·rw[hn]at q;cases q
  ·rw[hn]at hc;cases hc
 have z0:Fl0 X.prog X.w X.base X.outer X.H₀ H X.s₀.heap (hideAll s.heap (frs (X.env::X.outer))) h':=by
  have ub:Un X.fs [] X.H₀ H X.s₀.heap s.heap:=by have:=I.base;rw[hex]at this;exact this
  refine⟨λb o q=>hideAll_get _ (I.bk b o q) λhm=>?_,hok,λb o q n hb=>hideAll_get _ (ub.keep b o q n hb (by simp)) (nb b (neL b o q) hb),λb o q hb=>?_,ub.trans (Un.kept hx.keeps)⟩
  ·have:=(CV.mem hm).1
   rw[q]at this;cases this
  ·obtain⟨o',e1⟩:=ub.there b o q (by simp)
   exact⟨o',hideAll_get _ e1 (nb b (neL b o q) hb)⟩
 have ff:h'.FunFrames (hideAll s.heap (frs (X.env::X.outer))) X.outer:=by
  obtain⟨_,_,z⟩:=(funFrames_hide CV hin).of_keeps λb o hb _=>⟨o,hx.keeps b o hb,rfl⟩
  exact z
 exact hQ _ h'' ⟨z0.step x1.1 ff x1.2.2.1 x4,_,x1⟩
theorem CF {M:Model}{E:Value->Shared->Prop}{Q:Unit->Shared->Prop}(I:Inv X pins σ H s)(hst:X.stack=X.env::X.outer)(hf:X.env.frame=some X.env.locals)(hex:X.ex = [])
  (ho:s'.os=s.os) (hg:AllBare s'.gens) (x:Fl X.prog X.w X.base X.stack H H1 s.heap e C B s'.heap) (hQ:∀ B h'',Fl X.prog X.w X.base X.outer X.H₀ H1 X.s₀.heap e C B h''->Q () {s' with heap:=h''}):
  wpAny M X.A (leaving X.env (.ref e)) Q E s':=by
 have J:=x.inv I ho hg
 have hfr:=I.ok.frames
 obtain⟨a0,f⟩:=x.fly
 have nb:∀ b,b≠X.env.locals->b∉X.fs->b∉frs X.stack:=λb h1 h2 hb=>(aG.mp (I.lJ b hb)).elim h1 h2
 have neL:∀ b o,X.s₀.heap.get? b=some o->b≠X.env.locals:=λb o e=>aI (aU (ay e) I.ok.above)
 rw[hst]at hfr f
 have ub:Un X.fs [] X.H₀ H X.s₀.heap s.heap:=by have:=I.base;rw[hex]at this;exact this
 have uj:Un X.fs [] X.H₀ H1 X.s₀.heap s'.heap:=by have:=J.base;rw[hex]at this;exact this
 have z0:Fl0 X.prog X.w X.base X.outer X.H₀ H1 X.s₀.heap B s'.heap:=by
  refine⟨x.bas,x.hok,λb o q n hb=>x.kp b o (ub.keep b o q n hb (by simp)) (ub.free b o q n (by simp)) (nb b (neL b o q) hb),λb o q hb=>?_,uj⟩
  obtain⟨o',e1⟩:=ub.there b o q (by simp)
  exact x.thr b o' e1 (nb b (neL b o q) hb)
 have ff:s'.heap.FunFrames B X.outer:=f.2.2.1.2.2
 exact wpAny_leaves_onW hfr hf f λh'' x1 x2=>hQ B h'' ⟨z0.step x1.1 ff x1.2.2.1 x2,a0,x1⟩
end
section
variable {P:Program}{w:World}{K:PySem.W.Frag}{mg:Str->Option Value}{base:Heap}{N:List Str}{qual:Str}{scope:Scope}{f:Addr}{cd:Value}{A:Around}{outer:List Env}{s₀:Shared}{H₀:Hp}{E:XK}
def Raises (X:Cx)(E:XK):Prop:=∀ (pins:List (Addr×Obj)) (σ:St) (H:Hp) (s:Shared) (h':Heap) (e C:Addr) (vs:List Value),Inv X pins σ H s->Heap.MadeExcOf s.heap h' e (.ref C) vs->E (.ref C) (some e) H->X.xe (.ref e) {s with heap:=h'}
theorem kC:Raises (vC (CXr P w base) P w K mg base N qual scope f cd A outer s₀ H₀ E) E:=λpins σ H s h' e C vs I hx q=>
 AO I rfl rfl rfl hx λB h'' z=>⟨e,C,H,B,rfl,I.os,I.bare,z,q⟩
theorem pQ:Passes (CXr P w base) (vC (CXr P w base) P w K mg base N qual scope f cd A outer s₀ H₀ E) E:=λpins σ H s e s' I hx=>by
 obtain⟨a,C,H1,B,rfl,ho,hg,z,q⟩:=hx
 exact CF I rfl rfl rfl ho hg z λB' h'' z'=>⟨a,C,H1,B',rfl,ho.trans I.os,hg,z',q⟩
end
theorem C0 {K:Frag}{h:Heap}{C:Addr}{bmB:List Value}{newId:String}(X:K.In h)(q:excIn K C bmB newId=true):
  ∃ bm N nm qn bs hdct sn sub ab col dd k0 k1 k2 k3 k5 mN,h.get? C=some (excClassObj nm qn C N bs bm hdct sn sub ab col dd k0 k1 k2 k3 k5 newId)/\h.Ns N mN/\mN "__init__" = none/\OwnTail h bmB bm:=by
 unfold excIn at q
 split at q
 ·rename_i d1 c1 l1 lk
  split at q
  ·rename_i D1 tl j0 j1 j2 j3 nn j5 e1 e2
   simp only[eC,beq_iff_eq,Bool.not_eq_true']at q
   obtain⟨⟨⟨⟨⟨q1,q2⟩,q3⟩,q4⟩,q5⟩,q6⟩:=q
   subst q1 q2
   cases c1
   dsimp only at e1 q3 q5 q6
   subst e1 q3
   cases l1
   dsimp only at e2
   subst e2
   exact⟨tl,_,_,_,_,_,_,_,_,_,d1,j0,j1,j2,j3,j5,_,X _ _ lk,.of_isNs (isNs_of_in X q5),nsMap_none_of_in X q5 q6,tail_of_in X q4⟩
  ·cases q
 ·cases q
section
variable {X:Cx}{E:XK}{x:Str}{np i8 pos:Pos}{C:Addr}{bmB:List Value}{Bn newId EB:String}{e₀:Expr}{rest:List Expr}{ta:TA}
def DL (C:Addr)(E:XK)(ta:TA):TS:=λ_ σ H=>ta σ H λvs H1=>vs.length<=sizeLine/\∀ e,H1 e=none->E (.ref C) (some e) H1
theorem lU (hR:Raises X E)(hc:X.calm=true)(hg:Gl X x)(hm:X.mg x=some (.ref C))(q:excIn X.K C bmB newId=true)(FB:ExcBaseFacts Bn newId EB bmB)(ha:PA X (e₀::rest) ta)
  (he:starEach (e₀::rest) X.env=(false,eval e₀ X.env)::starEach rest X.env:=by rfl) (hpl:(backTo i8 (starEach rest X.env)).any (·.1)=false:=by rfl) (hd:(x==("__debug__" :Str))=false:=by decide):
  PS X (.Raise (some (.Call (.Name x np) (e₀::rest) [] i8)) none pos) (DL C E ta):=by
 intro pins s σ H D I h
 obtain⟨tl,N,nm,qn,bs,hdct,sn,sub,ab,col,dd,k0,k1,k2,k3,k5,mN,hC,hN,hni,T⟩:=C0 I.mod.kin q
 refine wpAny_Raise_call_subT (C:=C) (nm:=nm) (q:=qn) (N:=N) (bs:=bs) (bm:=tl) (hdct:=hdct) (sn:=sn) (sub:=sub) (ab:=ab) (col:=col) (dd:=dd) (k0:=k0) (k1:=k1) (k2:=k2) (k3:=k3) (k5:=k5)
  FB (mN:=mN) (T.hasType FB.hasBase) (I.ok.hd hc) (by rw[he];show(false||(backTo i8 (starEach rest X.env)).any (·.1))=false;rw[hpl];rfl) hni (nO I hg hm ⟨rfl,?_⟩ hd)
 have h2:=ha i8 pins s σ H _ I h
 rw[he]at h2 ⊢
 exact dU (aZ h2 (λus s1 ⟨vs,H1,I1,r,z1,z2⟩=>⟨rfl,r.length ▸ z1,I1.bk _ _ hC,hN.keeps I1.bk,T.keeps I1.bk,λh' e hx=>hR pins σ H1 s1 h' e C us I1 hx (z2 e (I1.hok.none_of hx.new))⟩) λ_ _ y=>y)
end
def Ai (e C:Addr):HO:=.ext (XAt e C)
theorem C1 {P:Program}{w:World}{H:Hp}{h:Heap}{e C:Addr}{o:Obj}(ho:h.get? e=some o)(hc:o.cls = .ref C):gD P w H h e (Ai e C):=
 ⟨⟨o,ho,hc⟩,⟨o,ho⟩,λh1 h2 ⟨o',e1,e2⟩ k=>⟨o',k o' e1,e2⟩⟩
section
variable {X:Cx}{pins:List (Addr×Obj)}{σ:St}{H H1:Hp}{s s':Shared}{e C:Addr}{B:Heap}
theorem Inv.Fg {u:HO}(I:Inv X pins σ H s)(hn:H e=none)(h0:X.s₀.heap.get? e=none)(ho:gD X.prog X.w (upd H e u) s.heap e u)(nl:e≠X.env.locals)(nc:∀ x c,X.env.cells.lookup x=some c->c≠e)
  (np:∀ p∈X.pn++pins,p.1≠e):Inv X pins σ (upd H e u) s:=by
 have ne0:∀ b o,X.s₀.heap.get? b=some o->b≠e:=λb o q z=>by rw[z,h0]at q;cases q
 have neT:∀ b v,H b=some v->b≠e:=λb v q z=>by rw[z,hn]at q;cases q
 refine⟨I.ok,I.os,I.bare,⟨I.base.keep,I.base.slot,λb o q n hx=>?_,I.base.there,λb xs q=>?_,λb o v q=>?_,λb ps q=>?_⟩,I.loc,I.cell,?_,λx c q=>?_,λp hp=>?_,λb v q=>?_,I.len⟩
 ·rw[eN (ne0 b o q)];exact I.base.free b o q n hx
 ·have z:=I.base.jF b xs q;rw[eN (neT _ _ z)];exact z
 ·have z:=I.base.nV b o v q;rw[eN (neT _ _ z)];exact z
 ·obtain⟨m,z⟩:=I.base.oM b ps q;exact⟨m,by rw[eN (neT _ _ z)];exact z⟩
 ·rw[eN (bK nl)];exact I.free
 ·rw[eN (nc x c q)];exact I.jE x c q
 ·obtain⟨z1,z2,z3⟩:=I.pin p hp
  exact⟨z1,by rw[eN (np p hp)];exact z2,z3⟩
 ·by_cases hb:b=e
  ·subst hb;rw[eG]at q;cases q;exact ho
  ·rw[eN hb]at q
   exact(I.hok b v q).ot (λ_ _ _ z=>z) (λc z=>by rw[eN (neT _ _ z)];exact z) λc xs z=>by rw[eN (neT _ _ z)];exact z
theorem Fl.kept (x:Fl X.prog X.w X.base X.stack H H1 s.heap e C B s'.heap)(I:Inv X pins σ H s)(hex:X.ex = [])(ho:s'.os=s.os)(hg:AllBare s'.gens):Inv X pins σ (upd H1 e (Ai e C)) s':=by
 have J:=x.inv I ho hg
 obtain⟨a0,f⟩:=x.fly
 obtain⟨oe,vs,he,hc,hd,_⟩:=f.first
 have nB:B.get? e=none:=f.2.1
 have nfr:e∉frs X.stack:=λhm=>by
  obtain⟨_,o,z,nf⟩:=f.2.2.1.mem hm
  rw[he]at z;cases z;exact nf vs hd
 refine J.Fg (x.hok.none_of nB) ?_ (C1 he hc) ?_ (λy c q z=>?_) λp hp z=>?_
 ·cases q:X.s₀.heap.get? e with
  |none=>rfl
  |some o=>
   obtain⟨o',z⟩:=I.base.there e o q (by rw[hex];simp)
   obtain⟨o2,z2⟩:=x.thr e o' z nfr
   rw[nB]at z2;cases z2
 ·rintro rfl
  obtain⟨m,⟨o,es,ep,z,hd',_⟩,_⟩:=J.loc
  rw[he]at z;cases z;rw[hd]at hd';cases hd'
 ·subst z
  obtain⟨v,o,z,hd'⟩:=J.cell y _ q
  rw[he]at z;cases z;rw[hd]at hd';cases hd'
 ·obtain⟨z1,z2,z3,z4,_⟩:=I.pin p hp
  have z5:=x.kp p.1 p.2 z1 z2 λhm=>(aG.mp (I.lJ _ hm)).elim z3 z4
  rw[z,nB]at z5;cases z5
abbrev Cx.oA (X:Cx)(e:Addr):Cx:={X with A:=X.A.mark (some (.ref e)),calm:=false,xe:=λ_ _=>False}
theorem Inv.oA (I:Inv X pins σ H s)(e:Addr):Inv (X.oA e) pins σ H s:=
 ⟨⟨I.ok.mod,I.ok.kind,I.ok.glob,I.ok.blt,I.ok.above,I.ok.inj,I.ok.has,I.ok.cab,(λz=>nomatch z),I.ok.frames,I.ok.stk,I.ok.exf,I.ok.bs,I.ok.bsz,I.ok.xN,I.ok.Ah,I.ok.p6,I.ok.frf⟩,I.os,I.bare,I.base,I.loc,I.cell,I.free,I.jE,I.pin,I.hok,I.len⟩
theorem Inv.uncaught (I:Inv (X.oA e) pins σ H s)(ok:X.Ok):Inv X pins σ H s:=⟨ok,I.os,I.bare,I.base,I.loc,I.cell,I.free,I.jE,I.pin,I.hok,I.len⟩
end
theorem DF {M:Model}{A:Around}{E:Value->Shared->Prop}{K:Frag}{s:Shared}{e C D:Addr}{oe:Obj}{Q:Bool->Shared->Prop}(X:K.In s.heap)(he:s.heap.get? e=some oe)(hc:oe.cls = .ref C)
  (hty:typeIn K (.ref D)=some (.type "type")) (EN:(clsIn K D).isSome=true) (hb:mroIn K D (.type "BaseException")=some true) (hm:mroIn K C (.ref D)=some true) (hq:Q true s):
  wpAny M A (excMatches (.ref e) (.ref D)) Q E s:=by
 obtain⟨h,g,d,t,os⟩:=s
 have L0:=xty (M:=M) he hc
 have L1:=looks_mroIn (M:=M) X hb
 have L2:=looks_mroIn (M:=M) X hm
 have L3:=looks_typeIn (M:=M) X hty
 have f:=tc_notTuple
 unfold clsIn at EN
 split at EN
 ·rename_i c' d' cd' sl' ho
  have hD:=X _ _ ho
  unfold excMatches
  repeat (first |with_reducible refine L0.at ?_ |with_reducible refine L3.at ?_ |with_reducible refine L1.at ?_ |with_reducible refine L2.at ?_ |with_reducible refine wpAny_loadPart_at hD ?_ |wp_step)
  exact hq
 ·cases EN
def zm (CX:CXT)(X:Cx)(E:St->XK):Prop:=∀ (pins:List (Addr×Obj)) (σ:St) (H:Hp) (s:Shared) (e:Value) (s':Shared),Inv X pins σ H s->CX X.stack H s (E σ) e s'->X.xe e s'
def DS (sp:Sp)(dvs:List V)(E:St->XK)(t:TA):TE:=λσ H Q=>t σ H λvs H1=>sp (vs++dvs) H1 Q (E σ)
section
variable {X:Cx}{CX:CXT}{k:Nat}{f:Addr}{fd:FuncData}{ps:List Str}{sp:Sp}{dvs:List V}{ds:List Value}{E:St->XK}{x:Str}{p pos:Pos}{e:Expr}{es:List Expr}{t:TA}
theorem A4 (F:fh X.prog X.w X.K X.mg X.base CX k f fd ps sp)(hr:lx k X.A)(hg:Gl X x)(hm:X.mg x=some (.ref f))(hk:PySem.W.keepIn X.K (.ref f)=true)(hb:Binds X.K fd ps ds)(hd:Vals dvs ds)(hx:zm CX X E)
  (ha:PA X (e::es) t) (hdb:(x==("__debug__" :Str))=false:=by decide) (he:starEach (e::es) X.env=(false,eval e X.env)::starEach es X.env:=by rfl) (hpl:(backTo pos (starEach es X.env)).any (·.1)=false:=by rfl):
  PE X (.Call (.Name x p) (e::es) [] pos) (DS sp dvs E t):=by
 intro pins s σ H Q I h
 refine eo (nO I hg hm ?_ hdb)
 refine PySem.W.callWith_K (h₀:=X.base) I.ok.mod.kin hk (thn (ha pos pins s σ H _ I h) λus s1 ⟨vs,H1,I1,r,q⟩=>⟨I1.kIn,?_⟩) he hpl
 have r2:Vals (vs++dvs) (us++ds):=r.append hd
 have hl:(us++ds).length=ps.length:=by rw[<-r2.length];exact F.len _ _ _ _ q
 refine wpAny_call (codeAny_mono (F.run X.A X.stack s1 H1 ⟨us,[]⟩ (us++ds) (vs++dvs) Q (E σ) hr I1.Ha (hb s1 us I1.kIn hl) r2 q) λr s' hq=>?_)
 cases r with
 |error e=>exact hx pins σ H1 s1 e s' I1 hq
 |ok fl=>
  cases fl with
  |ret u=>exact I1.after hq
  |next=>exact False.elim hq
  |brk=>exact False.elim hq
  |cont=>exact False.elim hq
end
abbrev Cx.pJ (X:Cx)(pn:List (Addr×Obj))(W:Value->Shared->Prop):Cx:={X with pn:=X.pn++pn,xe:=W}
section
variable {X:Cx}{pins pn:List (Addr×Obj)}{σ:St}{H:Hp}{s:Shared}{W:Value->Shared->Prop}
theorem Inv.pJ (I:Inv X pins σ H s)(W:Value->Shared->Prop):Inv (X.pJ pins W) pins σ H s:=
 ⟨⟨I.ok.mod,I.ok.kind,I.ok.glob,I.ok.blt,I.ok.above,I.ok.inj,I.ok.has,I.ok.cab,I.ok.hd,I.ok.frames,I.ok.stk,I.ok.exf,I.ok.bs,I.ok.bsz,I.ok.xN,I.ok.Ah,I.ok.p6,I.ok.frf⟩,I.os,I.bare,I.base,I.loc,I.cell,I.free,I.jE,
  (λp hp=>I.pin p (by
   rcases aC.mp hp with z |z
   ·exact z
   ·exact aC.mpr (.inr z))),I.hok,I.len⟩
theorem Inv.vM (I:Inv (X.pJ pn W) pins σ H s)(ok:X.Ok):Inv X pn σ H s:=
 ⟨ok,I.os,I.bare,I.base,I.loc,I.cell,I.free,I.jE,(λp hp=>I.pin p (aC.mpr (.inl hp))),I.hok,I.len⟩
end
structure zo (K:Frag)(D C:Addr):Prop where
 ty:typeIn K (.ref D)=some (.type "type")
 isc:(clsIn K D).isSome=true
 bex:mroIn K D (.type "BaseException")=some true
 mro:mroIn K C (.ref D)=some true
abbrev Ends.gone (D:Ends)(j:Nat):Ends:={nx:=λσ H=>D.nx (σ.set j none) H,rt:=D.rt,bk:=λσ H=>D.bk (σ.set j none) H,ct:=λσ H=>D.ct (σ.set j none) H}
section
variable {X:Cx}{body yq:List Stmt}{b₀:Stmt}{x n:Str}{np Aa pos:Pos}{D:Addr}{j:Nat}{tb:(St->XK)->TS}{th:TS}
end
open TL
section
variable {P:Program}{w:World}{K:PySem.W.Frag}{mg:Str->Option Value}{base:Heap}
theorem Fun.okX {x qual:Str}{st:Stmt}{f:Addr}{fd:FuncData}{N ps:List Str}{k:Nat}{sp:Sp}(F:Fun K x qual st f fd)(S:fu N ps (eS st))(len:∀ vs H Q E,sp vs H Q E->vs.length=ps.length)
  (wJ:∀ (cdv:Value) (A:Around) (outer:List Env) (s:Shared) (H:Hp) (vs:List V) (Q:VK) (E:XK),lx k (A.deeper (envOfC qual (eS st) s.heap.objs.size f cdv))->sp vs H Q E->
   ∃ t,PSs (vC (CXr P w base) P w K mg base N qual (eS st) f cdv A outer s H E) (jW st) t/\t {nx:=λ_ H'=>Q .non H',rt:=Q} (start N vs) H):fh P w K mg base (CXr P w base) (k+1) f fd ps sp:=by
 obtain⟨oc,od,kV,doc,pm,an,cdv,ct,osl,rfl,lk,hcd⟩:=F.ex
 exact Dy lk hcd S len λA outer s H vs Q E hr hsp=>wJ cdv A outer s H vs Q E hr hsp
end
abbrev bmV:List Value:=[.type "ValueError",.type "Exception",.type "BaseException",.type "object"]
structure Xc (K:Frag)(mg:Str->Option Value)(x:Str)(C:Addr):Prop where
 m:mg x=some (.ref C)
 q:excIn K C bmV "ValueError.__new__" = true
 e:ExC K C
section
variable {X:Cx}
end
structure xp (K:Frag)(x:Str)(C:Addr):Prop where
 b:nsIn K mainGlobals x=some (some (.ref C))
 q:excIn K C bmV "ValueError.__new__" = true
 o:mroIn K C (.type "object")=some true
 p:mroIn K C (.type "BaseException")=some true
 r:findIn K (.ref C) "__class__" = some (some (.builtin "object.__class__"))
 g:findIn K (.ref C) "__getattribute__" = some (some (.builtin "BaseException.__getattribute__"))
 h:findIn K (.ref C) "__getattr__" = some none
 i:isClsIn K C=true
 t:typeIn K (.ref C)=some (.type "type")
section
variable {K:Frag}{h:Heap}{mg:Str->Option Value}{x:Str}{C D:Addr}
theorem xp.isc (a:xp K x C):(clsIn K C).isSome=true:=by
 have:=a.i
 unfold isClsIn at this
 exact this
theorem xp.ex (a:xp K x C):ExC K C:=⟨a.o,a.p,a.r,a.g,a.h,a.isc⟩
theorem xp.xc (a:xp K x C)(X:K.In h)(G:h.Ns mainGlobals mg):Xc K mg x C:=⟨mg_of X G a.b,a.q,a.ex⟩
variable {c1 c2 c3 c4 c5 c6 c7:Addr}
end
end L2
namespace TL
open PySem PySem.Spec PyProof.Rows L2
structure Bm (mg:Str->Option Value):Prop extends Bl mg where
 zip:mg "zip" = none
 sum:mg "sum" = none
 all:mg "all" = none
 set:mg "set" = none
 tuple:mg "tuple" = none
 abs:mg "abs" = none
 bool:mg "bool" = none
 dict:mg "dict" = none
 str:mg "str" = none
theorem Inv.Ck {X:Cx}{pins:List (Addr×Obj)}{σ:St}{H:Hp}{s:Shared}{h':Heap}{t':Nat}{ch:List Addr}(I:Inv X pins σ H s)(hf:∀ b∈ch,kg X pins H b)
  (keep:∀ b o,b∉ch->s.heap.get? b=some o->h'.get? b=some o):Inv X pins σ H {s with heap:=h',toks:=t'} :=by
 have nch:∀ b u,H b=some u->b∉ch:=λb u q z=>by rw[(hf b z).1]at q;cases q
 refine I.step (g':=s.gens) (d':=s.drawn) (ch:=ch) (λb hb=>?_) (λb o _ _ hc q _=>keep b o hc q) (λb o _ _ hc q _=>⟨o.slots,keep b o hc q⟩) (λ_ _ _ _ n=>n)
  (λb o hc q=>⟨o,keep b o hc q⟩) (λ_ _ e=>e) (λ_ _ _ e=>e) (λb ps e=>⟨#[],by rw[e];simp⟩) (λm hm=>?_) (λb u q=>?_) I.bare
 ·obtain⟨f0,f1,f2,f3,f4,f5⟩:=hf b hb
  exact⟨f3,f1,f4,f5⟩
 ·obtain⟨o,es,ep,ho,r⟩:=hm
  exact⟨o,es,ep,keep _ o (λz=>(hf _ z).2.1 rfl) ho,r⟩
 ·refine(I.hok b u q).ot (λc v hc q'=>keep c v ?_ q') (λc z=>z) λc ys z=>z
  rcases hc with z |z
  ·rw[z];exact nch b u q
  ·exact nch c _ z
def Itz (K:PySem.W.Frag)(a b:Addr):It:=
 ⟨λi H=>∃ xs ys x y,SqL K H a xs/\SqL K H b ys/\xs[i]? = some x/\ys[i]? = some y,
  λi H v H'=>∃ p,H p=none/\v = .ref p/\∀ xs ys x y,SqL K H a xs->SqL K H b ys->xs[i]? = some x->ys[i]? = some y->H'=upd H p (.tup [x,y]),
  λi H=>∃ xs ys,SqL K H a xs/\SqL K H b ys/\(xs.length<=i\/ys.length<=i)⟩
theorem AA {P:Program}{w:World}{K:PySem.W.Frag}{es:List Expr}{x1:Nat}{pt:Pos}{a b z TI TO i1 i2:Addr}(D:ZipApart z TI TO i1 i2 a b):
  Turn P w K (.Tuple es x1 pt) (Itz K a b) [z,TI,TO,i1,i2] z (λi h=>IsZip h z TI TO .none/\IsPair h TI (.ref i1) (.ref i2)/\(∃ u v,IsPair h TO u v)/\h.IsListIter i1 a i/\h.IsListIter i2 b i) where
 mem:=by simp
 obj:=λi h st c hc=>by
  obtain⟨hz,h1,⟨u,v,h2⟩,h3,h4⟩:=st
  obtain⟨o3,q3,_,d3⟩:=h3
  obtain⟨o4,q4,_,d4⟩:=h4
  simp only[aG,List.not_mem_nil,or_false]at hc
  rcases hc with rfl |rfl |rfl |rfl |rfl
  ·exact⟨_,hz,λv z=>by cases z⟩
  ·exact⟨_,h1,λv z=>by cases z⟩
  ·exact⟨_,h2,λv z=>by cases z⟩
  ·exact⟨_,q3,λv z=>by rw[d3]at z;cases z⟩
  ·exact⟨_,q4,λv z=>by rw[d4]at z;cases z⟩
 keep:=λi h h' ⟨hz,h1,⟨u,v,h2⟩,h3,h4⟩ k=>⟨k z (by simp) _ hz,k TI (by simp) _ h1,⟨u,v,k TO (by simp) _ h2⟩,h3.at λo q=>k i1 (by simp) o q,h4.at λo q=>k i2 (by simp) o q⟩
 item:=by
  intro X hP hw hK hc i pins s σ H E I hf st hg
  subst hP hw hK
  obtain⟨hz,h1,⟨u0,v0,h2⟩,h3,h4⟩:=st
  obtain⟨xs,ys,x,y,hx,hy,ex,ey⟩:=hg
  obtain⟨its,rv,p,hzx⟩:=I.list hx
  obtain⟨jts,rw',p',hzy⟩:=I.list hy
  obtain⟨u,hu,ru⟩:=rv.get ex
  obtain⟨v,hv,rv'⟩:=rw'.get ey
  refine wpAny_pyNext_zip_item D hz h1 h2 h3 h4 p.isList p'.isList (x:=u) (y:=v) (by simpa using hu) (by simpa using hv) λh' a1 a2 a3 a4 a5 a6 hk=>?_
  refine⟨_,rfl,?_⟩
  refine wpAny_letOwnedTupleGo_zip (s:={s with heap:=h'}) a1 λh'' m1 m2=>?_
  have lt:∀ {c o},s.heap.get? c=some o->s.heap.objs.size≠c:=λe=>Nat.ne_of_gt (ay e)
  have keep:∀ b o,b∉ [z,TI,TO,i1,i2]->s.heap.get? b=some o->h''.get? b=some o:=λb o hb q=>m2.extBut b o (λz=>hb (by simp[z])) (hk b o (λz=>hb (by simp[z])) (λz=>hb (by simp[z])) (λz=>hb (by simp[z])) (λz=>hb (by simp[z])) q)
  have ht:h''.get? s.heap.objs.size=some {cls:=.type "tuple",data:=.seq [u,v].toArray} :=m2.extBut _ _ (lt hz) a5
  have J1:Inv X pins σ (upd H s.heap.objs.size (.tup [x,y])) {s with heap:=h'',toks:=s.toks} :=Inv.tw I hf keep (.cons ru (.cons rv' .nil)) (by show 2<=sizeLine;decide) ht
  have hn:H s.heap.objs.size=none:=I.fresh
  refine⟨.ref s.heap.objs.size,_,J1,rfl,⟨_,hn,rfl,λxs' ys' x' y' q1 q2 q3 q4=>?_⟩,⟨m1,?_,⟨_,_,m2.extBut _ _ D.TOz a2⟩,a3.extBut m2.extBut D.i1z,a4.extBut m2.extBut D.i2z⟩,λc hb=>?_⟩
  ·have e1:=I.o5 q1 hx
   have e2:=I.o5 q2 hy
   subst e1 e2
   rw[ex]at q3
   rw[ey]at q4
   cases q3
   cases q4
   rfl
  ·exact m2.extBut _ _ D.TIz (hk _ _ D.TIz D.TITO D.TIi1 D.TIi2 h1)
  ·have q:∃ o,s.heap.get? c=some o:=by
    obtain⟨o3,q3,_,d3⟩:=h3
    obtain⟨o4,q4,_,d4⟩:=h4
    have hb':=hb
    simp only[aG,List.not_mem_nil,or_false]at hb'
    rcases hb' with rfl |rfl |rfl |rfl |rfl
    ·exact⟨_,hz⟩
    ·exact⟨_,h1⟩
    ·exact⟨_,h2⟩
    ·exact⟨_,q3⟩
    ·exact⟨_,q4⟩
   obtain⟨o,q⟩:=q
   rw[eN (aI (ay q))]
   exact(hf c hb).1
 done:=by
  intro X hP hw hK hc i pins s σ H E I hf st hg
  subst hP hw hK
  obtain⟨hz,h1,⟨u0,v0,h2⟩,h3,h4⟩:=st
  obtain⟨xs,ys,hx,hy,e⟩:=hg
  obtain⟨its,rv,p,hzx⟩:=I.list hx
  obtain⟨jts,rw',p',hzy⟩:=I.list hy
  have l1:=rv.length
  have l2:=rw'.length
  refine wpAny_pyNext_zip_end (I.ok.hd hc) D hz h1 h2 h3 h4 p.isList p'.isList ?_ λh' hk=>⟨rfl,Inv.Ck (t':=s.toks) I hf λb o hb q=>hk b o (λz=>hb (by simp[z])) (λz=>hb (by simp[z])) (λz=>hb (by simp[z])) (λz=>hb (by simp[z])) q⟩
  rcases e with e |e
  ·left;simp;omega
  ·right;simp;omega
 self:=λ_ _ _ _ _ ⟨hz,_⟩ h=>wpAny_pyIter_zip hz h
section
variable {X:Cx}
def KJ (K:PySem.W.Frag)(ta:TA):TI:=λσ H R=>ta σ H λvs H1=>∃ a b,vs = [.ref a,.ref b]/\(∃ xs,SqL K H1 a xs)/\(∃ ys,SqL K H1 b ys)/\R (Itz K a b) H1
theorem Ea {a b:Expr}{ta:TA}{p pos:Pos}{es:List Expr}{x1:Nat}{pt:Pos}(hg:Gl X "zip")(hm:X.mg "zip" = none)(ha:PA X [a,b] ta)(hs:starEach [a,b] X.env = [(false,eval a X.env),(false,eval b X.env)]:=by rfl)(hs2:starEach [b] X.env = [(false,eval b X.env)]:=by rfl):
  PI X (.Tuple es x1 pt) (.Call (.Name "zip" p) [a,b] [] pos) (KJ X.K ta):=by
 intro pins s σ H R I h
 refine Call_ (oy I hg hm boot_zip (cj (thn (ha pos pins s σ H _ I h) λus s1 ⟨vs,H1,I1,r1,q1⟩=>?_) (by rw[hs,hs2]) (by rw[hs2];rfl)))
 obtain⟨a,b,e,⟨xs,hx⟩,⟨ys,hy⟩,q⟩:=q1
 subst e
 obtain⟨u,v,rfl,ru,rv⟩:=vals2 r1
 cases ru
 cases rv
 obtain⟨its,rv,p,hzx⟩:=I1.list hx
 obtain⟨jts,rw',p',hzy⟩:=I1.list hy
 have la:a<s1.heap.objs.size:=by obtain⟨o,n,e,_⟩:=p;exact ay e
 have lb:b<s1.heap.objs.size:=by obtain⟨o,n,e,_⟩:=p';exact ay e
 refine call_zip_2 p.isList p'.isList λh' k1 k2 k3 k4 k5 k6 k7=>?_
 refine wpAny_pyIter_zip (s:={s1 with heap:=h'}) k1 ?_
 have D:ZipApart (s1.heap.objs.size+4) (s1.heap.objs.size+2) (s1.heap.objs.size+3) s1.heap.objs.size (s1.heap.objs.size+1) a b:=by
  generalize s1.heap.objs.size=z at la lb
  have la':@LT.lt Nat _ a z:=la
  have lb':@LT.lt Nat _ b z:=lb
  constructor<;>first |exact(show @Ne Nat _ _ by omega)
 refine⟨s1.heap.objs.size+4,[s1.heap.objs.size+4,s1.heap.objs.size+2,s1.heap.objs.size+3,s1.heap.objs.size,s1.heap.objs.size+1],_,_,H1,rfl,I1.kept (t':=s1.toks) k7,AA D,⟨k1,k2,⟨_,_,k3⟩,k4,k5⟩,λc hc=>?_,q⟩
 have hb':s1.heap.objs.size<=c:=by
  simp only[aG,List.not_mem_nil,or_false]at hc
  rcases hc with rfl |rfl |rfl |rfl |rfl
  ·exact cN _ _
  ·exact cN _ _
  ·exact cN _ _
  ·exact ao _
  ·exact cN _ _
 exact I1.BO hb' (I1.hok.fresh hb')
theorem CZ {K:PySem.W.Frag}{a b:Addr}{xs ys:List V}{g:TG}{tb:TS}{D:Ends}{σ:St}{H:Hp}(n:Nat)(hn:n=min xs.length ys.length)(Pv:Nat->St->Hp->Prop)(h0:Pv 0 σ H)(hl:∀ i σ H,i<=n->Pv i σ H->SqL K H a xs/\SqL K H b ys)
  (hs:∀ i x y σ H p,xs[i]? = some x->ys[i]? = some y->Pv i σ H->H p=none->g (.ref p) σ (upd H p (.tup [x,y])) λσ2 H2=>tb {D with nx:=Pv (i+1),ct:=Pv (i+1),bk:=D.nx} σ2 H2) (hd:∀ σ H,Pv n σ H->D.nx σ H):
  ∃ W:Nat->Nat->St->Hp->Prop,(∃ m,W 0 m σ H)/\∀ i m σ H,W i m σ H->
   ((Itz K a b).stop i H/\D.nx σ H)\/((Itz K a b).go i H/\∃ N:St->Hp->Prop,(∀ σ' H',N σ' H'->∃ m',m'<m/\W (i+1) m' σ' H')/\∀ x H',(Itz K a b).yld i H x H'->g x σ H' λσ2 H2=>tb {D with nx:=N,ct:=N,bk:=D.nx} σ2 H2):=by
 refine⟨λi m σ H=>m=n-i/\i<=n/\Pv i σ H,⟨n,by simp,aH _,h0⟩,?_⟩
 rintro i m σ H ⟨rfl,hi,p⟩
 obtain⟨q1,q2⟩:=hl i σ H hi p
 by_cases hlt:i<n
 ·have h1:i<xs.length:=by omega
  have h2:i<ys.length:=by omega
  refine .inr ⟨⟨xs,ys,xs[i],ys[i],q1,q2,by simp[h1],by simp[h2]⟩,Pv (i+1),λσ' H' p'=>⟨n-(i+1),by omega,rfl,hlt,p'⟩,λx H' y=>?_⟩
  obtain⟨pa,hp,e,y⟩:=y
  subst e
  have hx:xs[i]? = some xs[i]:=by simp[h1]
  have hy:ys[i]? = some ys[i]:=by simp[h2]
  rw[y xs ys _ _ q1 q2 hx hy]
  exact hs i _ _ σ H pa hx hy p hp
 ·have e:i=n:=by omega
  subst e
  exact .inl ⟨⟨xs,ys,q1,q2,by omega⟩,hd σ H p⟩
theorem qA:∀ {bs:List Bool}{us:List Value},Vals (bs.map V.bl) us->us=bs.map Value.bool
 |[],_,.nil=>rfl
 |b::bs,_,.cons r t=>by
  cases r
  rw[qA t];rfl
theorem pB (hc:X.calm=true):jC X (.builtin "all") (λxs H Q=>∃ (a:Addr) (bs:List Bool),xs = [.ref a]/\SqL X.K H a (bs.map V.bl)/\Q (.bl (bs.all id)) H):=by
 intro pins s σ H xs us Q I r h
 obtain⟨a,bs,rfl,hx,q⟩:=h
 obtain⟨u,rfl,ru⟩:=vals1 r
 cases ru
 obtain⟨its,rv,p,hz⟩:=I.list hx
 have e:=qA rv
 subst e
 have hl:=p.isList
 have hlt:a<s.heap.objs.size:=by obtain⟨_,e,_⟩:=hl;exact ay e
 refine call_all_walk (wpAny_pyIter_list hl ?_)
 refine⟨s.heap.objs.size,[s.heap.objs.size,a],[s.heap.objs.size],(bs.map Value.bool).toArray.size,_,_,λi=>(bs[i]?).getD true,rfl,Walks.list (A:=X.A.in1) (I.ok.hd hc) _ a (aI hlt) (bs.map Value.bool).toArray,
  ⟨⟨_,bc _ rfl,rfl,rfl⟩,hl.push _⟩,λi v s' Q' E' hP hQ=>?_,λh' tk hk=>?_⟩
 ·have hP':(bs.map Value.bool)[i]? = some v:=by simpa using hP
  rw[ai]at hP'
  cases q:bs[i]? with
  |none=>rw[q]at hP';cases hP'
  |some b=>
   rw[q]at hP'
   cases hP'
   have hQ':Q' b s':=by simpa [q]using hQ
   exact cu hQ'
 ·have e:((List.range (bs.map Value.bool).toArray.size).all λi=>(bs[i]?).getD true)=bs.all id:=by
   rw[aD,aa];exact PyProof.Rows.LSm.range_all bs
  rw[e]
  have kk:∀ b x,s.heap.get? b=some x->h'.get? b=some x:=λb x e=>hk b x (λhm=>by rw[bw.mp hm]at e;exact cC _ (ay e)) (av _ e)
  exact⟨.bl (bs.all id),H,I.kept (t':=tk) kk,rfl,q⟩
end
section
variable {K:PySem.W.Frag}{l:Addr}{g:TG}{tt:TT}{te:TE}{cap:List (Option Nat)}{σ:St}{Q:VK}{H1:Hp}{J:It}
theorem vf (n:Nat)(Pv:Nat->List V->Hp->Prop)(h0:Pv 0 [] (upd H1 l (.lst [])))(go:∀ i acc H,i<n->Pv i acc H->J.go i H)(st:∀ acc H,Pv n acc H->J.stop n H)
  (hs:∀ i x acc H H',i<n->Pv i acc H->J.yld i H x H'->g x (gJ cap σ) H' λσ2 H2=>tt σ2 H2 λb H3=>
    if b=true then te σ2 H3 λy H4=>H4 l=some (.lst acc)/\acc.length<sizeLine/\Pv (i+1) (acc ++ [y]) (upd H4 l (.lst (acc ++ [y])))
    else Pv (i+1) acc H3) (hd:∀ acc H,Pv n acc H->Q (.ref l) H):LcW J g tt te cap σ Q l H1:=by
 refine⟨λi m acc H=>m=n-i/\i<=n/\Pv i acc H,⟨n,by simp,aH _,h0⟩,?_⟩
 rintro i m acc H ⟨rfl,hi,p⟩
 by_cases hlt:i<n
 ·exact .inr ⟨go i acc H hlt p,λsZ H'=>Pv (i+1) sZ H',λsZ H' p'=>⟨n-(i+1),by omega,rfl,hlt,p'⟩,λx H' y=>hs i x acc H H' hlt p y⟩
 ·have e:i=n:=by omega
  subst e
  exact .inl ⟨st acc H p,hd acc H p⟩
theorem ve {α:Type}(n:Nat)(ds:List α)(p:α->Bool)(f:α->V)(hn:H1 l=none)(hlen:n=ds.length)(hz:n<sizeLine)(go:∀ i H,eQ H1 H->i<n->J.go i H)(st:∀ H,eQ H1 H->J.stop n H)
  (hs:∀ i x d H H',eQ H1 H->J.yld i H x H'->ds[i]? = some d->∀ (P1:VK) (P0:Hp->Prop),(∀ H2,p d=true->eQ H H2->P1 (f d) H2)->(∀ H2,p d=false->eQ H H2->P0 H2)->
   g x (gJ cap σ) H' λσ2 H2=>tt σ2 H2 λb H3=>if b=true then te σ2 H3 P1 else P0 H3)
  (hq:∀ H',eQ H1 H'->H' l=some (.lst ((ds.filter p).map f))->Q (.ref l) H'):LcW J g tt te cap σ Q l H1:=by
 refine vf n (λi acc H=>acc=((ds.take i).filter p).map f/\eQ H1 H/\H l=some (.lst acc)) ⟨rfl,eE hn,eG⟩ (λi acc H hi ⟨_,s,_⟩=>go i H s hi) (λacc H ⟨_,s,_⟩=>st H s) ?_ ?_
 ·rintro i x acc H H' hi ⟨e1,s,hl⟩ y
  have hd:ds[i]? = some (ds[i]'(by omega)):=by simp
  generalize ds[i]'(by omega)=d at hd
  have step:((ds.take (i+1)).filter p).map f=acc++(if p d=true then[f d]else[]):=by
   rw[aV,hd,List.filter_append,ar,e1]
   congr 1
   by_cases hp:p d=true
   ·simp[hp]
   ·have hp':p d=false:=by simpa using hp
    simp[hp']
  have la:acc.length<sizeLine:=by
   have h1:acc.length<=i:=by
    rw[e1,aa]
    exact bj (bN _ _) (by rw[aN];omega)
   omega
  refine hs i x d H H' s y hd _ _ (λH2 hp s2=>?_) (λH2 hp s2=>?_)
  ·refine⟨s2 _ _ hl,la,?_,eQ.upd (s.trans s2) hn,eG⟩
   rw[step,aJ hp]
  ·refine⟨?_,s.trans s2,s2 _ _ hl⟩
   rw[step,aF (by rw[hp];exact aA),cY]
 ·rintro acc H ⟨e1,s,hl⟩
  rw[cx (by omega)]at e1
  subst e1
  exact hq H s hl
end
def AK (S:Int->Bool)(k:Int):Int->Bool:=λk'=>S k'||decide (k'=k)
def Bd (S:Int->Bool)(n:Nat)(k:Int):Nat:=if S k=true then n else n+1
section
variable {X:Cx}{pins:List (Addr×Obj)}{σ:St}{H:Hp}{s:Shared}
theorem Inv.setM {l:Addr}{S:Int->Bool}{n:Nat}(I:Inv X pins σ H s)(h:H l=some (.set S n)):s.heap.SetOf (intKind X.prog X.w) l S n:=I.hok l _ h
theorem isInt_self (k:Int)(t:Tok):Value.isInt k (.int k t)=true:=by simp[Value.isInt]
def FK:V->List V->Hp->VK->Prop:=λx vs H Q=>∃ l S n k,x = .ref l/\vs = [.int k]/\H l=some (.set S n)/\n+1<scanBound/\Q .non (upd H l (.set (AK S k) (Bd S n k)))
theorem CL:MtR X "set.add" FK:=by
 intro pins s σ H x vs v us Q I rx rv h
 obtain⟨l,S,n,k,rfl,rfl,hH,hb,q⟩:=h
 cases rx
 obtain⟨u,rfl,t,rfl⟩:=rv.one
 have hS:=Inv.setM I hH
 refine call_set_add (knd:=intKind X.prog X.w) (k:=k) (isInt_self k t) rfl hS hb λh' sb hS'=>?_
 refine⟨.non,_,I.write (t':=s.toks+1) (o:=.set (AK S k) (Bd S n k)) (x:=l) (e:=l) (by rw[hH];exact trivial) (.inl rfl) (λb u hb e=>sb.extBut b u hb e) ?_ ?_,rfl,q⟩
 ·obtain⟨o,_,_,_,e,_⟩:=hS';exact⟨o,e⟩
 ·exact hS'
theorem uq:jC X (.builtin "len") (λxs H Q=>∃ p S n,xs = [.ref p]/\H p=some (.set S n)/\Q (.int n) H):=by
 intro pins s σ H xs us Q I r h
 obtain⟨p,S,n,rfl,hH,q⟩:=h
 obtain⟨u,rfl,rx⟩:=vals1 r
 cases rx
 obtain⟨o,es,ep,t,e,hex,hd,hel,hm,hb,hf,hn⟩:=Inv.setM I hH
 refine call_len_set e hex hd hf ?_ ⟨.int n,H,I.tok _,⟨_,by rw[hn]⟩,q⟩
 have:scanBound=4096:=rfl
 omega
end
section
variable {X:Cx}{pins:List (Addr×Obj)}{σ:St}{H1:Hp}{s2:Shared}{scope:Scope}{N:List Str}{own:Nat}{cap:List (Option Nat)}{cl:List (Str×Addr)}{fp:List Addr}
 {tg iter elt:Expr}{ifs:List Expr}{pos:Pos}{g:TG}{tt:TT}{te:TE}{wi:TI}
def ScW (J:It)(g:TG)(tt:TT)(te:TE)(cap:List (Option Nat))(σ:St)(Q:VK)(l:Addr)(H1:Hp):Prop:=
 ∃ W:Nat->Nat->Hp->Prop,(∃ m,W 0 m (upd H1 l (.set (λ_=>false) 0)))/\∀ i m H,W i m H->
  (J.stop i H/\Q (.ref l) H)\/(J.go i H/\∃ N:Hp->Prop,(∀ H',N H'->∃ m',m'<m/\W (i+1) m' H')/\
   ∀ x H',J.yld i H x H'->g x (gJ cap σ) H' λσ2 H2=>tt σ2 H2 λb H3=>
    if b=true then te σ2 H3 λy H4=>∃ S n k,y = .int k/\H4 l=some (.set S n)/\n+1<scanBound/\N (upd H4 l (.set (AK S k) (Bd S n k)))
    else N H3)
def tSC (wi:TI)(cap:List (Option Nat))(g:TG)(tt:TT)(te:TE):TE:=λσ H Q=>wi σ H λJ H1=>∀ l,H1 l=none->
 ScW J g tt te cap σ Q l H1
theorem An {it:Addr}{tn:Nat->Heap->Prop}{J:It}{Q:VK}{RR:Value->Addr->Result->Shared->Prop}{E:Value->Shared->Prop}(I:Inv X pins σ H1 s2)(T:Turn X.prog X.w X.K tg J fp it tn)(t0:tn 0 s2.heap)
  (f:∀ b∈fp,kg X pins H1 b) (hc:X.calm=true) (C:fG X.env.scope X.N scope N own cap) (ho:nX own g)
  (i5:∀ x c,cl.lookup x=some c->X.env.cells.lookup x=some c) (ku:∀ y∈scope.names,y.2 = .free->∃ c,cl.lookup y.1=some c)
  (hg:∀ s3 H3,PG (eZ X scope cl N fp s3 H3) tg g) (ht:∀ s3 H3,qi (eZ X scope cl N fp s3 H3) ifs tt) (he:∀ s3 H3,PE (eZ X scope cl N fp s3 H3) elt te)
  (hw:∀ l,H1 l=none->ScW J g tt te cap σ Q l H1)
  (fin:∀ l C s' H' m',Inv X pins σ H' s'->s'.heap.Ns C m'->H' C=none->Apart X pins C->Q (.ref l) H'->RR (.ref l) C (.ok .next) s'):
  wpAny (model X.prog X.w) X.A (newSet (.type "set")) (λacc s₃=>wpAny (model X.prog X.w) X.A (newFunctionEnv scope X.env.globals cl [] X.env.qual none .none (some X.env)) (λpx s₄=>
   codeAny (model X.prog X.w) X.A (.compStart (.SetComp elt [⟨tg,iter,ifs,0⟩] scope pos) 0 (.ref it) acc {px with scope:=relabel scope X.env}) (RR acc px.locals) s₄) E s₃) E s2:=by
 refine wpAny_newSet_of (knd:=intKind X.prog X.w) λled Gs=>?_
 refine cV C.pV (by intro y hy;simp at hy) (λh₁ iA iz=>?_) C.kind
 dsimp only at iA iz ⊢
 obtain⟨W,⟨m0,w0⟩,turn⟩:=hw s2.heap.objs.size I.fresh
 have I3:Inv X pins σ (upd H1 s2.heap.objs.size (.set (λ_=>false) 0)) {s2 with heap:=s2.heap.push {cls:=.type "set",dict:=none,data:=.set #[] 0 (.fresh 0 0 led)}} :=
  I.laid (t':=s2.toks) (λb u e=>av _ e) (ao _) Gs
 generalize hs3:({s2 with heap:=s2.heap.push {cls:=.type "set",dict:=none,data:=.set #[] 0 (.fresh 0 0 led)}} :Shared)=s3 at I3
 have hh3:s3.heap=s2.heap.push {cls:=.type "set",dict:=none,data:=.set #[] 0 (.fresh 0 0 led)} :=by rw[<-hs3]
 rw[<-hh3]at iA iz ⊢
 have e4:({s2 with heap:=h₁,toks:=s2.toks+([]:List (Str×Value)).length} :Shared) = {s3 with heap:=h₁,toks:=s2.toks} :=by rw[<-hs3];rfl
 rw[e4]
 have k4:∀ b u,s3.heap.get? b=some u->h₁.get? b=some u:=λb u e=>iz.extBut b u (aI (ay e)) (av _ e)
 have k3:∀ b u,s2.heap.get? b=some u->s3.heap.get? b=some u:=λb u e=>by rw[hh3];exact av _ e
 have hb2:∀ b∈fp,b<s2.heap.objs.size:=λb hb=>by obtain⟨o,e,_⟩:=T.obj _ _ t0 b hb;exact ay e
 have f3:∀ b∈fp,kg X pins (upd H1 s2.heap.objs.size (.set (λ_=>false) 0)) b:=λb hb=>by
  obtain⟨f0,fr⟩:=f b hb
  exact⟨by rw[eN (aI (hb2 b hb))];exact f0,fr⟩
 have hb3:∀ b∈fp,b<s3.heap.objs.size:=λb hb=>by obtain⟨o,e,_⟩:=T.obj _ _ t0 b hb;exact ay (k3 b o e)
 have I4:=mV (tk:=s2.toks) I3 C i5 ku (λb hb=>⟨f3 b hb,hb3 b hb⟩) iA k4
 generalize hH3:upd H1 s2.heap.objs.size (.set (λ_=>false) 0)=H3 at *
 have st4:tn 0 h₁:=T.keep _ _ _ t0 λb hb o e=>k4 b o (k3 b o e)
 have fpX:∀ {H':Hp},(∀ b∈fp,H' b=none)->∀ b∈fp,kg (eZ X scope cl N fp s3 H3) [] H' b:=λ{H'} hn b hb=>by
  obtain⟨f0,f1,f2,f3',f4,f5⟩:=f3 b hb
  refine⟨hn b hb,aI (hb3 b hb),λhz=>?_,.inl hb,λx c e=>f4 x c (i5 x c e),λp hp=>absurd (show p∈([]:List (Addr×Obj)) from hp) (by simp)⟩
  rcases aG.mp (I3.lJ b hz)with z |z
  ·exact f1 z
  ·exact f2 z
 have loop:codeAny (model X.prog X.w) X.A (.compLoop (.SetComp elt [⟨tg,iter,ifs,0⟩] scope pos) 0 (.ref it) (.ref s2.heap.objs.size) (compEnvC scope cl s3.heap.objs.size X.env)) (RR (.ref s2.heap.objs.size) s3.heap.objs.size) {s3 with heap:=h₁,toks:=s2.toks} :=by
  refine ph (λn s'=>∃ i H',Inv (eZ X scope cl N fp s3 H3) [] (gJ cap σ) H' s'/\tn i s'.heap/\(∀ b∈fp,H' b=none)/\W i n H') ?_ m0 ⟨0,H3,I4,st4,λb hb=>(f3 b hb).1,w0⟩
  rintro n s' ⟨i,H',I',st,fr,w⟩
  rcases turn i n H' w with⟨stop,q⟩|⟨go,NN,hNN,step⟩
  ·refine thn (T.done (eZ X scope cl N fp s3 H3) rfl rfl rfl hc i [] s' _ H' (λ_ _=>False) I' (fpX fr) st stop) λr s5 ⟨hr,I5⟩=>?_
   subst hr
   obtain⟨m5,hn5,_⟩:=id I5.loc
   exact fin _ _ s5 H' m5 (comp_back I3 f3 I5) hn5 I5.free (TL.Inv.apart I3) q
  ·refine thn (T.item (eZ X scope cl N fp s3 H3) rfl rfl rfl hc i [] s' _ H' (λ_ _=>False) I' (fpX fr) st go) λr s5 ⟨u,hr,h5⟩=>?_
   subst hr
   refine thn h5 λ_ s6 ⟨x,H6,I6,r6,y6,st6,fr6⟩=>?_
   have I6':=I6.pinned (fpX fr6) (T.obj _ _ st6)
   refine thn (hg s3 H3 _ s6 _ H6 x u _ I6' r6 (ho.own _ _ _ _ (step x H6 y6))) λ_ s7 ⟨σ7,H7,I7,q7,l7,o7⟩=>?_
   have cov:∀ (i:Nat) v,(gJ cap σ)[i]? = some (some v)->σ7[i]? = some (some v):=λi v e=>by
    obtain⟨j,c1,c2⟩:=kI e
    by_cases hi:i<own
    ·exact(C.mR hi c1).elim
    ·rw[o7 i (by omega)];exact e
   have back:∀ {H8:Hp}{s8:Shared},Inv (eZ X scope cl N fp s3 H3) ([]++mw fp s6.heap) σ7 H8 s8->Inv (eZ X scope cl N fp s3 H3) [] (gJ cap σ) H8 s8/\tn (i+1) s8.heap/\∀ b∈fp,H8 b=none:=λ{H8 s8} I8=>by
    refine⟨(Inv.jZ (pins:=[]) I8).weak l7.symm cov,T.keep _ _ _ st6 λb hb o e=>(I8.pin (b,o) (au _ (au _ (gK hb e)))).1,λb hb=>?_⟩
    obtain⟨o,e,d⟩:=T.obj _ _ st6 b hb
    exact(I8.pin (b,o) (au _ (au _ (gK hb e)))).2.1
   refine thn (ht s3 H3 _ s7 σ7 H7 _ I7 q7) λb s8 ⟨H8,I8,q8⟩=>?_
   cases b with
   |false=>
    rw[aF aA]at q8 ⊢
    obtain⟨m',hm,w8⟩:=hNN _ q8
    obtain⟨J1,J2,J3⟩:=back I8
    exact⟨m',hm,i+1,H8,J1,J2,J3,w8⟩
   |true=>
    rw[aJ rfl]at q8 ⊢
    refine thn (he s3 H3 _ s8 σ7 H8 _ I8 q8) λv s9 ⟨y,H9,I9,r9,S,nn,k,ey,ha,hz,n9⟩=>?_
    obtain⟨m',hm,w9⟩:=hNN _ n9
    subst ey
    refine thn (CL _ s9 σ7 H9 (.ref s2.heap.objs.size) [.int k] (.ref s2.heap.objs.size) [v] (λ_ H10=>W (i+1) m' H10) I9 rfl (.cons r9 .nil) ⟨_,S,nn,k,rfl,rfl,ha,hz,w9⟩) λ_ s10 ⟨_,H10,I10,_,w10⟩=>?_
    obtain⟨J1,J2,J3⟩:=back I10
    exact⟨m',hm,i+1,H10,J1,J2,J3,w10⟩
 exact oj loop (T.self X.A 0 _ _ _ st4 loop)
theorem FP (hi:PI X tg iter wi)(hc:X.calm=true)(C:fG X.env.scope X.N scope N own cap)(ho:nX own g)
  (hg:∀ cl fp s3 H3,PG (eZ X scope cl N fp s3 H3) tg g) (ht:∀ cl fp s3 H3,qi (eZ X scope cl N fp s3 H3) ifs tt) (he:∀ cl fp s3 H3,PE (eZ X scope cl N fp s3 H3) elt te)
  (hs:∀ x,foldedSetIterable iter X.env x=pure x:=by intro _;rfl):PE X (.SetComp elt [⟨tg,iter,ifs,0⟩] scope pos) (tSC wi cap g tt te):=by
 intro pins s σ H Q I h
 obtain⟨cl,ecl,i5,ku⟩:=jJ (scope:=scope) (env:=X.env) λy hy hf=>I.ok.has y.1 (C.fre y hy hf)
 rw[arm_eval_SetComp]
 refine cb (use:=none) rfl hs ecl C.kind C.loc (thn (hi pins s σ H _ I h) λxv s1 h1=>thn h1 λitv s2 h2=>?_)
 obtain⟨it,fp,tn,J,H2,e,I2,T,st2,f2,hw⟩:=h2
 subst e
 refine An (RR:=λacc C=>compPost (model X.prog X.w) X.A X.xe none (EP X pins σ Q) acc C) I2 T st2 f2 hc C ho i5 ku (hg cl fp) (ht cl fp) (he cl fp) hw λl Ca s' H' m' I' hn jD hP q=>?_
 exact⟨m',hn,λh'' sh=>⟨.ref l,H',kH I' hP jD sh,rfl,q⟩⟩
end
def dn (ks:List Int):Nat->Nat
 | 0=>0
 |i+1=>if ks.getD i 0∈ks.take i then dn ks i else dn ks i+1
theorem zb (ks:List Int):∀ i,dn ks i<=i
 | 0=>ao _
 |i+1=>by
  have:=zb ks i
  unfold dn
  split<;>omega
theorem DA {ks:List Int} :∀ {i},dn ks i=i↔∀ j,j<i->ks.getD j 0∉ks.take j
 | 0=>⟨λ_ j h=>absurd h (Nat.not_lt_zero j),λ_=>rfl⟩
 |i+1=>by
  have h1:=zb ks i
  have h2:=@DA ks i
  unfold dn
  constructor
  ·intro h j hj
   split at h
   ·omega
   ·rcases eh.mp hj with z |z
    ·exact h2.mp (by omega) j z
    ·subst z;assumption
  ·intro h
   rw[aF (h i (by omega)),h2.mpr λj hj=>h j (by omega)]
theorem xO (ks:List Int):ks.Nodup↔∀ j,j<ks.length->ks.getD j 0∉ks.take j:=by
 constructor
 ·intro h j hj hm
  obtain⟨i,hi,e⟩:=bU.mp hm
  rw[aN]at hi
  rw[List.getElem_take]at e
  have e2:ks.getD j 0=ks[j]:=by rw[aE,af hj];rfl
  rw[e2]at e
  have:=(eu h).mp e
  omega
 ·intro h
  rw[List.Nodup,cR]
  intro i j hi hj hij e
  refine h j hj ?_
  have e2:ks.getD j 0=ks[j]:=by rw[aE,af hj];rfl
  rw[e2,<-e]
  exact bU.mpr ⟨i,by rw[aN];omega,by rw[List.getElem_take]⟩
theorem BS (ks:List Int):dn ks ks.length=ks.length↔ks.Nodup:=DA.trans (xO ks).symm
theorem za (ks:List Int):dn ks ks.length<ks.length↔¬ks.Nodup:=by
 rw[<-BS]
 have:=zb ks ks.length
 omega
theorem take_snoc {ks:List Int}{i:Nat}(hi:i<ks.length):ks.take (i+1)=ks.take i ++ [ks.getD i 0]:=by
 rw[aV,aE,af hi];rfl
theorem zE {ks:List Int}{i:Nat}(hi:i<ks.length):AK (λk=>decide (k∈ks.take i)) (ks.getD i 0) = λk=>decide (k∈ks.take (i+1)):=by
 funext k
 rw[take_snoc hi]
 simp[AK]
theorem zQ (ks:List Int)(i:Nat):Bd (λk=>decide (k∈ks.take i)) (dn ks i) (ks.getD i 0)=dn ks (i+1):=by
 unfold Bd
 rw[dn]
 by_cases h:ks.getD i 0∈ks.take i
 ·rw[aJ h,aJ (by simpa using h)]
 ·rw[aF h,aF (by simpa using h)]
section
variable {X:Cx}
theorem ug (ns:List Int):∀ i,i<=ns.length->(firstMet (λi=>ns.getD i 0) i).length=dn ns i/\∀ k,(firstMet (λi=>ns.getD i 0) i).any (· == k)=decide (k∈ns.take i)
 | 0,_=>⟨by rw[firstMet_zero];rfl,λk=>by rw[firstMet_zero];simp⟩
 |i+1,hi=>by
  obtain⟨h1,h2⟩:=ug ns i (by omega)
  refine⟨?_,λk=>?_⟩
  ·rw[firstMet_succ,step_length,h2,h1,dn]
   by_cases h:ns.getD i 0∈ns.take i
   ·rw[aJ h,aJ (by simpa using h)]
   ·rw[aF h,aF (by simpa using h)]
  ·rw[firstMet_succ,step_any,h2,take_snoc (by omega)]
   simp
theorem Aq (hc:X.calm=true):jC X (.type "set") (λxs H Q=>∃ (a:Addr) (ns:List Int),xs = [.ref a]/\SqL X.K H a (ns.map V.int)/\ns.length+1<scanBound/\
  ∀ p,H p=none->Q (.ref p) (upd H p (.set (λk=>decide (k∈ns)) (dn ns ns.length)))):=by
 intro pins s σ H xs us Q I r h
 obtain⟨a,ns,rfl,hx,hb,q⟩:=h
 obtain⟨u,rfl,ru⟩:=vals1 r
 cases ru
 obtain⟨its,rv,p,hz⟩:=I.list hx
 have hl:=rv.length
 rw[aa]at hl
 refine call_set_list (ns:=ns) (I.ok.hd hc) p.isList (intsAre_of rv) (by rw[aD,<-hl];exact hb) λh' tk hS hk=>?_
 have hsz:its.toArray.size=ns.length:=by rw[aD,<-hl]
 rw[hsz]at hS
 obtain⟨e1,e2⟩:=ug ns ns.length (ao _)
 rw[e1]at hS
 have e3:(λk'=>(firstMet (λi=>ns.getD i 0) ns.length).any (· == k')) = λk=>decide (k∈ns):=by
  funext k
  rw[e2,aW]
 rw[e3]at hS
 exact⟨.ref s.heap.objs.size,_,I.laid (t':=tk) (o:=.set (λk=>decide (k∈ns)) (dn ns ns.length)) (λb u e=>hk b u (ay e) e) (ao _) hS,rfl,q _ I.fresh⟩
end
section
variable {l:Addr}{g:TG}{tt:TT}{te:TE}{cap:List (Option Nat)}{σ:St}{Q:VK}{H1:Hp}{J:It}
theorem AJ {α:Type}{n:Nat}{it:Nat->V->Prop}(S:JS J n H1 it)(ds:List α)(f:α->Int)(hn:H1 l=none)(hlen:n=ds.length)(hz:n+1<scanBound)
  (hs:∀ (i:Nat) x d H,it i x->ds[i]? = some d->eQ H1 H->∀ (P1:VK) (P0:Hp->Prop),P1 (.int (f d)) H->
   g x (gJ cap σ) H λσ2 H2=>tt σ2 H2 λb H3=>if b=true then te σ2 H3 P1 else P0 H3)
  (hq:Q (.ref l) (upd H1 l (.set (λk=>decide (k∈ds.map f)) (dn (ds.map f) n)))):ScW J g tt te cap σ Q l H1:=by
 refine⟨λi m H=>m=n-i/\i<=n/\H=upd H1 l (.set (λk=>decide (k∈(ds.map f).take i)) (dn (ds.map f) i)),⟨n,by simp,aH _,?_⟩,?_⟩
 ·congr 2
 rintro i m H ⟨rfl,hi,e2⟩
 have sm:eQ H1 H:=by rw[e2];exact eE hn
 by_cases hlt:i<n
 ·refine .inr ⟨S.go i H sm hlt,λH'=>H'=upd H1 l (.set (λk=>decide (k∈(ds.map f).take (i+1))) (dn (ds.map f) (i+1))),λH' p2=>⟨n-(i+1),by omega,rfl,hlt,p2⟩,λx H' y0=>?_⟩
  obtain⟨e,y⟩:=S.yld i H x H' sm hlt y0
  clear y0
  subst e
  have hd:ds[i]? = some (ds[i]'(by omega)):=by simp
  generalize ds[i]'(by omega)=d at hd
  refine hs i x d H' y hd sm _ _ ⟨_,_,f d,rfl,by rw[e2];exact eG,?_,?_⟩
  ·have:=zb (ds.map f) i
   omega
  ·have e3:(ds.map f).getD i 0=f d:=by rw[aE,ai,hd];rfl
   have h1:=zE (ks:=ds.map f) (i:=i) (by rw[aa];omega)
   have h2:=zQ (ds.map f) i
   rw[e3]at h1 h2
   rw[h1,h2,e2,oK]
 ·have e:i=n:=by omega
  subst e
  refine .inl ⟨S.stop H sm,?_⟩
  rw[e2,cx (by rw[aa];omega)]
  exact hq
end
def hid (p:Addr)(H:Hp):Hp:=λb=>if b=p then none else H b
theorem gv {p:Addr}{H:Hp} :eQ (hid p H) H:=λb o h=>by
 unfold hid at h
 by_cases e:b=p
 ·rw[aJ e]at h;cases h
 ·rw[aF e]at h;exact h
theorem fU {p b:Addr}{H:Hp}(h:b≠p):hid p H b=H b:=by unfold hid;rw[aF h]
theorem j9 {p:Addr}{H:Hp} :hid p H p=none:=by unfold hid;rw[aJ rfl]
theorem mW {p:Addr}{H H':Hp}(s:eQ H H'):eQ (hid p H) (hid p H'):=λb o h=>by
 by_cases e:b=p
 ·subst e;rw[j9]at h;cases h
 ·rw[fU e]at h ⊢;exact s _ _ h
theorem jV {p:Addr}{H:Hp}{o:HO} :hid p (upd H p o)=hid p H:=by
 funext b
 by_cases e:b=p
 ·subst e;rw[j9,j9]
 ·rw[fU e,fU e,eN e]
theorem oS {p:Addr}{H H':Hp}(s:eQ H H')(hn:H p=none):eQ H (hid p H'):=λb o h=>by
 rw[fU (eM h hn)];exact s _ _ h
theorem vn {K:PySem.W.Frag}{p a:Addr}{H:Hp}{vs xs:List V}(hp:H p=some (.lst vs))(h:SqT K H a xs):SqT K (hid p H) a xs:=by
 rcases h with(h |⟨o,h⟩)|h
 ·exact .inl (.inl (by rw[fU (fA h hp (by intro z;cases z))];exact h))
 ·exact .inl (.inr ⟨o,by rw[fU (fA h hp (by intro z;cases z))];exact h⟩)
 ·exact .inr h
section
variable {L T:Addr->List V->Prop}
end
theorem qe {xs:List V}{v:V}{i:Int}(h0:0<=i)(h:xs[i.toNat]? = some v):atI xs i=some v:=by
 have:=nS h
 rw[show((i.toNat:Nat):Int)=i by omega]at this
 exact this
section
variable {K:PySem.W.Frag}{l:Addr}{g:TG}{tt:TT}{te:TE}{cap:List (Option Nat)}{σ:St}{Q:VK}{H1:Hp}{J:It}
theorem yP {α:Type}(n:Nat)(ds:List α)(d':α->PyData)(hn:H1 l=none)(hlen:n=ds.length)(hz:n<sizeLine)(go:∀ i H,eQ H1 H->i<n->J.go i H)(st:∀ H,eQ H1 H->J.stop n H)
  (hs:∀ i x d H H',eQ H1 H->(∃ us,H l=some (.lst us))->J.yld i H x H'->ds[i]? = some d->∀ (P1:VK) (P0:Hp->Prop),(∀ v H2,eQ H H2->Da K (hid l H2) (d' d) v->P1 v H2)->
   g x (gJ cap σ) H' λσ2 H2=>tt σ2 H2 λb H3=>if b=true then te σ2 H3 P1 else P0 H3)
  (hq:∀ vs H',eQ H1 H'->H' l=some (.lst vs)->Das K (hid l H') (ds.map d') vs->Q (.ref l) H'):LcW J g tt te cap σ Q l H1:=by
 refine vf n (λi acc H=>Das K (hid l H) ((ds.take i).map d') acc/\eQ H1 H/\H l=some (.lst acc)) ⟨gh.mpr rfl,eE hn,eG⟩ (λi acc H hi ⟨_,s,_⟩=>go i H s hi) (λacc H ⟨_,s,_⟩=>st H s) ?_ ?_
 ·rintro i x acc H H' hi ⟨e1,s,hl⟩ y
  have hd:ds[i]? = some (ds[i]'(by omega)):=by simp
  generalize ds[i]'(by omega)=d at hd
  refine hs i x d H H' s ⟨_,hl⟩ y hd _ _ (λv H2 s2 dv=>?_)
  have la:=Dgs.length e1
  rw[aa,aN]at la
  refine⟨s2 _ _ hl,by omega,?_,eQ.upd (s.trans s2) hn,eG⟩
  rw[jV,aV,hd,ar]
  exact Dgs.append (Das.same (mW s2) e1) (Dgs.one dv)
 ·rintro acc H ⟨e1,s,hl⟩
  rw[cx (by omega)]at e1
  exact hq acc H s hl e1
end
open PySem.W
section
variable {X:Cx}{pins:List (Addr×Obj)}{σ:St}{H H1:Hp}{s s':Shared}{e C:Addr}{B:Heap}
end
section
variable {prog:Program}{w:World}{A:Around}{R:Result->Shared->Prop}{s:Shared}{XE:Value->Shared->Prop}
end
section
variable {M:Model}{A:Around}{E:Value->Shared->Prop}{s:Shared}{env:Env}
end
section
variable {X:Cx}{pins:List (Addr×Obj)}{σ:St}{H H3:Hp}{s s3:Shared}{scope:Scope}{N:List Str}{own:Nat}{cap:List (Option Nat)}{cl:List (Str×Addr)}{fp:List Addr}{E:XK}
def XC (X:Cx)(scope:Scope)(cl:List (Str×Addr))(N:List Str)(fp:List Addr)(s3:Shared)(H3:Hp)(E:XK):Value->Shared->Prop:=λev s'=>∃ (rH:List (Addr×Obj)) (σ':St) (H':Hp) (s0:Shared),Inv (eZ X scope cl N fp s3 H3) rH σ' H' s0/\CXr X.prog X.w X.base X.stack H' s0 E ev s'
abbrev Hr (X:Cx)(scope:Scope)(cl:List (Str×Addr))(N:List Str)(fp:List Addr)(s3:Shared)(H3:Hp)(E:XK):Cx:=(eZ X scope cl N fp s3 H3).qS (XC X scope cl N fp s3 H3 E)
end
section
variable {X:Cx}{pins:List (Addr×Obj)}{σ:St}{H1:Hp}{s2:Shared}{scope:Scope}{N:List Str}{own:Nat}{cap:List (Option Nat)}{cl:List (Str×Addr)}{fp:List Addr}
 {tg iter elt:Expr}{ifs:List Expr}{pos:Pos}{g:TG}{tt:TT}{te:TE}{wi:TI}{E:XK}
end
end TL
namespace TL
open PySem PySem.Spec PyProof.Rows L2
theorem zJ {P:Program}{w:World}{base:Heap}{X:Cx} :Passes (CXr P w base) X E0:=λ_ _ _ _ _ _ _ hx=>by
 obtain⟨_,_,_,_,_,_,_,_,q⟩:=hx
 exact q.elim
section
variable {X:Cx}{pins:List (Addr×Obj)}{σ:St}{H:Hp}{s:Shared}{a:Addr}{kvs:List (List Key×V)}
theorem Inv.freeze (I:Inv X pins σ H s)(ha:H a=some (.dT kvs)):∃ o,Inv X pins σ (upd H a (.frz o (.dT kvs))) s:=by
 obtain⟨z,hm,xs,r,o,es,ep,e,c⟩:=I.hok a _ ha
 refine⟨o,?_⟩
 have h0:Inv X pins σ (upd H a (.frz o (.dT kvs))) {s with heap:=s.heap,toks:=s.toks} :=by
  refine I.un (t':=s.toks) ⟨λb o q _ _ _=>q,λb o q _ _ _=>⟨o.slots,q⟩,λb u q n _=>?_,λb o q _=>⟨o,q⟩,λb xs q=>?_,λb u x q=>?_,λb ps q=>⟨#[],?_⟩⟩ λb u q=>?_
  ·rw[eN (bK (eM ha n))];exact n
  ·rw[eN (fA q ha (by intro z;cases z))];exact q
  ·rw[eN (fA q ha (by intro z;cases z))];exact q
  ·rw[eN (fA q ha (by intro z;cases z)),q];simp
  ·have ho:∀ c b',H c=some (.own b')->upd H a (.frz o (.dT kvs)) c=some (.own b'):=λc b' q=>by rw[eN (fA q ha (by intro z;cases z))];exact q
   have ht:∀ c xs,H c=some (.tup xs)->upd H a (.frz o (.dT kvs)) c=some (.tup xs):=λc xs q=>by rw[eN (fA q ha (by intro z;cases z))];exact q
   by_cases hb:b=a
   ·subst hb
    rw[eG]at q
    cases q
    exact⟨e,(I.hok b _ ha).ot (λ_ _ _ q=>q) (λc q=>ho c _ q) ht⟩
   ·rw[eN hb]at q
    exact(I.hok b u q).ot (λ_ _ _ q=>q) (λc q=>ho c _ q) ht
 exact h0
theorem Inv.Kb {o:Obj}(I:Inv X pins σ H s)(ha:H a=some (.frz o (.dT kvs)))(h0:∀ o u,X.H₀ a≠some (.frz o u)):Inv X pins σ (upd H a (.dT kvs)) s:=by
 have ne:∀ b,H b=none->b≠a:=λb n=>bK (eM ha n)
 have hu:Un X.fs X.ex X.H₀ (upd H a (.dT kvs)) X.s₀.heap s.heap:=by
  refine⟨I.base.keep,I.base.slot,λb u q n hx=>?_,I.base.there,λb xs q=>?_,λb u x q=>?_,λb ps q=>?_⟩
  ·have:=I.base.free b u q n hx
   rw[eN (ne b this)];exact this
  ·have:=I.base.jF b xs q
   rw[eN (fA this ha (by intro z;cases z))];exact this
  ·have hb:b≠a:=λz=>by subst z;exact h0 _ _ q
   rw[eN hb];exact I.base.nV b u x q
  ·obtain⟨m,e⟩:=I.base.oM b ps q
   exact⟨m,by rw[eN (fA e ha (by intro z;cases z))];exact e⟩
 refine⟨I.ok,I.os,I.bare,hu,I.loc,I.cell,by rw[eN (ne _ I.free)];exact I.free,λx c e=>by rw[eN (ne _ (I.jE x c e))];exact I.jE x c e,λp hp=>?_,λb u q=>?_,I.len⟩
 ·obtain⟨p1,p2,p3⟩:=I.pin p hp
  exact⟨p1,by rw[eN (ne _ p2)];exact p2,p3⟩
 ·have ho:∀ c b',H c=some (.own b')->upd H a (.dT kvs) c=some (.own b'):=λc b' q=>by rw[eN (fA q ha (by intro z;cases z))];exact q
  have ht:∀ c xs,H c=some (.tup xs)->upd H a (.dT kvs) c=some (.tup xs):=λc xs q=>by rw[eN (fA q ha (by intro z;cases z))];exact q
  by_cases hb:b=a
  ·subst hb
   rw[eG]at q
   cases q
   exact(I.hok b _ ha).2.ot (λ_ _ _ q=>q) (λc q=>ho c _ q) ht
  ·rw[eN hb]at q
   exact(I.hok b u q).ot (λ_ _ _ q=>q) (λc q=>ho c _ q) ht
def HE (t:TE):TE:=λσ H Q=>∃ a kvs,H a=some (.dT kvs)/\∀ o,t σ (upd H a (.frz o (.dT kvs))) λv H'=>H' a=some (.frz o (.dT kvs))/\Q v (upd H' a (.dT kvs))
theorem Ed {e:Expr}{t:TE}(h:PE X e t):PE X e (HE t):=by
 intro pins s σ H Q I q
 obtain⟨a,kvs,ha,q⟩:=q
 have h0:∀ o u,X.H₀ a≠some (.frz o u):=λo u z=>by have:=I.base.nV a o u z;rw[ha]at this;cases this
 obtain⟨o,I1⟩:=Inv.freeze I ha
 refine thn (h pins s σ _ _ I1 (q o)) λu s1 ⟨v,H1,I2,r,e1,q1⟩=>⟨v,_,Inv.Kb I2 e1 h0,r,q1⟩
end
section
variable {prog:Program}{w:World}{A:Around}{E:Value->Shared->Prop}{s:Shared}{d it:Addr}{o:Obj}{es:Array DictEntry}{ep i:Nat}
theorem nK (ho:s.heap.get? d=some o)(hx:o.ExactDict):s.TypeIs (.ref d) "dict" :=⟨o,ho,hx.1⟩
theorem tT {Q:Value->Shared->Prop}(hn:(d==sysModules)=false)(ho:s.heap.get? d=some o)(hx:o.ExactDict)(hd:o.data = .dict es ep)
  (hQ:Q (.ref s.heap.objs.size) {s with heap:=s.heap.push {cls:=.type "dict_keyiterator",data:=.fields #[.ref d,.int 0 0,.int es.size 0,.int ep 0]}}):wpAny (model prog w) A (pyIter (.ref d)) Q E s:=by
 have hT:=nK ho hx
 refine wpAny_pyIter_slot hT F.slot_dict_iter (cA F.slot_dict_iter hT F.entry_dict_iter ?_ (F.args_dict_iter_1 _))
 unfold Builtin.«dict.__iter__»
 refine ae ?_
 unfold Builtin.Dict.dictSlotNone
 refine ae (wpAny_notOrdered_dict hT (aj ?_))
 show wpAny _ _ (Builtin.Dict.showsAll d >>= _) _ _ s
 unfold Builtin.Dict.showsAll
 rw[aF (by rw[hn];exact aA)]
 refine ae (aj (ae (wpAny_dictEntries ho hd (ae (wpAny_dictEpoch ho hd ?_)))))
 refine ae (cQ (aj ⟨_,rfl,"dict_keyiterator",_,⟨_,bc _ rfl,rfl⟩,bV.lookup,?_⟩))
 simpa [rawInt]using hQ
theorem tS {Q:Option Value->Shared->Prop}{e:DictEntry}(hit:s.heap.IsKeyIter it d i es.size ep)(ho:s.heap.get? d=some o)(hd:o.data = .dict es ep)(hx:es[i]? = some e)
  (hQ:∀ h',h'.IsKeyIter it d (i+1) es.size ep->Heap.SameBut it s.heap h'->Q (some e.key) {s with heap:=h'}):wpAny (model prog w) A (pyNext (.ref it)) Q E s:=by
 obtain⟨oi,hoi,hc,hdi⟩:=id hit
 have hT:=hit.typeIs
 unfold pyNext
 refine ae (wpAny_attempt (wpAny_callSpecial?_slot (name:=Str.ofString "__next__") hT bV
  (cA bV hT F.entry_dict_keyiterator_next ?_ (F.args_dict_keyiterator_next_1 _))))
 refine ae (aj (ae (ae ?_)))
 first |refine ae (cE hT (aj ?_))|refine ae (di hT (aj ?_))
 refine ae (wpAny_fieldsOf hoi hdi ?_)
 have EK:Builtin.Dict_items.ownsTuple "dict_keyiterator" = false:=by decide
 simp only[EK,aL,bF]
 show wpAny _ _ (if(Value.ref d==Value.none)=true then _ else _) _ _ s
 rw[aF (show ¬((Value.ref d==Value.none)=true) from aA)]
 refine ae (aj (ae (wpAny_dictEntries ho hd ?_)))
 rw[aF (by simp)]
 refine ae (aj (ae (wpAny_dictEpoch ho hd ?_)))
 rw[aF (by simp)]
 refine aj ?_
 obtain⟨hlt,he⟩:=bB.mp hx
 simp only[show ¬((i:Int)<0) from by omega,bF,Int.toNat_natCast,bD hlt]
 refine ae ?_
 first |refine ae (cE hT (aj ?_))|refine ae (di hT (aj ?_))
 refine ae (wpAny_isOneOf_keyiter hT ?_)
 show wpAny _ _ (setField (.ref it) 1 (rawInt ((i:Int)+1)) >>= _) _ _ s
 refine ae (wpAny_setField hoi hdi (by simp) ?_)
 have CY:(s.heap.update it (Obj.mapFields (·.setIfInBounds 1 (rawInt ((i:Int)+1))))).IsKeyIter it d (i+1) es.size ep:=
  ⟨_,Heap.get?_update_self _ hoi (Obj.isFreed_of_fields (Obj.data_mapFields hdi _)),(Obj.cls_mapFields ..).trans hc,by rw[Obj.data_mapFields hdi];simp[rawInt]⟩
 refine ae (b9 ?_)
 refine ae (wpAny_isOneOf_keyiter (s:={s with heap:=s.heap.update it (Obj.mapFields (·.setIfInBounds 1 (rawInt ((i:Int)+1))))}) CY.typeIs ?_)
 show wpAny _ _ (pure es[i].key) _ _ _
 rw[he]
 exact aj (aj ⟨_,rfl,aj (hQ _ CY (ed ..))⟩)
theorem vY {Q:Option Value->Shared->Prop}(hh:A.handled=none)(hit:s.heap.IsKeyIter it d i es.size ep)(ho:s.heap.get? d=some o)(hd:o.data = .dict es ep)(hx:es.size<=i)
  (hQ:∀ h',Heap.ExtBut it s.heap h'->Q none {s with heap:=h'}):wpAny (model prog w) A (pyNext (.ref it)) Q E s:=by
 obtain⟨oi,hoi,hc,hdi⟩:=id hit
 have hT:=hit.typeIs
 unfold pyNext
 refine ae (wpAny_attempt (wpAny_callSpecial?_slot (name:=Str.ofString "__next__") hT bV
  (cA bV hT F.entry_dict_keyiterator_next ?_ (F.args_dict_keyiterator_next_1 _))))
 refine ae (aj (ae (ae ?_)))
 first |refine ae (cE hT (aj ?_))|refine ae (di hT (aj ?_))
 refine ae (wpAny_fieldsOf hoi hdi ?_)
 have EK:Builtin.Dict_items.ownsTuple "dict_keyiterator" = false:=by decide
 simp only[EK,aL,bF]
 show wpAny _ _ (if(Value.ref d==Value.none)=true then _ else _) _ _ s
 rw[aF (show ¬((Value.ref d==Value.none)=true) from aA)]
 refine ae (aj (ae (wpAny_dictEntries ho hd ?_)))
 rw[aF (by simp)]
 refine ae (aj (ae (wpAny_dictEpoch ho hd ?_)))
 rw[aF (by simp)]
 refine aj ?_
 simp only[show ¬((i:Int)<0) from by omega,bF,Int.toNat_natCast,Array.getElem?_eq_none hx]
 refine ae ?_
 first |refine ae (cE hT (aj ?_))|refine ae (di hT (aj ?_))
 show wpAny _ _ (setField (.ref it) 0 .none >>= _) _ _ s
 refine ae (wpAny_setField hoi hdi (by simp) ?_)
 show wpAny _ _ (newExc (.type "StopIteration") [] >>= _) _ _ _
 refine ae ?_
 simp only[newExc,newTuple]
 refine ae (cQ ?_ (by size_fits))
 refine ae (m:=firstArgMember _ _) (wpAny_of_eq (a:=Value.none) (by first |rfl |(simp only[firstArgMember];rfl)) ?_)
 refine cQ ?_ (by size_fits)
 simp only[raiseNew]
 refine ae (wpAny_handled ?_)
 rw[show A.in1.handled=none from hh]
 refine ae (aj (wpAny_throw ?_))
 refine ae (wpAny_isInstance (T:= "StopIteration") (b:=true) ⟨_,bc _ rfl,rfl⟩ isSubtype_stop ?_)
 exact aj (hQ _ (((ed ..).extBut.push _).push _))
theorem tR {Q:Value->Shared->Prop}{n:Nat}(hit:s.heap.IsKeyIter it d i n ep)(h:Q (.ref it) s):wpAny (model prog w) A (pyIter (.ref it)) Q E s:=by
 have hT:=hit.typeIs
 refine wpAny_pyIter_slot hT F.slot_dict_keyiterator_iter (cA F.slot_dict_keyiterator_iter hT F.entry_dict_keyiterator_iter ?_ (F.args_dict_keyiterator_iter_1 _))
 show wpAny _ _ (ret (.ref it)) _ _ s
 exact aj ⟨_,rfl,"dict_keyiterator",_,hT,bV.lookup,h⟩
end
theorem pR {α β:Type}{R:α->β->Prop} :∀ {l₁:List α}{l₂:List β}{i:Nat}{p:α},Paired R l₁ l₂->l₁[i]? = some p->∃ q,l₂[i]? = some q/\R p q
 |_,_,0,_,.cons r _,e=>by cases e;exact⟨_,rfl,r⟩
 |_,_,i+1,p,.cons _ t,e=>pR (i:=i) t e
def Itk (a:Addr)(o:Obj)(kvs:List (List Key×V)):It:=
 ⟨λi H=>H a=some (.frz o (.dT kvs))/\i<kvs.length,λi H x H'=>H'=H/\∃ b p,kvs[i]? = some p/\x = .ref b/\H b=some (.tup (p.1.map kV)),λi H=>H a=some (.frz o (.dT kvs))/\kvs.length<=i⟩
theorem zw {P:Program}{w:World}{K:PySem.W.Frag}{tg:Expr}{hx:Heap}(htg:∀ it u,letOwnedTupleGo tg it u=pure ())(a it:Addr)(o:Obj)(kvs:List (List Key×V))(es:Array DictEntry)(ep:Nat)(hd:o.data = .dict es ep)(hl:es.size=kvs.length):
  Turn P w K tg (Itk a o kvs) [it] it (λi h=>h.IsKeyIter it a i es.size ep) where
 mem:=by simp
 obj:=λi h st b hb=>by
  have e:b=it:=by simpa using hb
  subst e
  obtain⟨oi,hoi,_,hdi⟩:=st
  exact⟨oi,hoi,λv z=>by rw[hdi]at z;cases z⟩
 keep:=λi h h' st k=>by
  obtain⟨oi,hoi,r⟩:=st
  exact⟨oi,k it (by simp) oi hoi,r⟩
 item:=by
  intro X hP hw hK hc i pins s σ H E I hf st hg
  subst hP hw hK
  obtain⟨ha,hi⟩:=hg
  obtain⟨ho,z,hm,xs,r,o',es',ep',e',_,hd',hes,_⟩:=I.hok a _ ha
  rw[ho]at e'
  cases e'
  rw[hd]at hd'
  cases hd'
  have hp:kvs[i]? = some kvs[i]:=by simp[hi]
  obtain⟨q,hq,q1,q2,q3⟩:=pR r hp
  have he:es[i]? = some (entryOfKey (tupleKind (fB X.prog X.w)) q):=by
   rw[<-bI,hes,ai,hq];rfl
  obtain⟨g0,g1,g2,g3,g4,g5⟩:=hf it (by simp)
  refine tS st ho hd he λh' k1 k2=>?_
  refine⟨_,rfl,?_⟩
  rw[htg]
  refine aj ⟨.ref q.2.1,H,I.turned (t':=s.toks) (λb u hb e=>k2.extBut b u hb e) g0 g1 g3 g4 g5,rfl,⟨rfl,q.2.1,_,hp,rfl,q2⟩,k1,λb hb=>?_⟩
  have e:b=it:=by simpa using hb
  subst e;exact g0
 done:=by
  intro X hP hw hK hc i pins s σ H E I hf st hg
  subst hP hw hK
  obtain⟨ha,hi⟩:=hg
  obtain⟨ho,_⟩:=I.hok a _ ha
  obtain⟨g0,g1,g2,g3,g4,g5⟩:=hf it (by simp)
  exact vY (I.ok.hd hc) st ho hd (by rw[hl];exact hi) λh' eb=>⟨rfl,I.turned (t':=s.toks) (λb u hb e=>eb b u hb e) g0 g1 g3 g4 g5⟩
 self:=λ_ _ _ _ _ st h=>tR st h
section
variable {X:Cx}
def Gn (tl:TE):TI:=λσ H R=>tl σ H λx H1=>∃ a o kvs,x = .ref a/\H1 a=some (.frz o (.dT kvs))/\R (Itk a o kvs) H1
theorem CA {tg e:Expr}{tl:TE}(hl:PE X e tl)(htg:∀ it u,letOwnedTupleGo tg it u=pure ():=by intro _ _;rfl):PI X tg e (Gn tl):=by
 intro pins s σ H R I h
 refine thn (hl pins s σ H _ I h) λu s1 ⟨x,H1,I1,r1,a,o,kvs,ex,ha,q⟩=>?_
 subst ex
 cases(show u=Value.ref a from r1)
 obtain⟨ho,z,hm,xs,r,o',es,ep,e',hxd,hd,hes,_⟩:=I1.hok a _ ha
 rw[ho]at e'
 cases e'
 have hsz:es.size=kvs.length:=by
  have h1:=bS List.length hes
  rw[aP,aa,<-bT r]at h1
  exact h1
 refine tT hm ho hxd hd ?_
 refine⟨s1.heap.objs.size,[s1.heap.objs.size],_,_,H1,rfl,I1.kept (t':=s1.toks) (λb u e=>av _ e),zw (hx:=s1.heap) htg a _ o kvs es ep hd hsz,⟨_,bc _ rfl,rfl,rfl⟩,λb hb=>?_,q⟩
 have e:b=s1.heap.objs.size:=by simpa using hb
 subst e
 exact I1.BO (ao _) (I1.hok.fresh (ao _))
end
section
variable {X:Cx}{pins:List (Addr×Obj)}{σ:St}{H:Hp}{s:Shared}{a b:Addr}{kvs:List (List Key×V)}{k:List Key}{v:V}{r:Value}{A:Around}{E:Value->Shared->Prop}
theorem BW {Q:Unit->Shared->Prop}(hu:A.units<cLine)(I:Inv X pins σ H s)(e:H a=some (.dT kvs))(eb:H b=some (.tup (k.map kV)))(l:kvs.length<sizeLine)(rv:RelV v r)
  (h:∀ s',Inv X pins σ (upd H a (.dT (putK kvs k v))) s'->Q () s'):wpAny (model X.prog X.w) A (dictSet a (.ref b) r) Q E s:=by
 obtain⟨z,hd,xs,rel,dd⟩:=y4 I.hok e
 have hz:xs.length<=sizeLine:=by rw[<-bT rel];exact z
 have hl:(putK kvs k v).length<=sizeLine:=by have:=mT kvs k v;omega
 refine wpAny_dictSet_heap (hsz:=hz) hu (mU I.hok eb) dd λh' dd' hs=>h _ ?_
 obtain⟨q,es,ep,hq,h2,h3,h4,_,h5⟩:=dd'
 refine o8 I (by rw[e];exact True.intro) hs ⟨q,hq⟩ ⟨hl,hd,_,(rel.put k eb rv).keeps λc ys ec=>?_,q,es,ep,hq,h2,h3,h4,h5⟩
 rw[eN (fA ec e (λz=>nomatch z))]
 exact ec
def DM (tk tv:TE):TE:=λσ H Q=>∀ p,H p=none->xw [(tk,tv)] σ (upd H p (.dT [])) λps H2=>∃ (x y:V) (b:Addr) (ks:List Key),ps = [(x,y)]/\x=V.ref b/\H2 b=some (.tup (ks.map kV))/\H2 p=some (.dT [])/\Q (.ref p) (upd H2 p (.dT [(ks,y)]))
theorem wc {pos:Pos}{k v:Expr}{tk tv:TE}(hu:X.A.units+1<cLine)(hk:PE X k tk)(hv:PE X v tv):PE X (.Dict [some k] [v] pos) (DM tk tv):=by
 intro pins s σ H Q I q
 have hn:=I.hok.fresh (ao s.heap.objs.size)
 have I1:=I.laid (a:=s.heap.objs.size) (o:=.dT []) (h':=s.heap.push {cls:=.type "dict",data:=.dict #[]}) (t':=s.toks) (λ_ _ q=>av _ q) (ao _) (sA s.heap I.big)
 refine wpAny_Dict_any rfl rfl (by simp) (by simp) (thn (AS hk hv Cz pins _ σ _ _ I1 (q _ hn)) λws s2 ⟨ps,H2,I2,rel,x,y,b,ks,ep,ex,hb,hp,q2⟩=>?_)
 subst ep ex
 cases rel with
 |@cons p w' ps ws r t=>
   cases t
   obtain⟨w1,w2⟩:=w'
   obtain⟨r1,r2⟩:=r
   cases(show w1=Value.ref b from r1)
   unfold storeAll
   rw[cq]
   refine ae (ae (BW (by omega) I2 hp hb (by rw[List.length_nil];decide) r2 λs3 I3=>aj ?_))
   refine aj ⟨.ref s.heap.objs.size,_,I3,rfl,?_⟩
   exact q2
theorem AX {x y n:Str}{i:Int}{u:Value}{k1 k2:Nat}{p1 p2 p3 p4 pos:Pos}(hg:Gl X n)(hm:X.mg n=some u)(r:RelV (.int i) u)(hi:i.natAbs.log2<1920)(hz:x.length<=1000/\y.length<=1000/\(Str.ofString (toString i)).length<=1000)
  (hd:(n==("__debug__" :Str))=false:=by decide):PE X (.JoinedStr [.Constant (.str x) k1 p1,.FormattedValue (.Name n p2) (-1) none p3,.Constant (.str y) k2 p4] pos) (λ_ H Q=>∀ z,Q (.str z) H):=by
 intro pins s σ H Q I q
 obtain⟨t,rfl⟩:=r
 have hl:∀ a b:Str,(a++b).length=a.length+b.length:=strLen_append
 have he:Str.empty.length=0:=rfl
 refine wpAny_JoinedStr ?_
 refine PySem.wpAny_Constant_str ⟨x,_,rfl,by rw[hl,he,cF];omega,?_⟩
 refine wpAny_FormattedValue_plain (nO (I.tok _) hg hm (wpAny_formatField_int hi ⟨_,_,rfl,by rw[hl,hl,he,cF];omega,?_⟩) hd)
 refine PySem.wpAny_Constant_str ⟨y,_,rfl,by rw[hl,hl,hl,he,cF];omega,?_⟩
 refine⟨by rw[hl,hl,hl,he,cF];omega,⟨.str _,H,?_,⟨_,rfl⟩,q _⟩⟩
 exact I.tok _
end
section
variable {X:Cx}{K:PySem.W.Frag}
theorem lM (e:X.K=K):jC X (.type "list") (λxs H Q=>∃ p ys,xs = [.ref p]/\(SqL K H p ys\/SqT K H p ys)/\∀ l,H l=none->Q (.ref l) (upd H l (.lst ys))):=by subst e;exact gQ
theorem nk (e:X.K=K):jC X (.type "tuple") (λxs H Q=>∃ p ys,xs = [.ref p]/\((SqL K H p ys/\∀ l,H l=none->Q (.ref l) (upd H l (.tup ys)))\/(SqT K H p ys/\Q (.ref p) H))):=by subst e;exact fD
end
abbrev Ln:=Int×List (Int×Int)
structure i6 (l:Ln)(ns:List Int):Prop where
 ends:∀ e∈ns,0<=e/\e<2*l.1
 nd:(ns.map (· / 2)).Nodup
 ch:∀ (i:Nat) x y,ns[i]? = some x->ns[i+1]? = some y->y∈jn l.2 (oth x)
theorem xW {l:Ln}(ok:fC l){e x:Int} :x∈jn l.2 e↔(min e x,max e x)∈l.2:=by
 unfold jn
 rw[Cq,aC]
 constructor
 ·rintro(z |z)
  ·obtain⟨p,hp,rfl⟩:=ak.mp z
   obtain⟨h1,h2⟩:=cc.mp hp
   have h2:p.2=e:=by simpa using h2
   have:=ok.ends p h1
   have e1:(min e p.1,max e p.1)=p:=dR (by show min e p.1=p.1;omega) (by show max e p.1=p.2;omega)
   rw[e1];exact h1
  ·obtain⟨p,hp,rfl⟩:=ak.mp z
   obtain⟨h1,h2⟩:=cc.mp hp
   have h2:p.1=e:=by simpa using h2
   have:=ok.ends p h1
   have e1:(min e p.2,max e p.2)=p:=dR (by show min e p.2=p.1;omega) (by show max e p.2=p.2;omega)
   rw[e1];exact h1
 ·intro h
  by_cases hx:e<=x
  ·have e1:(min e x,max e x)=(e,x):=dR (by show min e x=e;omega) (by show max e x=x;omega)
   rw[e1]at h
   exact .inr (ak.mpr ⟨(e,x),cc.mpr ⟨h,by simp⟩,rfl⟩)
  ·have e1:(min e x,max e x)=(x,e):=dR (by show min e x=x;omega) (by show max e x=e;omega)
   rw[e1]at h
   exact .inl (ak.mpr ⟨(x,e),cc.mpr ⟨h,by simp⟩,rfl⟩)
theorem yW {l:Ln}(ok:fC l){e x:Int}(h:x∈jn l.2 e):e∈jn l.2 x:=by
 rw[xW ok]at h ⊢
 rw[show min x e=min e x by omega,show max x e=max e x by omega];exact h
theorem rZ {l:Ln}(ok:fC l){e x:Int}(h:x∈jn l.2 e):0<=x/\x<2*l.1:=by
 have:=ok.ends _ ((xW ok).mp h)
 dsimp only at this
 omega
theorem vz {l:Ln}{ns:List Int}{e x:Int}(h:x∈fr l ns e):x∈jn l.2 e/\x/2∉ns.map (· / 2):=by
 obtain⟨h1,h2⟩:=cc.mp h
 exact⟨h1,by simpa using h2⟩
theorem i6.on {l:Ln}{ns:List Int}{e:Int}(ok:fC l)(T:i6 l ns)(hne:ns≠ [])(he:e∈fr l ns (oth (ns.getLastD 0))):i6 l (ns.drop 1 ++ [e]):=by
 obtain⟨h1,h2⟩:=vz he
 have hl:1<=ns.length:=by cases ns with |nil=>exact absurd rfl hne |cons x r=>simp
 refine⟨λx hx=>?_,?_,λi x y hx hy=>?_⟩
 ·rcases aC.mp hx with z |z
  ·exact T.ends x (dD z)
  ·have z:x=e:=by simpa using z
   rw[z];exact rZ ok h1
 ·rw[ar,bC]
  refine⟨by rw[dB];exact T.nd.sublist (List.drop_sublist _ _),by simp,λa ha b hb z=>?_⟩
  have hb:b=e/2:=by simpa using hb
  rw[dB]at ha
  exact h2 (by rw[<-hb,<-z];exact dD ha)
 ·have ld:(ns.drop 1).length=ns.length-1:=bA
  by_cases hi:i+1<(ns.drop 1).length
  ·rw[aq hi,cz]at hy
   rw[aq (by omega),cz]at hx
   exact T.ch (1+i) x y hx (by rw[<-hy];congr 1)
  ·have hlt:=(ag.mp hy).1
   rw[ah,aQ]at hlt
   have e1:i+1=(ns.drop 1).length:=by omega
   rw[e1,az (ao _),br]at hy
   cases hy
   rw[aq (by omega),cz]at hx
   have e2:ns.getLastD 0=x:=by
    rw[d6,List.getLast?_eq_getElem?,show ns.length-1=1+i by omega,hx];rfl
   rw[e2]at h1
   exact h1
theorem i6.back {l:Ln}{ns:List Int}{e:Int}(ok:fC l)(T:i6 l ns)(hne:ns≠ [])(he:e∈fr l ns (ns.headD 0)):i6 l (oth e::ns.dropLast):=by
 obtain⟨h1,h2⟩:=vz he
 have hl:1<=ns.length:=by cases ns with |nil=>exact absurd rfl hne |cons x r=>simp
 refine⟨λx hx=>?_,?_,λi x y hx hy=>?_⟩
 ·rcases aG.mp hx with z |z
  ·rw[z]
   have:=rZ ok h1
   unfold oth
   omega
  ·exact T.ends x ((List.dropLast_sublist ns).subset z)
 ·rw[aR,bq]
  refine⟨λz=>h2 ?_,?_⟩
  ·rw[A5]at z
   have:=(List.dropLast_sublist ns).map (· / 2)
   exact this.subset z
  ·exact T.nd.sublist ((List.dropLast_sublist ns).map _)
 ·cases i with
  |zero=>
   cases hx
   have hy:ns.dropLast[0]? = some y:=hy
   rw[qO]
   have hy2:ns[0]? = some y:=by
    have:=(ag.mp hy).1
    rw[List.getElem?_dropLast]at hy
    split at hy
    ·exact hy
    ·cases hy
   have e2:ns.headD 0=y:=by cases ns with |nil=>cases hy2 |cons a r=>cases hy2;rfl
   rw[e2]at h1
   exact yW ok h1
  |succ j=>
   have hx:ns.dropLast[j]? = some x:=hx
   have hy:ns.dropLast[j+1]? = some y:=hy
   rw[List.getElem?_dropLast]at hx hy
   split at hx
   ·split at hy
    ·exact T.ch j x y hx hy
    ·cases hy
   ·cases hx
theorem Bg {l:Ln}{ns:List Int}{m:Mv}(ok:fC l)(T:i6 l ns)(hne:ns≠ [])(hm:m∈mvs l ns):i6 l m.2/\m.2.length=ns.length/\m.2≠ []:=by
 have hl:1<=ns.length:=by cases ns with |nil=>exact absurd rfl hne |cons x r=>simp
 rcases aC.mp hm with z |z
 ·obtain⟨e,he,rfl⟩:=ak.mp z
  refine⟨T.on ok hne he,?_,λe=>?_⟩
  ·simp only[onM,ah,bA,aO,List.length_nil];omega
  ·simp[onM]at e
 ·obtain⟨e,he,rfl⟩:=ak.mp z
  refine⟨T.back ok hne he,?_,λe=>?_⟩
  ·simp only[sI,aO,cM];omega
  ·simp[sI]at e
theorem rX {α:Type} [DecidableEq α]:∀ {l1 l2:List α},l1.Nodup->(∀ x∈l1,x∈l2)->l1.length<=l2.length
 |[],_,_,_=>aH _
 |x::r,l2,nd,h=>by
  rw[bq]at nd
  have hx:=h x aB
  have:=rX (l1:=r) (l2:=l2.erase x) nd.2 λy hy=>by
   have:y≠x:=λz=>nd.1 (by rw[<-z];exact hy)
   exact(dE this).mpr (h y (ax _ hy))
  rw[cW hx]at this
  have h1:1<=l2.length:=by cases l2 with |nil=>cases hx |cons a b=>simp
  rw[aO]
  omega
def yj (l:Ln):List (Int×Int):=l.2.map (λp=>(oth p.1,p.2))++l.2.map λp=>(oth p.2,p.1)
def BR (l:Ln):List Int:=(List.range (2*l.1).toNat).map λi:Nat=>(i:Int)
def vE (l:Ln):Nat->List (List Int)
 | 0=>[[]]
 | 1=>(BR l).map λe=>[e]
 |n+2=>(yj l).flatMap λp=>(vE l n).map λr=>p.1::p.2::r
theorem C9 {l:Ln}(ok:fC l){x y:Int}(h:y∈jn l.2 (oth x)):(x,y)∈yj l:=by
 have h:=(xW ok).mp h
 unfold yj
 rw[aC]
 by_cases hc:oth x<=y
 ·rw[show min (oth x) y=oth x by omega,show max (oth x) y=y by omega]at h
  exact .inl (ak.mpr ⟨_,h,by rw[qO]⟩)
 ·rw[show min (oth x) y=y by omega,show max (oth x) y=oth x by omega]at h
  exact .inr (ak.mpr ⟨_,h,by rw[qO]⟩)
theorem xg {l:Ln}(ok:fC l):∀ (n:Nat) (ns:List Int),ns.length=n->(∀ e∈ns,0<=e/\e<2*l.1)->(∀ (i:Nat) x y,ns[i]? = some x->ns[i+1]? = some y->y∈jn l.2 (oth x))->ns∈vE l n
 | 0,ns,hl,_,_=>by rw[List.eq_nil_of_length_eq_zero hl];exact aB
 | 1,[e],_,he,_=>by
  have:=he e aB
  refine ak.mpr ⟨e,ak.mpr ⟨e.toNat,by rw[bJ];omega,by omega⟩,rfl⟩
 |n+2,x::y::r,hl,he,hc=>by
  refine List.mem_flatMap.mpr ⟨(x,y),C9 ok (hc 0 x y rfl rfl),ak.mpr ⟨r,xg ok n r (by simpa using hl) (λe h=>he e (ax _ (ax _ h))) (λi a b ha hb=>hc (i+2) a b ha hb),rfl⟩⟩
theorem xh {l:Ln}(ok:fC l):∀ n,(vE l n).length<=160 ^ ((n+1)/2)
 | 0=>by simp[vE]
 | 1=>by
  simp only[vE,BR,aa,cH]
  have:=ok.most
  omega
 |n+2=>by
  have ih:=xh ok n
  simp only[vE]
  rw[List.length_flatMap]
  have e1:(yj l).map (λa=>((vE l n).map λr=>a.1::a.2::r).length)=(yj l).map λ_=>(vE l n).length:=by
   refine List.map_congr_left λa _=>by rw[aa]
  rw[e1,List.map_const',List.sum_replicate_nat]
  have h1:(yj l).length<=160:=by
   unfold yj
   rw[ah,aa,aa]
   have:=ok.len
   omega
  have e2:(n+2+1)/2=(n+1)/2+1:=by omega
  rw[e2,dt,Nat.mul_comm (160 ^ _)]
  exact Nat.mul_le_mul h1 ih
theorem xu {l:Ln}(ok:fC l){n:Nat}(hn:n<=6){ts:List (List Int)}(nd:ts.Nodup)(h:∀ t∈ts,i6 l t/\t.length=n):ts.length<=4096000:=by
 have h1:=rX nd (l2:=vE l n) λt ht=>xg ok n t (h t ht).2 (h t ht).1.ends (h t ht).1.ch
 have h2:=xh ok n
 have h3:160 ^ ((n+1)/2)<=160 ^ 3:=cL (by decide) (by omega)
 have h4:160 ^ 3=4096000:=by decide
 omega
abbrev Ent:=List Int×Option (List Int×(Str×Int))
def mG (t:List Int)(o:List Ent)(m:Mv):List Ent:=if m.2∈o.map (·.1)then o else o ++ [(m.2,some (t,m.1))]
def fW (t:List Int)(ms:List Mv)(o:List Ent):List Ent:=ms.foldl (mG t) o
def fb (l:Ln)(ns:List Int):Nat->List Ent
 | 0=>[(ns,none)]
 |i+1=>match (fb l ns i)[i]? with
  |some e=>fW e.1 (mvs l e.1) (fb l ns i)
  |none=>fb l ns i
theorem xo (t:List Int)(o:List Ent)(m:Mv):o <+:mG t o m:=by
 unfold mG
 split
 ·exact List.prefix_rfl
 ·exact cy _ _
theorem nF (t:List Int)(ms:List Mv):∀ o,o <+:fW t ms o:=by
 induction ms with
 |nil=>exact λo=>List.prefix_rfl
 |cons m r ih=>exact λo=>(xo t o m).trans (ih _)
theorem rA {t:List Int}{ms:List Mv}{o:List Ent}{j:Nat}{m:Mv}(h:ms[j]? = some m):fW t (ms.take (j+1)) o=mG t (fW t (ms.take j) o) m:=by
 unfold fW
 rw[aV,h,cI];rfl
theorem mK {t:List Int}(ms:List Mv)(o:List Ent)(j:Nat):fW t (ms.take j) o <+:fW t ms o:=by
 have:fW t ms o=fW t (ms.drop j) (fW t (ms.take j) o):=by
  unfold fW
  rw[<-cI,cD]
 rw[this]
 exact nF _ _ _
theorem lQ {l:Ln}{ns:List Int}{i:Nat}{e:Ent}(h:(fb l ns i)[i]? = some e):fb l ns (i+1)=fW e.1 (mvs l e.1) (fb l ns i):=by
 rw[fb,h]
theorem nE (l:Ln)(ns:List Int)(i:Nat):fb l ns i <+:fb l ns (i+1):=by
 rw[fb]
 split
 ·exact nF _ _ _
 ·exact List.prefix_rfl
theorem qU (l:Ln)(ns:List Int)(i:Nat):∀ k,fb l ns i <+:fb l ns (i+k)
 | 0=>List.prefix_rfl
 |k+1=>(qU l ns i k).trans (nE l ns (i+k))
theorem nC {l:Ln}{ns:List Int}{i:Nat}(h:(fb l ns i).length<=i):∀ k,fb l ns (i+k)=fb l ns i
 | 0=>rfl
 |k+1=>by
  have ih:=nC h k
  have:(fb l ns (i+k))[i+k]? = none:=bg (by rw[ih];omega)
  show fb l ns (i+k+1)=_
  rw[fb,this]
  exact ih
structure nz (l:Ln)(ns:List Int)(es:List Ent):Prop where
 tr:∀ e∈es,i6 l e.1/\e.1.length=ns.length/\e.1≠ []
 nd:(es.map (·.1)).Nodup
 ne:es≠ []
theorem nz.add {l:Ln}{ns t:List Int}{es:List Ent}{m:Mv}(ok:fC l)(h:nz l ns es)(hm:m∈mvs l t)(ht:i6 l t/\t.length=ns.length/\t≠ []):nz l ns (mG t es m):=by
 unfold mG
 split
 ·exact h
 ·rename_i hn
  obtain⟨h1,h2,h3⟩:=Bg ok ht.1 ht.2.2 hm
  refine⟨λe he=>?_,?_,by simp⟩
  ·rcases aC.mp he with z |z
   ·exact h.tr e z
   ·have z:e=(m.2,some (t,m.1)):=by simpa using z
    rw[z];exact⟨h1,by show m.2.length=ns.length;omega,h3⟩
  ·rw[ar,bC]
   refine⟨h.nd,by simp,λa ha b hb z=>?_⟩
   have hb:b=m.2:=by simpa using hb
   exact hn (by rw[<-hb,<-z];exact ha)
theorem nz.scan {l:Ln}{ns t:List Int}(ok:fC l)(ht:i6 l t/\t.length=ns.length/\t≠ []):∀ {ms:List Mv}{es:List Ent},(∀ m∈ms,m∈mvs l t)->nz l ns es->nz l ns (fW t ms es)
 |[],_,_,h=>h
 |m::r,es,hm,h=>nz.scan (ms:=r) ok ht (λx hx=>hm x (ax _ hx)) (h.add ok (hm m aB) ht)
theorem jm {l:Ln}{ns:List Int}(ok:fC l)(T:i6 l ns)(hne:ns≠ []):∀ i,nz l ns (fb l ns i)
 | 0=>⟨λe he=>by have z:e=(ns,none):=(by simpa [fb]using he);rw[z];exact⟨T,rfl,hne⟩,by simp[fb],by simp[fb]⟩
 |i+1=>by
  have ih:=jm ok T hne i
  rw[fb]
  split
  ·rename_i e he
   exact nz.scan ok (ih.tr e (aw he)) (λm hm=>hm) ih
  ·exact ih
theorem nz.len {l:Ln}{ns:List Int}{es:List Ent}(ok:fC l)(h:nz l ns es)(hn:ns.length<=6):es.length<=4096000:=by
 have:=xu ok hn h.nd λt ht=>by
  obtain⟨e,he,rfl⟩:=ak.mp ht
  exact⟨(h.tr e he).1,(h.tr e he).2.1⟩
 rw[aa]at this
 exact this
def okJ (m:Int)(p:Int×Int):Prop:=(0<=p.1/\p.1<2*m)/\(0<=p.2/\p.2<2*m)/\p.1<=p.2/\p.1/2≠p.2/2
structure pF (l:Ln):Prop where
 one:1<=l.1
 most:l.1<=14
 len:l.2.length<=24
 ok:∀ p∈l.2,okJ l.1 p
 nd:l.2.Nodup
theorem pF.Et {l:Ln}(G:pF l):fC l:=by
 have h1:=G.len
 refine⟨G.one,by have:=G.most;omega,by omega,λe=>?_,λp hp=>?_⟩
 ·have:=inc_le l.2 e;omega
 ·obtain⟨a,b,c,_⟩:=G.ok p hp
  exact⟨a.1,c,b.2⟩
structure Ren (m:Int)(nm es:List Int):Prop where
 len:(nm.length:Int)=m
 nb:∀ x∈nm,0<=x/\x<m
 nd:nm.Nodup
 Aj:es.length=2*nm.length
 at_:∀ j,j<nm.length->∃ f:Int,(f=0\/f=1)/\es[2*j]? = some (2*nm.getD j 0+f)/\es[2*j+1]? = some (2*nm.getD j 0+1-f)
def rho (es:List Int)(e:Int):Int:=es.getD e.toNat 0
def rj (es:List Int)(p:Int×Int):Int×Int:=(min (rho es p.1) (rho es p.2),max (rho es p.1) (rho es p.2))
theorem Ren.rho {m:Int}{nm es:List Int}(R:Ren m nm es){e:Int}(h0:0<=e)(h1:e<2*m):
  ∃ f:Int,(f=0\/f=1)/\TL.rho es e=2*nm.getD (e/2).toNat 0+(if e%2=0 then f else 1-f)/\
   ∀ e',0<=e'->e'/2=e/2->TL.rho es e'=2*nm.getD (e/2).toNat 0+(if e'%2=0 then f else 1-f):=by
 have hl:=R.len
 obtain⟨f,hf,e1,e2⟩:=R.at_ (e/2).toNat (by omega)
 have key:∀ e',0<=e'->e'/2=e/2->TL.rho es e'=2*nm.getD (e/2).toNat 0+(if e'%2=0 then f else 1-f):=λe' h2 h3=>by
  unfold TL.rho
  by_cases c:e'%2=0
  ·rw[aJ c,aE,show e'.toNat=2*(e/2).toNat by omega,e1];rfl
  ·rw[aF c,aE,show e'.toNat=2*(e/2).toNat+1 by omega,e2]
   show 2*nm.getD (e/2).toNat 0+1-f=_
   omega
 exact⟨f,hf,key e h0 rfl,key⟩
theorem Ren.yC {m:Int}{nm es:List Int}(R:Ren m nm es){e:Int}(h0:0<=e)(h1:e<2*m):TL.rho es e/2=nm.getD (e/2).toNat 0:=by
 obtain⟨f,hf,e1,_⟩:=R.rho h0 h1
 rw[e1]
 split<;>omega
theorem Ren.F4 {m:Int}{nm es:List Int}(R:Ren m nm es){p:Int}(h0:0<=p)(h1:p<m):0<=nm.getD p.toNat 0/\nm.getD p.toNat 0<m:=by
 have hl:=R.len
 have h2:p.toNat<nm.length:=by omega
 have:nm.getD p.toNat 0=nm[p.toNat]:=by rw[aE,af h2];rfl
 rw[this]
 exact R.nb _ (dA h2)
theorem Ren.Bb {m:Int}{nm es:List Int}(R:Ren m nm es){p q:Int}(h0:0<=p)(h1:p<m)(g0:0<=q)(g1:q<m)(e:nm.getD p.toNat 0=nm.getD q.toNat 0):p=q:=by
 have hl:=R.len
 have h2:p.toNat<nm.length:=by omega
 have h3:q.toNat<nm.length:=by omega
 have e1:nm.getD p.toNat 0=nm[p.toNat]:=by rw[aE,af h2];rfl
 have e2:nm.getD q.toNat 0=nm[q.toNat]:=by rw[aE,af h3];rfl
 rw[e1,e2]at e
 have:=(eu R.nd).mp e
 omega
theorem Ren.AL {m:Int}{nm es:List Int}(R:Ren m nm es){e:Int}(h0:0<=e)(h1:e<2*m):0<=TL.rho es e/\TL.rho es e<2*m:=by
 obtain⟨f,hf,e1,_⟩:=R.rho h0 h1
 have:=R.F4 (p:=e/2) (by omega) (by omega)
 rw[e1]
 split<;>omega
theorem Ren.inj {m:Int}{nm es:List Int}(R:Ren m nm es){e e':Int}(h0:0<=e)(h1:e<2*m)(g0:0<=e')(g1:e'<2*m)(h:TL.rho es e=TL.rho es e'):e=e':=by
 have hp:e/2=e'/2:=by
  have a:=R.yC h0 h1
  have b:=R.yC g0 g1
  rw[h,b]at a
  exact(R.Bb (by omega) (by omega) (by omega) (by omega) a).symm
 obtain⟨f,hf,e1,e2⟩:=R.rho h0 h1
 rw[e1,e2 e' g0 hp.symm]at h
 by_cases c:e%2=0<;>by_cases d:e'%2=0
 ·omega
 ·rw[aJ c,aF d]at h;omega
 ·rw[aF c,aJ d]at h;omega
 ·omega
theorem Ren.okJ {m:Int}{nm es:List Int}(R:Ren m nm es){p:Int×Int}(h:TL.okJ m p):TL.okJ m (rj es p):=by
 obtain⟨⟨a0,a1⟩,⟨b0,b1⟩,le,ne⟩:=h
 have ha:=R.AL a0 a1
 have hb:=R.AL b0 b1
 have pa:=R.yC a0 a1
 have pb:=R.yC b0 b1
 have hne:TL.rho es p.1/2≠TL.rho es p.2/2:=λz=>by
  rw[pa,pb]at z
  exact ne (R.Bb (by omega) (by omega) (by omega) (by omega) z)
 unfold TL.okJ rj
 dsimp only
 generalize TL.rho es p.1=x at *
 generalize TL.rho es p.2=y at *
 refine⟨by omega,by omega,by omega,λz=>?_⟩
 by_cases c:x<=y
 ·rw[cZ c,cP c]at z;exact hne z
 ·rw[cO (by omega),de (by omega)]at z;exact hne z.symm
theorem okJ.lt {m:Int}{p:Int×Int}(h:okJ m p):p.1<p.2:=by
 obtain⟨_,_,le,ne⟩:=h
 by_cases c:p.1=p.2
 ·rw[c]at ne;exact absurd rfl ne
 ·omega
theorem Ga {a b c d:Int}(h1:min a b=min c d)(h2:max a b=max c d):(a=c/\b=d)\/(a=d/\b=c):=by
 rcases Int.le_total a b with x |x<;>rcases Int.le_total c d with y |y
 ·rw[cZ x,cZ y]at h1;rw[cP x,cP y]at h2;exact .inl ⟨h1,h2⟩
 ·rw[cZ x,cO y]at h1;rw[cP x,de y]at h2;exact .inr ⟨h1,h2⟩
 ·rw[cO x,cZ y]at h1;rw[de x,cP y]at h2;exact .inr ⟨h2,h1⟩
 ·rw[cO x,cO y]at h1;rw[de x,de y]at h2;exact .inl ⟨h2,h1⟩
theorem Ren.DW {m:Int}{nm es:List Int}(R:Ren m nm es){p q:Int×Int}(hp:TL.okJ m p)(hq:TL.okJ m q)(e:rj es p=rj es q):p=q:=by
 obtain⟨⟨a0,a1⟩,⟨b0,b1⟩,le,ne⟩:=id hp
 obtain⟨⟨c0,c1⟩,⟨d0,d1⟩,le',ne'⟩:=id hq
 have l1:=hp.lt
 have l2:=hq.lt
 unfold rj at e
 rw[Prod.mk.injEq]at e
 obtain⟨e1,e2⟩:=e
 obtain⟨pa,pb⟩:=p
 obtain⟨qa,qb⟩:=q
 dsimp only at *
 have hor:=Ga e1 e2
 rcases hor with⟨x,y⟩|⟨x,y⟩
 ·rw[R.inj a0 a1 c0 c1 x,R.inj b0 b1 d0 d1 y]
 ·have:=R.inj a0 a1 d0 d1 x
  have:=R.inj b0 b1 c0 c1 y
  omega
theorem Ren.line {m:Int}{nm es:List Int}(R:Ren m nm es){js js':List (Int×Int)}(G:pF (m,js))(hp:js'.Perm (js.map (rj es))):pF (m,js'):=by
 refine⟨G.one,G.most,?_,λp h=>?_,?_⟩
 ·have:=hp.length_eq
  rw[aa]at this
  show js'.length<=24
  have:=G.len
  dsimp only at this
  omega
 ·obtain⟨q,hq,rfl⟩:=ak.mp (hp.mem_iff.mp h)
  exact R.okJ (G.ok q hq)
 ·refine hp.nodup_iff.mpr ?_
  rw[List.Nodup,cG]
  exact cX (λ{a b} ha hb hab z=>hab (R.DW (G.ok a ha) (G.ok b hb) z)) G.nd
def M6 (K:PySem.W.Frag)(H:Hp)(Q:VK):Prop:=∀ (v:V) (l:Ln) (H':Hp),eQ H H'->Da K H' (dL l) v->pF l->Q v H'
end TL
namespace TL
theorem yd {m:Int}{js:List (Int×Int)}{a b:Int}(G:pF (m,js))(ne:a/2≠b/2)(a0:0<=a)(a1:a<2*m)(b0:0<=b)(b1:b<2*m)(hn:(min a b,max a b)∉js)(hl:js.length<24):pF (m,js ++ [(min a b,max a b)]):=by
 refine⟨G.one,G.most,?_,λp hp=>?_,?_⟩
 ·show(js ++ [(min a b,max a b)]).length<=24
  rw[ah];show js.length+1<=24;omega
 ·rcases aC.mp hp with z |z
  ·exact G.ok p z
  ·have z:p=(min a b,max a b):=by simpa using z
   subst z
   unfold okJ
   dsimp only
   refine⟨by omega,by omega,by omega,λz=>?_⟩
   by_cases c:a<=b
   ·rw[cZ c,cP c]at z;exact ne z
   ·rw[cO (by omega),de (by omega)]at z;exact ne z.symm
 ·refine bC.mpr ⟨G.nd,by simp,λx hx y hy=>?_⟩
  have hy:y=(min a b,max a b):=by simpa using hy
  rw[hy]
  exact λz=>hn (z ▸ hx)
open PySem PySem.Spec PyProof.Rows L2
section
variable {prog:Program}{w:World}{A:Around}{E:Value->Shared->Prop}{s:Shared}{l b:Addr}{items KI:Array Value}{n n2:Nat}
end
section
variable {X:Cx}
end
abbrev TF:=St->Hp->Str->(Str->Hp->Prop)->Prop
section
variable {X:Cx}{e:Expr}{es:List Expr}{te:TE}{tf:TF}{pos:Pos}
end
section
variable {X:Cx}
end
section
variable {prog:Program}{w:World}{A:Around}{E:Value->Shared->Prop}{s:Shared}
end
section
variable {X:Cx}{pos:Pos}
end
section
variable {prog:Program}{w:World}{A:Around}{E:Value->Shared->Prop}{s:Shared}
end
section
variable {X:Cx}{pos:Pos}
end
section
variable {X:Cx}
end
section
variable {X:Cx}{tg e:Expr}{te:TE}
end
end TL
namespace TS
open PySem
def lcg:Nat->Nat->Nat
 | 0,x=>x
 |d+1,x=>5*lcg d x+1
theorem vd (d:Nat):∀ e x,lcg (e+d) x=lcg e (lcg d x)
 | 0,x=>by rw[Nat.zero_add];rfl
 |e+1,x=>by rw[Nat.add_right_comm];show 5*lcg (e+d) x+1=5*lcg e (lcg d x)+1;rw[vd d e x]
theorem yN:∀ k,∃ q,q%2=1/\∀ x,lcg (2 ^ k) x=x+2 ^ k*q*(4*x+1)
 | 0=>⟨1,rfl,λx=>by show 5*x+1=_;omega⟩
 |k+1=>by
  obtain⟨q,hq,h⟩:=yN k
  refine⟨q*(1+2*2 ^ k*q),?_,λx=>?_⟩
  ·have e:q*(1+2*2 ^ k*q)=q+2*(q*2 ^ k*q):=by
    rw[Nat.mul_add,Nat.mul_one,bW 2,Nat.mul_left_comm q 2,bW q]
   rw[e,Nat.add_mul_mod_self_left];exact hq
  ·rw[dt,Nat.mul_two,vd,h x,h]
   generalize 2 ^ k=p
   have e:∀ y,p*q*(4*(x+y)+1)=p*q*(4*x+1)+4*(p*q*y):=λy=>by
    rw[show 4*(x+y)+1=(4*x+1)+4*y by omega,Nat.mul_add,Nat.mul_left_comm (p*q) 4 y]
   rw[e]
   have e2:(p+p)*(q*(1+2*p*q))*(4*x+1)=2*(p*q*(4*x+1))+4*(p*q*(p*q*(4*x+1))):=by
    have a1:(p+p)*(q*(1+2*p*q))=2*(p*q)+4*(p*q*(p*q)):=by
     rw[<-Nat.two_mul,bW,<-bW p q,Nat.mul_add,Nat.mul_one,Nat.mul_add]
     congr 1
     rw[bW 2 p q,Nat.mul_left_comm (p*q) 2,<-bW]
    rw[a1,Nat.add_mul,bW 2,bW 4,bW (p*q)]
   rw[e2]
   omega
theorem yO:∀ k x y,∃ d,d<2 ^ k/\lcg d x%2 ^ k=y%2 ^ k
 | 0,x,y=>⟨0,Nat.one_pos,by simp[Nat.mod_one]⟩
 |k+1,x,y=>by
  obtain⟨d,hd,e⟩:=yO k x y
  have hp:0<2 ^ k:=Nat.two_pow_pos k
  have h2:2 ^ (k+1)=2 ^ k*2:=dt ..
  obtain⟨q,hq,h⟩:=yN k
  have split:∀ a,a%(2 ^ k*2)=a%2 ^ k+2 ^ k*(a/2 ^ k%2):=λa=>Nat.mod_mul
  by_cases c:lcg d x/2 ^ k%2=y/2 ^ k%2
  ·exact⟨d,by omega,by rw[h2,split,split,e,c]⟩
  ·refine⟨2 ^ k+d,by omega,?_⟩
   rw[vd,h,h2,split,split]
   generalize hz:lcg d x=z at *
   have h4:(q*(4*z+1))%2=1:=by
    rw[Nat.mul_mod,hq,show(4*z+1)%2=1 by omega]
   have e1:(z+2 ^ k*q*(4*z+1))%2 ^ k=z%2 ^ k:=by rw[bW,Nat.add_mul_mod_self_left]
   have e2:(z+2 ^ k*q*(4*z+1))/2 ^ k=z/2 ^ k+q*(4*z+1):=by rw[bW,Nat.add_mul_div_left _ _ hp]
   rw[e1,e2,e]
   congr 2
   have:=Nat.mod_two_eq_zero_or_one (z/2 ^ k)
   have:=Nat.mod_two_eq_zero_or_one (y/2 ^ k)
   omega
open SetTable
def adv (mask:Nat)(p:Probe):Probe:=
 if p.more>0 then {p with j:=p.j+1,more:=p.more-1} else
 {p with j:=(leap mask p.i p.perturb).1,more:=runEnd mask (leap mask p.i p.perturb).1-(leap mask p.i p.perturb).1,i:=(leap mask p.i p.perturb).1,perturb:=(leap mask p.i p.perturb).2}
theorem B6 (t:SetTable)(p:Probe):t.advance p=adv t.mask p:=by unfold advance adv;split<;>rfl
def pAt (mask:Nat)(h:Int):Nat->Probe
 | 0=>{j:=bits h%(mask+1),more:=runEnd mask (bits h%(mask+1))-bits h%(mask+1),i:=bits h%(mask+1),perturb:=bits h,dummy:=none}
 |n+1=>adv mask (pAt mask h n)
theorem tW (mask:Nat)(h:Int):∀ n,(pAt mask h n).dummy=none
 | 0=>rfl
 |n+1=>by
  show(adv mask (pAt mask h n)).dummy=none
  unfold adv
  split<;>exact tW mask h n
def lpI (mask:Nat)(h:Int):Nat->Nat×Nat
 | 0=>(bits h%(mask+1),bits h)
 |r+1=>leap mask (lpI mask h r).1 (lpI mask h r).2
def lpT (mask:Nat)(h:Int):Nat->Nat
 | 0=>0
 |r+1=>lpT mask h r+(runEnd mask (lpI mask h r).1-(lpI mask h r).1)+1
theorem tN (mask i:Nat):i<=runEnd mask i:=by unfold runEnd;split<;>omega
theorem zF (mask i:Nat):runEnd mask i<=i+9:=by unfold runEnd;split<;>omega
theorem qu {mask i:Nat}(h:i<=mask):runEnd mask i<=mask:=by unfold runEnd;split<;>omega
theorem mQ (mask:Nat)(h:Int):∀ r d,d<=runEnd mask (lpI mask h r).1-(lpI mask h r).1->
  pAt mask h (lpT mask h r+d) = {j:=(lpI mask h r).1+d,more:=runEnd mask (lpI mask h r).1-(lpI mask h r).1-d,i:=(lpI mask h r).1,perturb:=(lpI mask h r).2,dummy:=none}
 | 0,0,_=>rfl
 |r+1,0,_=>by
  have ih:=mQ mask h r _ (ao _)
  show pAt mask h (lpT mask h r+(runEnd mask (lpI mask h r).1-(lpI mask h r).1)+1)=_
  show adv mask (pAt mask h (lpT mask h r+(runEnd mask (lpI mask h r).1-(lpI mask h r).1)))=_
  rw[ih]
  unfold adv
  simp only[br,gt_iff_lt,cC,bF]
  rfl
 |r,d+1,hd=>by
  have ih:=mQ mask h r d (by omega)
  show adv mask (pAt mask h (lpT mask h r+d))=_
  rw[ih]
  unfold adv
  rw[aJ (by show _>0;simp only;omega)]
  simp only[Probe.mk.injEq,and_true,true_and]
  omega
theorem xT (mask:Nat)(h:Int):∀ r,(lpI mask h r).1<=mask
 | 0=>Nat.le_of_lt_succ (Nat.mod_lt (bits h) (Nat.succ_pos mask))
 |r+1=>Nat.le_of_lt_succ (Nat.mod_lt ((lpI mask h r).1*5+1+(lpI mask h r).2/32) (Nat.succ_pos mask))
theorem C8 (h:Int):bits h<2 ^ 64:=by unfold bits;omega
theorem wA (mask:Nat)(h:Int):∀ r,(lpI mask h r).2=bits h/32 ^ r
 | 0=>by simp[lpI]
 |r+1=>by
  show(lpI mask h r).2/32=_
  rw[wA mask h r,Nat.div_div_eq_div_mul,dt]
theorem Br (mask:Nat)(h:Int){r:Nat}(hr:13<=r):(lpI mask h r).2=0:=by
 rw[wA]
 have h1:=C8 h
 have h2:32 ^ 13<=32 ^ r:=cL (by decide) hr
 exact Nat.div_eq_of_lt (aU h1 (bj (by decide) h2))
theorem yL (mask:Nat)(h:Int){s:Nat}(hs:13<=s):∀ d,(lpI mask h (s+d)).1=lcg d (lpI mask h s).1%(mask+1)
 | 0=>by show(lpI mask h s).1=(lpI mask h s).1%(mask+1);rw[Nat.mod_eq_of_lt (Nat.lt_succ_of_le (xT mask h s))]
 |d+1=>by
  have ih:=yL mask h hs d
  show((lpI mask h (s+d)).1*5+1+(lpI mask h (s+d)).2/32)%(mask+1)=(5*lcg d (lpI mask h s).1+1)%(mask+1)
  rw[Br mask h (by omega),ih,Nat.zero_div,Nat.add_zero,Nat.mul_comm _ 5,Nat.add_mod,Nat.mul_mod_mod,<-Nat.add_mod]
theorem yM {mask k:Nat}(hk:mask+1=2 ^ k)(h:Int)(r0:Nat){j:Nat}(hj:j<=mask):∃ r,r0+1<=r/\r<=r0+mask+14/\(lpI mask h r).1=j:=by
 obtain⟨s,h1,h2,h3⟩:∃ s,13<=s/\r0+1<=s/\s<=r0+14:=by
  by_cases c:13<=r0+1
  ·exact⟨r0+1,c,by omega,by omega⟩
  ·exact⟨13,by omega,by omega,by omega⟩
 obtain⟨d,hd,e⟩:=yO k (lpI mask h s).1 j
 refine⟨s+d,by omega,by omega,?_⟩
 rw[yL mask h h1,hk,e,Nat.mod_eq_of_lt (by omega)]
theorem Bq (mask:Nat)(h:Int)(r:Nat):∀ e,lpT mask h (r+e)<=lpT mask h r+10*e
 | 0=>ao _
 |e+1=>by
  have:=Bq mask h r e
  have h2:=zF mask (lpI mask h (r+e)).1
  show lpT mask h (r+e)+(runEnd mask (lpI mask h (r+e)).1-(lpI mask h (r+e)).1)+1<=_
  omega
theorem vc (mask:Nat)(h:Int)(r:Nat):lpT mask h r<lpT mask h (r+1):=by
 show _<lpT mask h r+(runEnd mask (lpI mask h r).1-(lpI mask h r).1)+1
 omega
theorem wz (mask:Nat)(h:Int)(r:Nat):∀ e,lpT mask h r<=lpT mask h (r+e)
 | 0=>ao _
 |e+1=>bj (wz mask h r e) (bE (vc mask h (r+e)))
theorem rT (mask:Nat)(h:Int):∀ n,∃ r,lpT mask h r<=n/\n<lpT mask h (r+1)
 | 0=>⟨0,ao _,vc mask h 0⟩
 |n+1=>by
  obtain⟨r,h1,h2⟩:=rT mask h n
  by_cases c:n+1<lpT mask h (r+1)
  ·exact⟨r,by omega,c⟩
  ·exact⟨r+1,by omega,by have:=vc mask h (r+1);omega⟩
theorem yH {mask k:Nat}(hk:mask+1=2 ^ k)(h:Int)(n:Nat){j:Nat}(hj:j<=mask):∃ m,n<=m/\m<n+10*turns mask/\(pAt mask h m).j=j:=by
 obtain⟨r0,h1,h2⟩:=rT mask h n
 obtain⟨r,h3,h4,e⟩:=yM hk h r0 hj
 refine⟨lpT mask h r,?_,?_,?_⟩
 ·obtain⟨x,rfl⟩:∃ x,r=r0+1+x:=⟨r-(r0+1),by omega⟩
  have:=wz mask h (r0+1) x
  omega
 ·obtain⟨x,rfl⟩:∃ x,r=r0+x:=⟨r-r0,by omega⟩
  have:=Bq mask h r0 x
  unfold turns
  omega
 ·have:=mQ mask h r 0 (aH _)
  rw[Nat.add_zero]at this
  rw[this]
  simpa using e
theorem Eg (mask:Nat)(h:Int)(n:Nat):(pAt mask h n).j<=mask:=by
 obtain⟨r,h1,h2⟩:=rT mask h n
 have h3:=qu (xT mask h r)
 have h4:=mQ mask h r (n-lpT mask h r) (by
  have:n<lpT mask h r+(runEnd mask (lpI mask h r).1-(lpI mask h r).1)+1:=h2
  omega)
 rw[show lpT mask h r+(n-lpT mask h r)=n by omega]at h4
 rw[h4]
 have:n<lpT mask h r+(runEnd mask (lpI mask h r).1-(lpI mask h r).1)+1:=h2
 have h5:=tN mask (lpI mask h r).1
 show(lpI mask h r).1+(n-lpT mask h r)<=mask
 omega
open SetTable
theorem sH {xs:Array Nat}{j:Nat}(hs:xs.toList.Pairwise (· < ·)):∀ fuel lo hi,hi-lo<=fuel->lo<=hi->hi<=xs.size->(∀ i (h:i<xs.size),i<lo->xs[i]<j)->(∀ i (h:i<xs.size),hi<=i->j<=xs[i])->
  below.go xs j fuel lo hi<=xs.size/\(∀ i (h:i<xs.size),i<below.go xs j fuel lo hi->xs[i]<j)/\(∀ i (h:i<xs.size),below.go xs j fuel lo hi<=i->j<=xs[i])
 | 0,lo,hi,h1,h2,h3,h4,h5=>by
  have:lo=hi:=by omega
  subst this
  exact⟨h3,h4,h5⟩
 |fuel+1,lo,hi,h1,h2,h3,h4,h5=>by
  unfold below.go
  by_cases c:lo<hi
  ·rw[aJ c]
   dsimp only
   have hm:(lo+hi)/2<xs.size:=by omega
   have e:xs.getD ((lo+hi)/2) j=xs[(lo+hi)/2]:=by simp[Array.getD,hm]
   have mono:∀ a b (ha:a<xs.size) (hb:b<xs.size),a<b->xs[a]<xs[b]:=λa b ha hb hab=>by
    have:=cR.mp hs a b (by simpa using ha) (by simpa using hb) hab
    simpa using this
   rw[e]
   by_cases d:xs[(lo+hi)/2]<j
   ·rw[aJ d]
    refine sH hs fuel _ _ (by omega) (by omega) h3 (λi h hi'=>?_) h5
    by_cases q:i=(lo+hi)/2
    ·subst q;exact d
    ·exact Nat.lt_trans (mono i _ h hm (by omega)) d
   ·rw[aF d]
    refine sH hs fuel _ _ (by omega) (by omega) (by omega) h4 (λi h hi'=>?_)
    by_cases q:i=(lo+hi)/2
    ·subst q;omega
    ·have:=mono _ i hm h (by omega);omega
  ·rw[aF c]
   have:lo=hi:=by omega
   subst this
   exact⟨h3,h4,h5⟩
theorem mz {xs:Array Nat}(hs:xs.toList.Pairwise (· < ·))(j:Nat):
  below xs j<=xs.size/\(∀ i (h:i<xs.size),i<below xs j->xs[i]<j)/\(∀ i (h:i<xs.size),below xs j<=i->j<=xs[i]):=
 sH hs xs.size 0 xs.size (by omega) (by omega) (ao _) (λi h c=>by omega) λi h c=>by omega
theorem below_at {xs:Array Nat}(hs:xs.toList.Pairwise (· < ·)){i j:Nat}(h:xs[i]? = some j):below xs j=i:=by
 obtain⟨h1,h2,h3⟩:=mz hs j
 obtain⟨hi,e⟩:=bB.mp h
 have mono:∀ a b (ha:a<xs.size) (hb:b<xs.size),a<b->xs[a]<xs[b]:=λa b ha hb hab=>by
  have:=cR.mp hs a b (by simpa using ha) (by simpa using hb) hab
  simpa using this
 rcases Nat.lt_trichotomy (below xs j) i with c |c |c
 ·have:=h3 (below xs j) (by omega) (ao _)
  have:=mono _ _ (by omega) hi c
  omega
 ·exact c
 ·have:=h2 i hi c
  omega
theorem sX {xs:Array Nat}(hs:xs.toList.Pairwise (· < ·)){j:Nat}(hj:j∉xs.toList):(insertAt xs (below xs j) j).toList.Pairwise (· < ·):=by
 obtain⟨h1,h2,h3⟩:=mz hs j
 rw[dq]
 have a:∀ y∈xs.toList.take (below xs j),y<j:=λy hy=>by
  obtain⟨i,hi,e⟩:=bU.mp hy
  rw[aN]at hi
  rw[List.getElem_take]at e
  rw[<-e]
  exact h2 i (by simpa using(show i<xs.toList.length by omega)) (by omega)
 have b:∀ y∈xs.toList.drop (below xs j),j<y:=λy hy=>by
  obtain⟨i,hi,e⟩:=bU.mp hy
  rw[bA]at hi
  rw[List.getElem_drop]at e
  have hm:y∈xs.toList:=dD hy
  have:j≠y:=λz=>hj (z ▸ hm)
  have:=h3 (below xs j+i) (by simpa using(show below xs j+i<xs.toList.length by omega)) (by omega)
  rw[<-e]at *
  simp at *
  omega
 refine List.pairwise_append.mpr ⟨hs.sublist (List.take_sublist _ _),List.pairwise_cons.mpr ⟨b,hs.sublist (List.drop_sublist _ _)⟩,λx hx y hy=>?_⟩
 rcases aG.mp hy with rfl |hy
 ·exact a x hx
 ·exact Nat.lt_trans (a x hx) (b y hy)
theorem lS {t:SetTable}(hs:t.place.toList.Pairwise (· < ·)){i j:Nat}(h:t.place[i]? = some j):t.slot j = .live i:=by
 unfold slot
 dsimp only
 rw[below_at hs h,h]
 simp
theorem rq {t:SetTable}(hd:t.dummies = #[]){j:Nat}(h:j∉t.place.toList):t.slot j = .empty:=by
 unfold slot
 dsimp only
 rw[aF,hd,aF]
 ·simp[has]
 ·intro z
  have z':t.place[below t.place j]? = some j:=by simpa using z
  exact h (by rw[dH];exact Array.mem_of_getElem? z')
theorem sub_len:∀ {l m:List Nat},l.Nodup->(∀ x∈l,x∈m)->l.length<=m.length
 |[],m,_,_=>aH _
 |x::l,m,hn,hs=>by
  rw[bq]at hn
  have hx:=hs x aB
  have:=@sub_len l (m.erase x) hn.2 λy hy=>by
   refine(dE ?_).mpr (hs y (ax _ hy))
   rintro rfl
   exact hn.1 hy
  have h2:=cW hx
  have h3:0<m.length:=List.length_pos_of_mem hx
  rw[aO]
  omega
theorem tI {l:List Nat}{mask:Nat}(h:l.length<=mask):∃ j,j<=mask/\j∉l:=by
 refine aM λc=>?_
 have:=@sub_len (List.range (mask+1)) l List.nodup_range λx hx=>aM λq=>c ⟨x,by have:=bJ.mp hx;omega,q⟩
 rw[cH]at this
 omega
def pD (mask:Nat)(taken:List Nat)(h:Int)(j:Nat):Prop:=∃ n,(pAt mask h n).j=j/\∀ m,m<n->(pAt mask h m).j∈taken
structure WFT (t:SetTable)(hs:List Int):Prop where
 pow:∃ k,3<=k/\t.mask+1=2 ^ k
 small:t.mask<=8191
 dum:t.dummies = #[]
 rise:t.place.toList.Pairwise (· < ·)
 all:∀ j∈t.place.toList,j<=t.mask
 len:t.place.size=hs.length
 room:hs.length*5<t.mask*3
 reach:∀ i (h:i<hs.length) j,t.place[i]? = some j->pD t.mask t.place.toList hs[i] j
theorem WFT.fits {t:SetTable}{hs:List Int}(W:WFT t hs):t.fits hs.length=true:=by
 have:=W.room
 simp only[SetTable.fits,SetTable.fill,W.len,W.dum,et,Bool.true_and,dk]
 show hs.length+0<=t.mask
 omega
theorem WFT.K3 {t:SetTable}{hs:List Int}(W:WFT t hs):t.gaveWay=false:=by
 obtain⟨k,hk,e⟩:=W.pow
 obtain⟨k,rfl⟩:∃ q,k=q+1:=⟨k-1,by omega⟩
 rw[dt]at e
 unfold gaveWay
 have:t.mask%2=1:=by omega
 rw[this];rfl
theorem WFT.fresh (a b:Nat)(led:Bool):WFT (SetTable.fresh a b led) []:=
 ⟨⟨3,by decide,rfl⟩,(by show 7<=8191;decide),rfl,List.Pairwise.nil,λj hj=>by simp[SetTable.fresh]at hj,rfl,(by show 0*5<7*3;decide),λi h=>by simp at h⟩
def Hit (t:SetTable)(hs:List Int)(h:Int)(n:Nat):Prop:=(pAt t.mask h n).j∉t.place.toList\/∃ i,t.place[i]? = some (pAt t.mask h n).j/\hs.getD i 0=h
def sj (t:SetTable)(h:Int)(n:Nat):SetTable.Met:=match t.slot (pAt t.mask h n).j with
 |.live i=>.candidate (pAt t.mask h n).j i (pAt t.mask h (n+1))
 |_=>.empty (pAt t.mask h n).j none
theorem AR {t:SetTable}{hs:List Int}(W:WFT t hs){ha:Nat->Int}{h:Int}(hh:∀ i,i<hs.length->ha i=hs.getD i 0):∀ (d fuel n:Nat),d<fuel->Hit t hs h (n+d)->(∀ m,n<=m->m<n+d->¬Hit t hs h m)->
  SetTable.probe.go t ha h fuel (pAt t.mask h n)=some (sj t h (n+d)):=by
 intro d
 induction d with
 |zero=>
  intro fuel n hf hit _
  obtain⟨f,rfl⟩:∃ f,fuel=f+1:=⟨fuel-1,by omega⟩
  unfold SetTable.probe.go sj
  rw[Nat.add_zero]at hit ⊢
  rcases hit with z |⟨i,z,e⟩
  ·rw[rq W.dum z,tW]
  ·rw[lS W.rise z]
   have hi:i<hs.length:=by rw[<-W.len];exact(bB.mp z).1
   dsimp only
   rw[hh i hi,e,et,aJ rfl,B6]
   rfl
 |succ d ih=>
  intro fuel n hf hit hno
  obtain⟨f,rfl⟩:∃ f,fuel=f+1:=⟨fuel-1,by omega⟩
  have hn:=hno n (ao _) (by omega)
  unfold Hit at hn
  rw[not_or,Classical.not_not]at hn
  obtain⟨n1,n2⟩:=hn
  obtain⟨i,hi⟩:=Array.mem_iff_getElem?.mp (dH.mp n1)
  have hi':i<hs.length:=by rw[<-W.len];exact(bB.mp hi).1
  unfold SetTable.probe.go
  rw[lS W.rise hi]
  dsimp only
  rw[hh i hi',aF (by intro z;exact n2 ⟨i,hi,by simpa using z⟩),B6]
  have:=ih f (n+1) (by omega) (by rw[show n+1+d=n+(d+1) by omega];exact hit) λm h1 h2=>hno m (by omega) (by omega)
  rw[show n+(d+1)=n+1+d by omega]
  exact this
theorem p7 {P:Nat->Prop} :∀ d n,P (n+d)->∃ e,e<=d/\P (n+e)/\∀ m,n<=m->m<n+e->¬P m
 | 0,n,h=>⟨0,ao _,h,λm h1 h2=>by omega⟩
 |d+1,n,h=>by
  by_cases c:P n
  ·exact⟨0,aH _,c,λm h1 h2=>by omega⟩
  ·obtain⟨e,h1,h2,h3⟩:=p7 (P:=P) d (n+1) (by rw[show n+1+d=n+(d+1) by omega];exact h)
   refine⟨e+1,by omega,by rw[show n+(e+1)=n+1+e by omega];exact h2,λm h4 h5=>?_⟩
   by_cases q:m=n
   ·subst q;exact c
   ·exact h3 m (by omega) (by omega)
theorem xF {t:SetTable}{hs:List Int}(W:WFT t hs){ha:Nat->Int}{h:Int}(hh:∀ i,i<hs.length->ha i=hs.getD i 0)(n:Nat):
  ∃ m,n<=m/\Hit t hs h m/\(∀ q,n<=q->q<m->¬Hit t hs h q)/\t.probe ha h (pAt t.mask h n)=some (sj t h m):=by
 obtain⟨k,_,hk⟩:=W.pow
 obtain⟨j,hj,hf⟩:=@tI t.place.toList t.mask (by
  have:=W.room;have h1:=W.len
  rw[aP];omega)
 obtain⟨m,h1,h2,e⟩:=yH hk h n hj
 obtain⟨d,rfl⟩:∃ d,m=n+d:=⟨m-n,by omega⟩
 obtain⟨e',h3,h4,h5⟩:=p7 (P:=Hit t hs h) d n (.inl (by rw[e];exact hf))
 exact⟨n+e',by omega,h4,h5,AR W hh e' _ n (by omega) h4 h5⟩
theorem WFT.put {t:SetTable}{hs:List Int}(W:WFT t hs){h:Int}{n:Nat}(he:(pAt t.mask h n).j∉t.place.toList)(hn:∀ m,m<n->(pAt t.mask h m).j∈t.place.toList)(b:Bool)
  (hr:(hs.length+1)*5<t.mask*3):WFT {(t.put (pAt t.mask h n).j).1 with plain:=b} (hs.take (t.put (pAt t.mask h n).j).2++h::hs.drop (t.put (pAt t.mask h n).j).2):=by
 generalize hj:(pAt t.mask h n).j=j at he
 have hp:(t.put j).2=below t.place j:=rfl
 have hpl:(t.put j).1.place=insertAt t.place (below t.place j) j:=rfl
 have hle:=(mz W.rise j).1
 have hL:(insertAt t.place (below t.place j) j).toList=t.place.toList.take (below t.place j)++j::t.place.toList.drop (below t.place j):=dq ..
 have pZ:∀ x,x∈t.place.toList->x∈(insertAt t.place (below t.place j) j).toList:=λx hx=>by
  rw[hL]
  rw[<-cD (below t.place j) t.place.toList]at hx
  rcases aC.mp hx with z |z
  ·exact bo _ z
  ·exact au _ (ax _ z)
 have len:(hs.take (below t.place j)++h::hs.drop (below t.place j)).length=hs.length+1:=by
  rw[ah,aO,aN,bA]
  have:=W.len
  omega
 refine⟨W.pow,W.small,?_,sX W.rise he,λx hx=>?_,?_,?_,λi hi x hx=>?_⟩
 ·show(if has t.dummies j then eraseAt t.dummies (below t.dummies j)else t.dummies) = #[]
  rw[W.dum]
  simp[has]
 ·have hx:x∈(insertAt t.place (below t.place j) j).toList:=hx
  show x<=t.mask
  rw[hL]at hx
  rcases aC.mp hx with z |z
  ·exact W.all x (List.mem_of_mem_take z)
  ·rcases aG.mp z with rfl |z
   ·rw[<-hj];exact Eg t.mask h n
   ·exact W.all x (dD z)
 ·rw[hp,len]
  show(insertAt t.place (below t.place j) j).size=_
  rw[<-aP,hL,ah,aO,aN,bA,aP,W.len]
  have:=W.len
  omega
 ·rw[hp,len];exact hr
 ·rw[hp]at hi
  have hx:(insertAt t.place (below t.place j) j)[i]? = some x:=hx
  rw[<-bI,hL]at hx
  have hg:∀ (y:Int),(hs.take (below t.place j)++h::hs.drop (below t.place j))[i]? = some y->pD t.mask (insertAt t.place (below t.place j) j).toList y x:=by
   intro y hy
   have up:∀ {y x},pD t.mask t.place.toList y x->pD t.mask (insertAt t.place (below t.place j) j).toList y x:=λ{y x} ⟨n,a,b⟩=>⟨n,a,λm hm=>pZ _ (b m hm)⟩
   have hlt:(hs.take (below t.place j)).length=below t.place j:=by rw[aN];have:=W.len;omega
   have GF:(t.place.toList.take (below t.place j)).length=below t.place j:=by rw[aN,aP];omega
   rcases Nat.lt_trichotomy i (below t.place j)with c |c |c
   ·rw[aq (by omega),en c]at hx hy
    obtain⟨hl,e⟩:=ag.mp hy
    have:=W.reach i hl x (by rw[<-bI];exact hx)
    rw[e]at this
    exact up this
   ·subst c
    rw[az (by omega),hlt,br]at hy
    rw[az (by omega),GF,br]at hx
    simp at hx hy
    subst hx hy
    exact⟨n,hj,λm hm=>pZ _ (hn m hm)⟩
   ·obtain⟨i,rfl⟩:∃ q,i=q+1:=⟨i-1,by omega⟩
    rw[az (by omega),hlt,show i+1-below t.place j=(i-below t.place j)+1 by omega,ez,cz,show below t.place j+(i-below t.place j)=i by omega]at hy
    rw[az (by omega),GF,show i+1-below t.place j=(i-below t.place j)+1 by omega,ez,cz,show below t.place j+(i-below t.place j)=i by omega]at hx
    obtain⟨hl,e⟩:=ag.mp hy
    have:=W.reach i hl x (by rw[<-bI];exact hx)
    rw[e]at this
    exact up this
  exact hg _ (af hi)
open SetTable
def oN (owner:Array (Option Nat))(j:Nat):Prop:=∃ i,owner[j]? = some (some i)
theorem Af {mask:Nat}{owner:Array (Option Nat)}(hz:owner.size=mask+1)(h:Int):∀ fuel r,(∃ r',r<=r'/\r'<r+fuel/\owner[(lpI mask h r').1]? = some none)->
  ∃ n j,layClean.free mask owner fuel (lpI mask h r).1 (lpI mask h r).2=some j/\lpT mask h r<=n/\(pAt mask h n).j=j/\owner[j]? = some none/\∀ m,lpT mask h r<=m->m<n->oN owner (pAt mask h m).j:=by
 intro fuel
 induction fuel with
 |zero=>rintro r ⟨r',h1,h2,_⟩;omega
 |succ fuel ih=>
  rintro r ⟨r',h1,h2,h3⟩
  have hrm:=qu (xT mask h r)
  have hrg:=tN mask (lpI mask h r).1
  have EO:∀ k,k<runEnd mask (lpI mask h r).1+1-(lpI mask h r).1->∃ o,owner[(lpI mask h r).1+k]? = some o/\owner.getD ((lpI mask h r).1+k) (some 0)=o:=λk hk=>by
   have hl:(lpI mask h r).1+k<owner.size:=by omega
   exact⟨owner[(lpI mask h r).1+k],bD hl,by simp[Array.getD,hl]⟩
  have hj:∀ k,k<runEnd mask (lpI mask h r).1+1-(lpI mask h r).1->(pAt mask h (lpT mask h r+k)).j=(lpI mask h r).1+k:=λk hk=>by
   rw[mQ mask h r k (by omega)]
  unfold layClean.free
  cases hf:(List.range (runEnd mask (lpI mask h r).1+1-(lpI mask h r).1)).find? λk=>(owner.getD ((lpI mask h r).1+k) (some 0)).isNone with
  |some k=>
   dsimp only
   obtain⟨hk1,as,bs,hk2,hk3⟩:=List.find?_eq_some_iff_append.mp hf
   have hkm:k<runEnd mask (lpI mask h r).1+1-(lpI mask h r).1:=by
    have:=dZ hf
    simpa using this
   obtain⟨o,o1,o2⟩:=EO k hkm
   rw[o2]at hk1
   have:o=none:=by cases o with |none=>rfl |some _=>simp at hk1
   subst this
   refine⟨lpT mask h r+k,_,rfl,cN _ _,hj k hkm,o1,λm m1 m2=>?_⟩
   obtain⟨k',rfl⟩:∃ k',m=lpT mask h r+k':=⟨m-lpT mask h r,by omega⟩
   obtain⟨o',o3,o4⟩:=EO k' (by omega)
   rw[hj k' (by omega)]
   have hin:k'∈as:=by
    have e1:(List.range (runEnd mask (lpI mask h r).1+1-(lpI mask h r).1))[as.length]? = some k:=by rw[hk2];simp
    have e2:as.length=k:=by
     rw[ag]at e1
     obtain⟨_,e1⟩:=e1
     simpa using e1
    have e3:(List.range (runEnd mask (lpI mask h r).1+1-(lpI mask h r).1))[k']? = some k':=by
     rw[dQ (by omega)]
    rw[hk2,aq (by omega)]at e3
    exact aw e3
   have:=hk3 k' hin
   rw[o4]at this
   cases o' with
   |none=>simp at this
   |some i=>exact⟨i,o3⟩
  |none=>
   dsimp only
   have lj:=List.find?_eq_none.mp hf
   have hno:∀ k,k<runEnd mask (lpI mask h r).1+1-(lpI mask h r).1->oN owner ((lpI mask h r).1+k):=λk hk=>by
    obtain⟨o,o1,o2⟩:=EO k hk
    have:=lj k (bJ.mpr hk)
    rw[o2]at this
    cases o with
    |none=>simp at this
    |some i=>exact⟨i,o1⟩
   have hne:r'≠r:=by
    rintro rfl
    obtain⟨i,e⟩:=hno 0 (by omega)
    rw[Nat.add_zero,h3]at e
    cases e
   obtain⟨n,j,e1,e2,e3,e4,e5⟩:=ih (r+1) ⟨r',by omega,by omega,h3⟩
   refine⟨n,j,e1,bj (bE (vc mask h r)) e2,e3,e4,λm m1 m2=>?_⟩
   by_cases c:m<lpT mask h (r+1)
   ·have c':m<lpT mask h r+(runEnd mask (lpI mask h r).1-(lpI mask h r).1)+1:=c
    obtain⟨k',rfl⟩:∃ k',m=lpT mask h r+k':=⟨m-lpT mask h r,by omega⟩
    rw[hj k' (by omega)]
    exact hno k' (by omega)
   ·exact e5 m (by omega) m2
structure Laid (mask:Nat)(hs:List Int)(owner:Array (Option Nat))(k:Nat):Prop where
 size:owner.size=mask+1
 only:∀ (j i:Nat),owner[j]? = some (some i)->i<k
 one:∀ (i j j':Nat),owner[j]? = some (some i)->owner[j']? = some (some i)->j=j'
 each:∀ i (h:i<hs.length),i<k->∃ (j n:Nat),owner[j]? = some (some i)/\(pAt mask hs[i] n).j=j/\∀ m,m<n->oN owner (pAt mask hs[i] m).j
theorem zU {mask:Nat}{hs:List Int}{owner:Array (Option Nat)}{k:Nat}(L:Laid mask hs owner k)(hk:k<=mask):∃ j,j<=mask/\owner[j]? = some none:=by
 refine aM λc=>?_
 have lj:∀ j,j<=mask->∃ i,owner[j]? = some (some i):=λj hj=>by
  have hl:j<owner.size:=by rw[L.size];omega
  cases e:owner[j]with
  |none=>exact(c ⟨j,hj,by rw[bD hl,e]⟩).elim
  |some i=>exact⟨i,by rw[bD hl,e]⟩
 let f:Nat->Nat:=λj=>match owner[j]? with |some (some i)=>i |_=>0
 have hf:∀ j,j<=mask->owner[j]? = some (some (f j)):=λj hj=>by
  obtain⟨i,e⟩:=lj j hj
  show _=some (some (match owner[j]? with |some (some i)=>i |_=>0))
  rw[e]
 have:=@sub_len ((List.range (mask+1)).map f) (List.range k) (by
  rw[List.Nodup,cG]
  refine cX (λ{a b} ha hb hab e=>?_) (List.nodup_range (n:=mask+1))
  have ha:=bJ.mp ha
  have hb:=bJ.mp hb
  have h1:=hf a (by omega)
  have h2:=hf b (by omega)
  rw[e]at h1
  exact hab (L.one _ _ _ h1 h2)) λx hx=>by
   obtain⟨j,hj,rfl⟩:=ak.mp hx
   exact bJ.mpr (L.only j _ (hf j (by have:=bJ.mp hj;omega)))
 rw[aa,cH,cH]at this
 omega
def yR (mask:Nat)(acc:Option (Array (Option Nat)×Nat))(h:Int):Option (Array (Option Nat)×Nat):=do
  let (owner,k) <-acc
  let j <-layClean.free mask owner (turns mask) (bits h%(mask+1)) (bits h)
  pure (owner.setIfInBounds j (some k),k+1)
theorem Bv {mask p:Nat}(hp:mask+1=2 ^ p){hs:List Int}{owner:Array (Option Nat)}{k:Nat}(L:Laid mask hs owner k)(hk:k<hs.length)(hm:hs.length<=mask):
  ∃ rN,yR mask (some (owner,k)) hs[k]=some (rN,k+1)/\Laid mask hs rN (k+1):=by
 obtain⟨j0,h1,h2⟩:=zU L (by omega)
 obtain⟨r,r1,r2,r3⟩:=yM hp hs[k] 0 h1
 obtain⟨n,j,e1,e2,e3,e4,e5⟩:=Af L.size hs[k] (turns mask) 0 ⟨r,by omega,by unfold turns;omega,by rw[r3];exact h2⟩
 refine⟨owner.setIfInBounds j (some k),?_,?_⟩
 ·have e1':layClean.free mask owner (turns mask) (bits hs[k]%(mask+1)) (bits hs[k])=some j:=e1
  show(layClean.free mask owner (turns mask) (bits hs[k]%(mask+1)) (bits hs[k]) >>= λj=>pure (owner.setIfInBounds j (some k),k+1))=_
  rw[e1'];rfl
 have hj:j<owner.size:=(bB.mp e4).1
 have wD:(owner.setIfInBounds j (some k))[j]? = some (some k):=by simp[hj]
 have Ab:∀ x,x≠j->(owner.setIfInBounds j (some k))[x]? = owner[x]? :=λx hx=>by simp[Array.getElem?_setIfInBounds,bK hx]
 have up:∀ x,oN owner x->oN (owner.setIfInBounds j (some k)) x:=λx ⟨i,hi⟩=>by
  by_cases c:x=j
  ·subst c;exact⟨k,wD⟩
  ·exact⟨i,by rw[Ab x c];exact hi⟩
 refine⟨by simp[L.size],λx i hx=>?_,λi x y hx hy=>?_,λi hi hik=>?_⟩
 ·by_cases c:x=j
  ·subst c;rw[wD]at hx;cases hx;omega
  ·rw[Ab x c]at hx;have:=L.only x i hx;omega
 ·by_cases c:x=j
  ·by_cases d:y=j
   ·rw[c,d]
   ·subst c;rw[wD]at hx;cases hx
    rw[Ab y d]at hy;have:=L.only y _ hy;omega
  ·rw[Ab x c]at hx
   by_cases d:y=j
   ·subst d;rw[wD]at hy;cases hy;have:=L.only x _ hx;omega
   ·rw[Ab y d]at hy;exact L.one i x y hx hy
 ·by_cases c:i=k
  ·subst c
   exact⟨j,n,wD,e3,λm hm=>up _ (e5 m (aH _) hm)⟩
  ·obtain⟨x,n',q1,q2,q3⟩:=L.each i hi (by omega)
   refine⟨x,n',?_,q2,λm hm=>up _ (q3 m hm)⟩
   rw[Ab x (λz=>by subst z;rw[e4]at q1;cases q1)]
   exact q1
theorem yQ {mask p:Nat}(hp:mask+1=2 ^ p)(hs:List Int)(hm:hs.length<=mask):∀ (rest:List Int) (k:Nat) (owner:Array (Option Nat)),hs.drop k=rest->k<=hs.length->Laid mask hs owner k->
  ∃ rN,rest.foldl (yR mask) (some (owner,k))=some (rN,hs.length)/\Laid mask hs rN hs.length
 |[],k,owner,e,hk,L=>by
  have:k=hs.length:=by have:=bS List.length e;rw[bA]at this;simp at this;omega
  subst this
  exact⟨owner,rfl,L⟩
 |x::rest,k,owner,e,hk,L=>by
  have hlt:k<hs.length:=by have:=bS List.length e;rw[bA]at this;simp at this;omega
  have hx:hs[k]=x/\hs.drop (k+1)=rest:=by
   rw[List.drop_eq_getElem_cons hlt]at e
   injection e with a b
   exact⟨a,b⟩
  obtain⟨o',e1,L'⟩:=Bv hp L hlt hm
  rw[hx.1]at e1
  obtain⟨o2,e2,L2⟩:=yQ hp hs hm rest (k+1) o' hx.2 hlt L'
  exact⟨o2,by rw[List.foldl_cons,e1];exact e2,L2⟩
theorem wC {mask p:Nat}(hp:mask+1=2 ^ p){hs:Array Int}(hm:hs.size<=mask):∃ owner,layClean mask hs=some owner/\Laid mask hs.toList owner hs.size:=by
 obtain⟨o,e,L⟩:=yQ hp hs.toList (by simpa using hm) hs.toList 0 (Array.replicate (mask+1) none) rfl (aH _)
  ⟨by simp,λj i h=>by simp[Array.getElem?_replicate]at h,λi j j' h=>by simp[Array.getElem?_replicate]at h,λi _ h=>by omega⟩
 refine⟨o,?_,by simpa using L⟩
 unfold layClean
 rw[<-Array.foldl_toList]
 have e':hs.toList.foldl (λacc h=>do
  let (owner,k) <-acc
  let j <-layClean.free mask owner (turns mask) (bits h%(mask+1)) (bits h)
  pure (owner.setIfInBounds j (some k),k+1)) (some (Array.replicate (mask+1) none,0))=some (o,hs.toList.length):=e
 rw[e']
 rfl
def gL (mask:Nat)(owner:Array (Option Nat)):List (Nat×Nat):=(List.range (mask+1)).filterMap λj=>(owner.getD j none).map (j,·)
theorem iU {mask:Nat}{owner:Array (Option Nat)}(hz:owner.size=mask+1){j i:Nat} :(j,i)∈gL mask owner↔owner[j]? = some (some i):=by
 unfold gL
 rw[dS]
 constructor
 ·rintro⟨x,hx,e⟩
  have hx:=bJ.mp hx
  have hl:x<owner.size:=by omega
  have:owner.getD x none=owner[x]:=by simp[Array.getD,hl]
  rw[this]at e
  cases q:owner[x]with
  |none=>rw[q]at e;simp at e
  |some y=>
   rw[q]at e
   simp at e
   obtain⟨rfl,rfl⟩:=e
   rw[bD hl,q]
 ·intro h
  obtain⟨hl,e⟩:=bB.mp h
  refine⟨j,bJ.mpr (by omega),?_⟩
  simp[Array.getD,hl,e]
theorem pW (owner:Array (Option Nat))(mask:Nat):(gL mask owner).Pairwise λa b=>a.1<b.1:=by
 unfold gL
 rw[List.pairwise_filterMap]
 refine List.Pairwise.imp (λ{a b} hab x hx y hy=>?_) (List.pairwise_lt_range (n:=mask+1))
 rw[Option.map_eq_some_iff]at hx hy
 obtain⟨_,_,rfl⟩:=hx
 obtain⟨_,_,rfl⟩:=hy
 exact hab
theorem rK {l:List Nat}{n:Nat}(hn:l.Nodup)(h:∀ i,i∈l↔i<n):l.Perm (List.range n):=by
 refine(List.perm_ext_iff_of_nodup hn List.nodup_range).mpr λi=>?_
 rw[h i,bJ]
theorem CO {mask p:Nat}(hp:mask+1=2 ^ p)(h3:3<=p){hs:Array Int}(hm:hs.size*5<mask*3)(hsm:mask<=8191)(fg mv:Nat)(led plain:Bool):
  ∃ t order,SetTable.laid mask fg mv led plain hs=some (t,order)/\t.led=led/\t.mask=mask/\order.toList.Perm (List.range hs.size)/\WFT t (order.toList.map λi=>hs.getD i 0):=by
 obtain⟨owner,e,L⟩:=wC hp (hs:=hs) (by omega)
 refine⟨_,_,by unfold SetTable.laid;rw[e];rfl,rfl,rfl,?_,?_⟩
 ·show((gL mask owner).map (·.2)).toArray.toList.Perm _
  rw[cT]
  refine rK ?_ λi=>?_
  ·rw[List.Nodup,cG]
   refine cX (λ{a b} ha hb hab z=>?_) (pW owner mask)
   have ha:=(iU L.size (j:=a.1) (i:=a.2)).mp ha
   have hb:=(iU L.size (j:=b.1) (i:=b.2)).mp hb
   rw[z]at ha
   have:=L.one _ _ _ ha hb
   omega
  ·rw[ak]
   constructor
   ·rintro⟨⟨j,i'⟩,hj,rfl⟩
    exact L.only j i' ((iU L.size).mp hj)
   ·intro hi
    obtain⟨j,n,e1,_⟩:=L.each i (by simpa using hi) hi
    exact⟨(j,i),(iU L.size).mpr e1,rfl⟩
 ·have uf:((gL mask owner).map (·.2)).Perm (List.range hs.size):=by
   refine rK ?_ λi=>?_
   ·rw[List.Nodup,cG]
    refine cX (λ{a b} ha hb hab z=>?_) (pW owner mask)
    have ha:=(iU L.size (j:=a.1) (i:=a.2)).mp ha
    have hb:=(iU L.size (j:=b.1) (i:=b.2)).mp hb
    rw[z]at ha
    have:=L.one _ _ _ ha hb
    omega
   ·rw[ak]
    constructor
    ·rintro⟨⟨j,i'⟩,hj,rfl⟩
     exact L.only j i' ((iU L.size).mp hj)
    ·intro hi
     obtain⟨j,n,e1,_⟩:=L.each i (by simpa using hi) hi
     exact⟨(j,i),(iU L.size).mpr e1,rfl⟩
  have hlen:(gL mask owner).length=hs.size:=by
   have:=uf.length_eq
   rw[aa,cH]at this
   exact this
  refine⟨⟨p,h3,hp⟩,hsm,rfl,?_,λj hj=>?_,?_,?_,λi hi j hj=>?_⟩
  ·show((gL mask owner).map (·.1)).toArray.toList.Pairwise (· < ·)
   rw[cT,cG]
   exact pW owner mask
  ·have hj:j∈((gL mask owner).map (·.1)).toArray.toList:=hj
   rw[cT]at hj
   obtain⟨⟨a,b⟩,hab,rfl⟩:=ak.mp hj
   have:=(bB.mp ((iU L.size).mp hab)).1
   show a<=mask
   have:=L.size
   omega
  ·show((gL mask owner).map (·.1)).toArray.size=(((gL mask owner).map (·.2)).toArray.toList.map _).length
   simp
  ·show(((gL mask owner).map (·.2)).toArray.toList.map _).length*5<mask*3
   rw[cT,aa,aa,hlen]
   exact hm
  ·have hj:((gL mask owner).map (·.1)).toArray[i]? = some j:=hj
   rw[List.getElem?_toArray,ai]at hj
   have hi':i<(gL mask owner).length:=by simpa [gL]using hi
   rw[af hi']at hj
   simp only[dN,Option.some.injEq]at hj
   have pZ:(gL mask owner)[i]∈gL mask owner:=dA hi'
   have ho:=(iU L.size (j:=(gL mask owner)[i].1) (i:=(gL mask owner)[i].2)).mp pZ
   have hlt:=L.only _ _ ho
   obtain⟨j',n,e1,e2,e3⟩:=L.each (gL mask owner)[i].2 (by simpa using hlt) hlt
   have hjj:=L.one _ _ _ ho e1
   have hh:(((gL mask owner).map (·.2)).toArray.toList.map λi=>hs.getD i 0)[i]'(by simpa using hi')=hs.toList[(gL mask owner)[i].2]'(by simpa using hlt):=by
    simp[Array.getD,hlt]
   show pD mask _ _ j
   refine⟨n,?_,λm hm'=>?_⟩
   ·have:(pAt mask ((((gL mask owner).map (·.2)).toArray.toList.map λi=>hs.getD i 0)[i]'(by simpa using hi')) n).j=j:=by rw[hh,e2,<-hj,hjj]
    exact this
   ·have h5:=e3 m hm'
    have:(pAt mask ((((gL mask owner).map (·.2)).toArray.toList.map λi=>hs.getD i 0)[i]'(by simpa using hi')) m).j∈((gL mask owner).map (·.1)).toArray.toList:=by
     rw[hh,cT]
     obtain⟨i2,h6⟩:=h5
     exact ak.mpr ⟨(_,i2),(iU L.size).mpr h6,rfl⟩
    exact this
theorem oQ:∀ fuel size n,(∃ k,3<=k/\size=2 ^ k)->n<size*2 ^ fuel->∃ k,3<=k/\sizeAbove.go n fuel size=2 ^ k/\n<sizeAbove.go n fuel size
 | 0,size,n,⟨k,hk,e⟩,h=>⟨k,hk,e,by simpa [sizeAbove.go]using h⟩
 |fuel+1,size,n,⟨k,hk,e⟩,h=>by
  unfold sizeAbove.go
  by_cases c:size<=n
  ·rw[aJ c]
   exact oQ fuel (size*2) n ⟨k+1,by omega,by rw[dt,e]⟩ (by rw[bW,<-Nat.pow_succ'];exact h)
  ·rw[aF c]
   exact⟨k,hk,e,by omega⟩
theorem uI {n:Nat}(h:n<2 ^ 60):∃ k,3<=k/\sizeAbove n=2 ^ k/\n<sizeAbove n:=
 oQ 64 8 n ⟨3,by decide,rfl⟩ (Nat.lt_trans h (by decide))
theorem oP:∀ fuel size n k,(∃ q,q<=k/\size=2 ^ q)->n<2 ^ k->sizeAbove.go n fuel size<=2 ^ k
 | 0,size,n,k,⟨q,h1,h2⟩,h=>by unfold sizeAbove.go;rw[h2];exact cL (by decide) h1
 |fuel+1,size,n,k,⟨q,h1,h2⟩,h=>by
  unfold sizeAbove.go
  by_cases c:size<=n
  ·rw[aJ c]
   refine oP fuel (size*2) n k ⟨q+1,?_,by rw[h2,dt]⟩ h
   refine aM λz=>?_
   have:q=k:=by omega
   subst this
   omega
  ·rw[aF c,h2];exact cL (by decide) h1
end TS
namespace TL
open PySem TS
section
variable {prog:Program}{w:World}{K:Type} [DecidableEq K] {knd:KeyKind prog w K}{A:Around}{E:Value->Shared->Prop}{s:Shared}
theorem qF (n:Nat){v:Value}(h:carriedByValue v=true):ofAClassStatement n v=pure false:=by
 cases v with
 |ref a=>simp[carriedByValue]at h
 |_=>unfold ofAClassStatement;rfl
theorem qR {ks:List K}{a:Addr}{Q:Bool->Shared->Prop}(hk:IsTupleKey knd s.heap ks a)(h:Q false s):wpAny (model prog w) A (ofAClassStatement 8 (.ref a)) Q E s:=by
 have hT:=hk.typeIs
 obtain⟨o,items,n,ho,_,hd,hi⟩:=hk
 unfold ofAClassStatement
 refine ae (wpAny_typeOf hT ?_)
 dsimp only
 rw[aJ (et _)]
 refine ae (aj ?_)
 simp only[bX,aL,bF]
 refine ae (wpAny_seqItems ho hd ?_)
 dsimp only
 refine ae ?_
 rw[<-dg]
 refine wpAny_forIn_list _ (λrest r s'=>r.1=none/\s'=s/\∀ v∈rest,carriedByValue v=true) _ ?_ ?_ _ _ ⟨rfl,rfl,hi.byValue⟩
 ·rintro v rest r s' ⟨hr,rfl,lj⟩
  rw[qF _ (lj v aB)]
  refine ae (aj ?_)
  simp only[aL,bF]
  exact aj ⟨rfl,rfl,λu hu'=>lj u (ax _ hu')⟩
 ·rintro⟨r1,r2⟩ s' ⟨hr,rfl,_⟩
  simp only at hr
  subst hr
  exact aj h
theorem wK (n:Nat){v:Value}(h:v.scannable=true):∃ b,hashByValue n v=pure b:=⟨_,hashByValue_scannable n h⟩
theorem zq {ks:List K}{a:Addr}{Q:Bool->Shared->Prop}(hk:IsTupleKey knd s.heap ks a)(hsc:∀ k v,knd.is k v=true->v.scannable=true)(h:∀ b,Q b s):wpAny (model prog w) A (hashByValue 8 (.ref a)) Q E s:=by
 have hT:=hk.typeIs
 obtain⟨o,items,n,ho,_,hd,hi⟩:=hk
 have lj:∀ {x:List K}{vs:List Value},ItemsAre knd x vs->∀ v∈vs,v.scannable=true:=by
  intro x vs hx
  induction hx with
  |nil=>intro v hv;simp at hv
  |@cons k v' ks vs h1 _ ih=>
   intro v hv
   rcases aG.mp hv with rfl |hv
   ·exact hsc _ _ h1
   ·exact ih v hv
 unfold hashByValue
 refine ae (dy hT dF.lookup ?_)
 show wpAny _ _ (seqItems? (.ref a) >>= _) _ _ s
 refine ae (wpAny_seqItems ho hd ?_)
 refine ae ?_
 show wpAny _ _ (forIn items _ _) _ _ s
 rw[<-dg]
 refine wpAny_forIn_list _ (λrest r s'=>r.1=none/\s'=s/\∀ v∈rest,v.scannable=true) _ ?_ ?_ _ _ ⟨rfl,rfl,lj hi⟩
 ·rintro v rest r s' ⟨hr,rfl,lj⟩
  obtain⟨b,e⟩:=wK 7 (lj v aB)
  rw[e]
  refine ae (aj ?_)
  cases b with
  |true=>
   simp only[bX,aL,bF]
   exact aj ⟨rfl,rfl,λu hu'=>lj u (ax _ hu')⟩
  |false=>
   simp only[Bool.not_false,dj]
   exact aj (aj (h _))
 ·rintro⟨r1,r2⟩ s' ⟨hr,rfl,_⟩
  simp only at hr
  subst hr
  exact aj (h _)
theorem Cg {ks:List K}{a:Addr}{Q:Bool->Shared->Prop}(hk:IsTupleKey knd s.heap ks a){ys:List Value}(hy:∀ y∈ys,∃ b js,y = .ref b/\IsTupleKey knd s.heap js b)(h:Q false s):
  wpAny (model prog w) A (searchCouldBeSeen (.ref a) ys) Q E s:=by
 unfold searchCouldBeSeen
 refine ae ?_
 refine wpAny_forIn_list _ (λrest r s'=>r.1=none/\s'=s/\∀ v∈rest,v∈ys) _ ?_ ?_ _ _ ⟨rfl,rfl,λ_ h=>h⟩
 ·rintro v rest r s' ⟨hr,rfl,lj⟩
  obtain⟨b,js,rfl,hb⟩:=hy v (lj v aB)
  dsimp only
  by_cases c:(a==b||carriedByValue (Value.ref a)&&carriedByValue (Value.ref b))=true
  ·rw[aJ c]
   exact aj ⟨rfl,rfl,λu hu'=>lj u (ax _ hu')⟩
  ·rw[aF c]
   refine ae (wpAny_eqIsQuiet_tuple hk ?_)
   simp only[bX,aL,bF]
   refine ae (wpAny_eqIsQuiet_tuple hb ?_)
   simp only[bX,aL,bF]
   refine ae (qR hk ?_)
   simp only[aL,bF]
   refine ae (qR hb ?_)
   simp only[aL,bF]
   exact aj ⟨rfl,rfl,λu hu'=>lj u (ax _ hu')⟩
 ·rintro⟨r1,r2⟩ s' ⟨hr,rfl,_⟩
  simp only at hr
  subst hr
  exact aj h
theorem DH {α:Type}{c:Bool}{m:Sem Bool}{T U:Sem α}{Q:α->Shared->Prop}(h:wpAny (model prog w) A m (λb s'=>b=false/\s'=s) E s)(hT:wpAny (model prog w) A T Q E s):
  wpAny (model prog w) A (if c=true then m >>= λb=>if b=true then U else T else T) Q E s:=by
 cases c with
 |false=>rw[aF aA];exact hT
 |true=>
  rw[aJ rfl]
  refine ae (aZ h (λb s' hb=>?_) λ_ _ h'=>h')
  obtain⟨rfl,rfl⟩:=hb
  rw[aF aA]
  exact hT
def vA (knd:KeyKind prog w K)(x:List K×Addr):Int×Value:=(tupleKeyHash knd x.1,.ref x.2)
def nv (knd:KeyKind prog w K)(h:Heap)(a:Addr)(xs:List (List K×Addr)):Prop:=
 ∃ o es ep t,h.get? a=some o/\o.ExactSet/\o.data = .set es ep t/\es.toList=xs.map (vA knd)/\(xs.map (·.1)).Nodup/\WFT t (xs.map λx=>tupleKeyHash knd x.1)
theorem GW {es:Array (Int×Value)}{xs:List (List K×Addr)}(he:es.toList=xs.map (vA knd))(i:Nat):es[i]? = (xs[i]?).map (vA knd):=by
 rw[<-bI,he,ai]
theorem sN {a b:Addr}{o:Obj}{es:Array (Int×Value)}{ep:Nat}{t:SetTable}{xs:List (List K×Addr)}{k:List K}{qf:Bool}{Q:SetFound->Shared->Prop}(hu:A.units<cLine)
  (ho:s.heap.get? a=some o) (hd:o.data = .set es ep t) (he:es.toList=xs.map (vA knd)) (hnd:(xs.map (·.1)).Nodup) (W:WFT t (xs.map λx=>tupleKeyHash knd x.1))
  (hx:∀ x∈xs,IsTupleKey knd s.heap x.1 x.2) (hk:IsTupleKey knd s.heap k b) (m0:Nat) (hm0:(pAt t.mask (tupleKeyHash knd k) m0).j∉t.place.toList) (hm1:∀ m,m<m0->(pAt t.mask (tupleKeyHash knd k) m).j∈t.place.toList)
  (xZ:∀ (i:Nat) y,xs[i]? = some (k,y)->Q (.there (if qf then none else some i)) s) (jD:k∉xs.map (·.1)->Q (.free (pAt t.mask (tupleKeyHash knd k) m0).j false) s):
  ∀ (fuel n:Nat) (st:Option SetTable.Probe),m0<fuel+n->n<=m0->st.getD (t.probeStart (tupleKeyHash knd k))=pAt t.mask (tupleKeyHash knd k) n->(∀ m,m<n->∀ (i:Nat) y,t.place[i]? = some (pAt t.mask (tupleKeyHash knd k) m).j->xs[i]? ≠some (k,y))->
   wpAny (model prog w) A (setSearchFrom a (.ref b) (tupleKeyHash knd k) qf fuel st) Q E s:=by
 intro fuel
 induction fuel with
 |zero=>intro n st h1 h2;omega
 |succ fuel ih=>
  intro n st h1 h2 hst K1
  have hsz:es.size=xs.length:=by rw[<-aP,he,aa]
  have wI:t.fits es.size=true:=by have:=W.fits;rw[aa]at this;rw[hsz];exact this
  unfold setSearchFrom
  refine ae (dC ho hd wI ?_)
  dsimp only
  rw[W.K3]
  simp only[aL,bF]
  rw[hst]
  obtain⟨m,g1,g2,g3,g4⟩:=xF W (ha:=λi=>(es[i]?.map (·.1)).getD 0) (h:=tupleKeyHash knd k) (λi hi=>by
   rw[aa]at hi
   show((es[i]?).map (·.1)).getD 0=_
   rw[GW he,af hi,aE,ai,af hi];rfl) n
  generalize hP:t.probe _ (tupleKeyHash knd k) (pAt t.mask (tupleKeyHash knd k) n)=P
  have hP':P=some (sj t (tupleKeyHash knd k) m):=by rw[<-hP];exact g4
  subst hP'
  dsimp only
  have hmm:m<=m0:=aM λc=>g3 m0 h2 (by omega) (.inl hm0)
  unfold sj
  have hno:∀ q,q<m->∀ (i:Nat) y,t.place[i]? = some (pAt t.mask (tupleKeyHash knd k) q).j->xs[i]? ≠some (k,y):=λq hq i y hp hxi=>by
   by_cases c:q<n
   ·exact K1 q c i y hp hxi
   ·refine g3 q (by omega) hq (.inr ⟨i,hp,?_⟩)
    rw[aE,ai,hxi];rfl
  by_cases hin:(pAt t.mask (tupleKeyHash knd k) m).j∈t.place.toList
  ·obtain⟨i,hi⟩:=Array.mem_iff_getElem?.mp (dH.mp hin)
   rw[lS W.rise hi]
   dsimp only
   have hil:i<xs.length:=by have:=(bB.mp hi).1;rw[W.len,aa]at this;exact this
   have hxi:xs[i]? = some (xs[i].1,xs[i].2):=af hil
   have hei:es[i]? = some (tupleKeyHash knd xs[i].1,.ref xs[i].2):=by rw[GW he,hxi];rfl
   have hki:=hx xs[i] (dA hil)
   refine DH (Cg hk (λy hy=>?_) ⟨rfl,rfl⟩) ?_
   ·obtain⟨z,hz,rfl⟩:=ak.mp hy
    rw[Array.toList_filter]at hz
    have hz:=(cc.mp hz).1
    rw[he]at hz
    obtain⟨q,hq,rfl⟩:=ak.mp hz
    exact⟨q.2,q.1,rfl,hx q hq⟩
   rw[hei]
   dsimp only
   refine ae (b9 (wpAny_eqBool_tuple hu hki hk ?_))
   refine ae (dC ho hd wI ?_)
   dsimp only
   by_cases hkk:xs[i].1=k
   ·have BC:xs[i]? = some (k,xs[i].2):=by rw[<-hkk];exact hxi
    rw[bG hkk]
    have q:=xZ i _ BC
    cases qf with
    |true=>
     simp only[Bool.and_self,dj]
     exact aj q
    |false=>
     simp only[Bool.false_and,aL,bF]
     have hsm:t.sameMemory t.moves t.mask=some true:=by unfold SetTable.sameMemory;simp
     rw[hsm]
     simp only[dj]
     rw[lS W.rise hi]
     dsimp only
     rw[hei]
     dsimp only
     refine ae (wpAny_isSame_ref_self ?_)
     refine ae (aj ?_)
     simp only[dj]
     exact aj q
   ·rw[bf hkk]
    simp only[Bool.and_false,aL,bF]
    have hsm:t.sameMemory t.moves t.mask=some true:=by unfold SetTable.sameMemory;simp
    rw[hsm]
    simp only[dj]
    rw[lS W.rise hi]
    dsimp only
    rw[hei]
    dsimp only
    refine ae (wpAny_isSame_ref_self ?_)
    refine ae (aj ?_)
    simp only[dj]
    have hne:m≠m0:=λz=>hm0 (by rw[<-z];exact hin)
    refine ih (m+1) (some _) (by omega) (by omega) rfl λq hq i' y hp BC=>?_
    by_cases c:q<m
    ·exact hno q c i' y hp BC
    ·have:q=m:=by omega
     subst this
     have e1:=below_at W.rise hp
     have e2:=below_at W.rise hi
     have:i'=i:=by omega
     subst this
     rw[hxi]at BC
     cases BC
     exact hkk rfl
  ·rw[rq W.dum hin]
   dsimp only
   have hme:m=m0:=aM λc=>hin (hm1 m (by omega))
   subst hme
   refine aj (jD λpZ=>?_)
   obtain⟨x,hx1,hx2⟩:=ak.mp pZ
   obtain⟨i,hi1⟩:=dz.mp hx1
   have hil:i<xs.length:=(ag.mp hi1).1
   have hip:i<t.place.size:=by rw[W.len,aa];exact hil
   have hxk:xs[i].1=k:=by rw[<-hx2];congr 1;exact(ag.mp hi1).2
   obtain⟨nn,r1,r2⟩:=W.reach i (by rw[aa];exact hil) _ (bD hip)
   have hh:(xs.map λx=>tupleKeyHash knd x.1)[i]'(by rw[aa];exact hil)=tupleKeyHash knd k:=by rw[List.getElem_map,hxk]
   rw[hh]at r1 r2
   rcases Nat.lt_trichotomy nn m with c |c |c
   ·exact hno nn c i x.2 (by rw[r1];exact bD hip) (by rw[hi1,<-hx2])
   ·subst c
    exact hin (by rw[r1];simp)
   ·exact hin (r2 m c)
end
section
variable {prog:Program}{w:World}{K:Type} [DecidableEq K] {knd:KeyKind prog w K}{A:Around}{E:Value->Shared->Prop}{s:Shared}
theorem zr {t:SetTable}{hs:List Int}(W:WFT t hs)(h:Int):∃ m0,m0<100000/\(pAt t.mask h m0).j∉t.place.toList/\∀ m,m<m0->(pAt t.mask h m).j∈t.place.toList:=by
 obtain⟨k,_,hk⟩:=W.pow
 obtain⟨j,hj,hf⟩:=@tI t.place.toList t.mask (by
  have:=W.room;have h1:=W.len
  rw[aP];omega)
 obtain⟨m,h1,h2,e⟩:=yH hk h 0 hj
 obtain⟨e',h3,h4,h5⟩:=p7 (P:=λn=>(pAt t.mask h n).j∉t.place.toList) m 0 (by rw[Nat.zero_add,e];exact hf)
 rw[Nat.zero_add]at h4
 refine⟨e',?_,h4,λq hq=>aM λc=>h5 q (aH _) (by omega) c⟩
 have:=W.small
 unfold SetTable.turns at h2
 omega
theorem zp {a b:Addr}{o:Obj}{es:Array (Int×Value)}{ep:Nat}{t:SetTable}{xs:List (List K×Addr)}{k:List K}{qf:Bool}{Q:SetFound->Shared->Prop}(hu:A.units<cLine)
  (ho:s.heap.get? a=some o) (hd:o.data = .set es ep t) (he:es.toList=xs.map (vA knd)) (hnd:(xs.map (·.1)).Nodup) (W:WFT t (xs.map λx=>tupleKeyHash knd x.1))
  (hx:∀ x∈xs,IsTupleKey knd s.heap x.1 x.2) (hk:IsTupleKey knd s.heap k b)
  (xZ:∀ (i:Nat) y,xs[i]? = some (k,y)->Q (.there (if qf then none else some i)) s)
  (jD:k∉xs.map (·.1)->∀ m0,(pAt t.mask (tupleKeyHash knd k) m0).j∉t.place.toList->(∀ m,m<m0->(pAt t.mask (tupleKeyHash knd k) m).j∈t.place.toList)->Q (.free (pAt t.mask (tupleKeyHash knd k) m0).j false) s):
  wpAny (model prog w) A (setSearch a (.ref b) (tupleKeyHash knd k) qf) Q E s:=by
 obtain⟨m0,g1,g2,g3⟩:=zr W (tupleKeyHash knd k)
 exact sN hu ho hd he hnd W hx hk m0 g2 g3 xZ (λh=>jD h m0 g2 g3) 100000 0 none (by omega) (aH _) rfl λm hm=>by omega
theorem yi (b:Addr)(es:Array (Int×Value)):byScan (.ref b) es=false:=by simp[byScan,Value.scannable]
theorem nv.typeIs {a:Addr}{xs:List (List K×Addr)}(hS:nv knd s.heap a xs):s.TypeIs (.ref a) "set" :=let ⟨o,_,_,_,ho,hc,_⟩:=hS;⟨o,ho,hc.1⟩
theorem AE {h:Heap}{a:Addr}{o:Obj}{es:Array (Int×Value)}{ep:Nat}{t:SetTable}(ho:h.get? a=some o)(hd:o.data = .set es ep t)(es':Array (Int×Value))(t':SetTable):
  (h.update a (Obj.putSet es' t')).get? a=some {o with data:=.set es' (ep+1) t'} :=by
 have:=Heap.get?_update_self (Obj.putSet es' t') ho (by rw[putSet_of es' t' hd];rfl)
 rw[putSet_of es' t' hd]at this;exact this
theorem sT {α:Type}{order:List Nat}{xs:List α}(hp:order.Perm (List.range xs.length)):(order.filterMap λi=>xs[i]?).Perm xs:=by
 have:=hp.filterMap (λi=>xs[i]?)
 rw[List.filterMap_getElem?_range_length]at this
 exact this
theorem km {α β:Type}(f:α->β){order:List Nat}{xs:List α} :(order.filterMap λi=>(xs.map f)[i]?)=(order.filterMap λi=>xs[i]?).map f:=by
 rw[List.map_filterMap]
 congr 1
 funext i
 rw[ai]
theorem xH {order:List Nat}{hs:List Int}(hp:order.Perm (List.range hs.length)):(order.map λi=>hs.getD i 0)=order.filterMap λi=>hs[i]? :=by
 have lj:∀ i∈order,i<hs.length:=λi hi=>bJ.mp (hp.mem_iff.mp hi)
 clear hp
 induction order with
 |nil=>rfl
 |cons x l ih=>
  have hx:=lj x aB
  rw[aR,cU,af hx,ih λi hi=>lj i (ax _ hi),aE,af hx]
  rfl
theorem sg {α β:Type}(f:α->β)(xs:List α)(x:α)(p:Nat):(xs.map f).take p++f x::(xs.map f).drop p=(xs.take p++x::xs.drop p).map f:=by
 rw[ar,aR,List.map_take,dB]
theorem qm {a b:Addr}{o:Obj}{es:Array (Int×Value)}{ep:Nat}{t:SetTable}{xs:List (List K×Addr)}{k:List K}{Q:Bool->Shared->Prop}
  (ho:s.heap.get? a=some o) (hex:o.ExactSet) (hd:o.data = .set es ep t) (he:es.toList=xs.map (vA knd)) (hnd:(xs.map (·.1)).Nodup) (W:WFT t (xs.map λx=>tupleKeyHash knd x.1)) (si:xs.length<2000)
  (hn:k∉xs.map (·.1)) {m0:Nat} (g1:(pAt t.mask (tupleKeyHash knd k) m0).j∉t.place.toList) (g2:∀ m,m<m0->(pAt t.mask (tupleKeyHash knd k) m).j∈t.place.toList)
  (vj:∀ h' xs',Heap.SameBut a s.heap h'->nv knd h' a xs'->xs'.Perm (xs ++ [(k,b)])->Q true {s with heap:=h'}) {t2:SetTable}{c:Bool} (ht:t2 = {(t.put (pAt t.mask (tupleKeyHash knd k) m0).j).1 with plain:=c}) {n:Nat} (hnn:n=es.size+1):
  wpAny (model prog w) A (do
   storeSet a (SetTable.insertAt es (t.put (pAt t.mask (tupleKeyHash knd k) m0).j).2 (tupleKeyHash knd k,Value.ref b)) t2
   if(!false&&t2.tooFull)=true then do
    setRelay a (SetTable.grown n)
    pure true
   else pure true) Q E s:=by
 have hsz:es.size=xs.length:=by rw[<-aP,he,aa]
 generalize hp:(t.put (pAt t.mask (tupleKeyHash knd k) m0).j).2=p
 have hp':p=SetTable.below t.place (pAt t.mask (tupleKeyHash knd k) m0).j:=by rw[<-hp];rfl
 have Ng:p<=xs.length:=by
  have h1:=(mz W.rise (pAt t.mask (tupleKeyHash knd k) m0).j).1
  have h2:=W.len
  rw[aa]at h2
  omega
 generalize hes:SetTable.insertAt es p (tupleKeyHash knd k,Value.ref b)=es1
 have he1:es1.toList=(xs.take p++(k,b)::xs.drop p).map (vA knd):=by
  rw[<-hes,dq,he]
  exact sg (vA knd) xs (k,b) p
 have uf:(xs.take p++(k,b)::xs.drop p).Perm (xs ++ [(k,b)]):=by
  refine List.perm_middle.trans ?_
  rw[cD]
  exact(List.perm_append_singleton (k,b) xs).symm
 have hl1:(xs.take p++(k,b)::xs.drop p).length=xs.length+1:=by rw[uf.length_eq];simp
 have hs1:es1.size=xs.length+1:=by rw[<-aP,he1,aa,hl1]
 have GB:((xs.take p++(k,b)::xs.drop p).map (·.1)).Nodup:=by
  refine(uf.map (·.1)).nodup_iff.mpr ?_
  rw[ar]
  refine bC.mpr ⟨hnd,by simp,λx hx y hy=>?_⟩
  simp at hy
  subst hy
  exact λz=>hn (z ▸ hx)
 have hh1:(xs.take p++(k,b)::xs.drop p).map (λx=>tupleKeyHash knd x.1)=(xs.map λx=>tupleKeyHash knd x.1).take p++tupleKeyHash knd k::(xs.map λx=>tupleKeyHash knd x.1).drop p:=
  (sg (λx=>tupleKeyHash knd x.1) xs (k,b) p).symm
 have Dq:t2.mask=t.mask:=by rw[ht];rfl
 have Gy:t2.place.size=xs.length+1:=by
  have h2:=W.len
  rw[aa]at h2
  have:t2.place=SetTable.insertAt t.place p (pAt t.mask (tupleKeyHash knd k) m0).j:=by rw[ht,hp'];rfl
  rw[this,<-aP,dq,ah,aO,aN,bA,aP]
  omega
 have GP:t2.dummies = #[]:=by
  rw[ht]
  show(if SetTable.has t.dummies _ then SetTable.eraseAt t.dummies _ else t.dummies) = #[]
  rw[W.dum]
  simp[SetTable.has]
 have Du:t2.fill=xs.length+1:=by unfold SetTable.fill;rw[Gy,GP];rfl
 have EH:=W.room
 rw[aa]at EH
 have h7:7<=t.mask:=by
  obtain⟨q,q1,q2⟩:=W.pow
  have:2 ^ 3<=2 ^ q:=cL (by decide) q1
  omega
 have hz1:es1.size<=sizeLine:=by rw[hs1,cF];omega
 refine ae (wpAny_storeSet_of ho hd ?_ hz1)
 have ho1:=AE ho hd es1 t2
 have sb1:Heap.SameBut a s.heap (s.heap.update a (Obj.putSet es1 t2)):=ed s.heap a (Obj.putSet es1 t2)
 by_cases full:t2.tooFull=true
 ·rw[full]
  simp only[Bool.not_false,Bool.and_self,dj]
  unfold setRelay
  have GO:t2.fits es1.size=true:=by
   simp only[SetTable.fits,Du,Gy,hs1,et,Bool.true_and,dk,Dq]
   omega
  refine ae (ae (dC (s:={s with heap:=s.heap.update a (Obj.putSet es1 t2)}) ho1 rfl GO ?_))
  dsimp only
  have hgr:SetTable.grown n=4*(xs.length+1):=by
   unfold SetTable.grown
   rw[aF (by omega)]
   omega
  obtain⟨q,q1,q2,q3⟩:=uI (n:=SetTable.grown n) (by rw[hgr];omega)
  have hle:SetTable.sizeAbove (SetTable.grown n)<=2 ^ 13:=oP 64 8 _ 13 ⟨3,by decide,rfl⟩ (by rw[hgr];omega)
  rw[aF (by rw[cF];omega)]
  generalize K0:SetTable.sizeAbove (SetTable.grown n)=big at q2 q3 hle
  have hhs:(es1.map (·.1)).toList=(xs.take p++(k,b)::xs.drop p).map (λx=>tupleKeyHash knd x.1):=by
   rw[Array.toList_map,he1,bu];rfl
  have GL:(es1.map (·.1)).size=xs.length+1:=by rw[Array.size_map];exact hs1
  have hb8:2 ^ 13=8192:=by decide
  obtain⟨t3,order,e3,_,_,pe,W3⟩:=CO (mask:=big-1) (p:=q) (by omega) q1 (hs:=es1.map (·.1)) (by rw[GL];omega) (by omega) t2.finger (t2.movedTo (big-1)) t2.led t2.plain
  have e3':t2.relaid (es1.map (·.1)) (SetTable.grown n)=some (t3,order):=by
   unfold SetTable.relaid
   rw[K0];exact e3
  rw[e3']
  refine ae ?_
  have pe':order.toList.Perm (List.range (xs.take p++(k,b)::xs.drop p).length):=by rw[hl1,<-GL];exact pe
  have he2:(order.filterMap (es1[·]?)).toList=((order.toList.filterMap λi=>(xs.take p++(k,b)::xs.drop p)[i]?)).map (vA knd):=by
   rw[Array.toList_filterMap,<-km,<-he1]
   congr 1
   funext i
   rw[bI]
  have hpm:=sT pe'
  have hs2:(order.filterMap (es1[·]?)).size=es1.size:=by
   rw[<-aP,he2,aa,hpm.length_eq,hl1,hs1]
  have hne:((order.filterMap (es1[·]?)).size !=es1.size)=false:=by rw[hs2];simp
  show wpAny _ _ (if((order.filterMap (es1[·]?)).size !=es1.size)=true then _ else _) _ _ _
  rw[hne,aF aA]
  refine aj ?_
  dsimp only
  refine wpAny_storeSet_of (s:={s with heap:=s.heap.update a (Obj.putSet es1 t2)}) ho1 rfl ?_ (by rw[hs2];exact hz1)
  refine aj (vj _ _ (sb1.trans (ed _ a _)) ⟨_,_,_,t3,AE ho1 rfl _ _,hex,rfl,he2,?_,?_⟩ (hpm.trans uf))
  ·exact((hpm.map (·.1)).nodup_iff).mpr GB
  ·have:(order.toList.map λi=>(es1.map (·.1)).getD i 0)=(order.toList.filterMap λi=>(xs.take p++(k,b)::xs.drop p)[i]?).map (λx=>tupleKeyHash knd x.1):=by
    rw[<-km,<-hhs,<-xH (by rw[hhs,aa];exact pe')]
    congr 1
    funext i
    simp[Array.getD_eq_getD_getElem?,aE]
   rw[<-this]
   exact W3
 ·have yZ:t2.tooFull=false:=by cases h:t2.tooFull with |false=>rfl |true=>exact(full h).elim
  rw[yZ]
  simp only[Bool.and_false,aL,bF]
  refine aj (vj _ _ sb1 ⟨_,es1,ep+1,t2,ho1,hex,rfl,he1,GB,?_⟩ uf)
  rw[hh1,ht,<-hp]
  refine W.put g1 g2 c ?_
  rw[aa]
  unfold SetTable.tooFull at yZ
  rw[Du,Dq]at yZ
  simp at yZ
  omega
theorem sO {a b:Addr}{xs:List (List K×Addr)}{k:List K}{Q:Bool->Shared->Prop}(hu:A.units<cLine)(hsc:∀ k v,knd.is k v=true->v.scannable=true)(hS:nv knd s.heap a xs)
  (hx:∀ x∈xs,IsTupleKey knd s.heap x.1 x.2) (hk:IsTupleKey knd s.heap k b) (si:xs.length<2000)
  (hold:k∈xs.map (·.1)->Q false s) (vj:k∉xs.map (·.1)->∀ h' xs',Heap.SameBut a s.heap h'->nv knd h' a xs'->xs'.Perm (xs ++ [(k,b)])->Q true {s with heap:=h'}):
  wpAny (model prog w) A (setAddHashed a (.ref b) (tupleKeyHash knd k)) Q E s:=by
 obtain⟨o,es,ep,t,ho,hex,hd,he,hnd,W⟩:=hS
 have hsz:es.size=xs.length:=by rw[<-aP,he,aa]
 have wI:t.fits es.size=true:=by have:=W.fits;rw[aa]at this;rw[hsz];exact this
 unfold setAddHashed setAddHashedIn
 refine b9 (ae (dC ho hd wI ?_))
 dsimp only
 rw[yi]
 simp only[aL,bF]
 refine ae (zp hu ho hd he hnd W hx hk (λi y hi=>?_) λhn m0 g1 g2=>?_)
 ·exact aj (hold (ak.mpr ⟨_,aw hi,rfl⟩))
 ·dsimp only
  refine ae (dC ho hd wI ?_)
  dsimp only
  have tl:∀ (bv:Bool),wpAny (model prog w) A (do
   storeSet a (SetTable.insertAt es (t.put (pAt t.mask (tupleKeyHash knd k) m0).j).2 (tupleKeyHash knd k,Value.ref b)) (if bv=true then(t.put (pAt t.mask (tupleKeyHash knd k) m0).j).1 else {(t.put (pAt t.mask (tupleKeyHash knd k) m0).j).1 with plain:=false})
   if(!false&&(if bv=true then(t.put (pAt t.mask (tupleKeyHash knd k) m0).j).1 else {(t.put (pAt t.mask (tupleKeyHash knd k) m0).j).1 with plain:=false}).tooFull)=true then do
    setRelay a (SetTable.grown (es.size+1))
    pure true
   else pure true) Q E s:=λbv=>by
   cases bv with
   |true=>exact qm ho hex hd he hnd W si hn g1 g2 (vj hn) (c:=(t.put (pAt t.mask (tupleKeyHash knd k) m0).j).1.plain) (by rw[aJ rfl]) rfl
   |false=>exact qm ho hex hd he hnd W si hn g1 g2 (vj hn) (c:=false) (by rw[aF aA]) rfl
  split
  ·exact ae (zq hk hsc tl)
  ·exact ae (aj (tl true))
theorem Ci {a b:Addr}{xs:List (List K×Addr)}{k:List K}{Q:Bool->Shared->Prop}(hu:A.units<cLine)(hsc:∀ k v,knd.is k v=true->v.scannable=true)(hS:nv knd s.heap a xs)
  (hx:∀ x∈xs,IsTupleKey knd s.heap x.1 x.2) (hk:IsTupleKey knd s.heap k b) (si:xs.length<2000)
  (hold:k∈xs.map (·.1)->Q false {s with toks:=s.toks+(k.length+1)}) (vj:k∉xs.map (·.1)->∀ h' xs',Heap.SameBut a s.heap h'->nv knd h' a xs'->xs'.Perm (xs ++ [(k,b)])->Q true {s with heap:=h',toks:=s.toks+(k.length+1)}):
  wpAny (model prog w) A (setAdd a (.ref b)) Q E s:=by
 unfold setAdd
 refine b9 ?_
 refine ae (wpAny_pyHash_tuple hu hk ?_)
 exact sO (s:={s with toks:=s.toks+(k.length+1)}) hu hsc hS hx hk si hold vj
theorem sY {a b:Addr}{xs:List (List K×Addr)}{k:List K}{Q:Value->Shared->Prop}(hu:A.units+1<cLine)(hsc:∀ k v,knd.is k v=true->v.scannable=true)(hS:nv knd s.heap a xs)
  (hx:∀ x∈xs,IsTupleKey knd s.heap x.1 x.2) (hk:IsTupleKey knd s.heap k b) (si:xs.length<2000)
  (hold:k∈xs.map (·.1)->Q .none {s with toks:=s.toks+(k.length+1)}) (vj:k∉xs.map (·.1)->∀ h' xs',Heap.SameBut a s.heap h'->nv knd h' a xs'->xs'.Perm (xs ++ [(k,b)])->Q .none {s with heap:=h',toks:=s.toks+(k.length+1)}):
  wpAny (model prog w) A (call (.builtin "set.add") [.ref a,.ref b]) Q E s:=by
 refine cA F.slot_set_add hS.typeIs F.entry_set_add ?_ (F.args_set_add_2 _ _)
 unfold Builtin.«set.add» Builtin.Frozenset.oneOther
 simp only[List.isEmpty_nil,bind_assoc]
 unfold Builtin.Frozenset.addrOf
 refine ae (aj ?_)
 try dsimp only
 refine ae (aj ?_)
 try dsimp only
 refine ae (Ci (cJ (knd:=knd) hu) hsc hS hx hk si (λz=>?_) λz h' xs' q1 q2 q3=>?_)
 ·show wpAny _ _ (ret Value.none) _ _ _
  exact aj ⟨_,rfl,hold z⟩
 ·show wpAny _ _ (ret Value.none) _ _ _
  exact aj ⟨_,rfl,vj z h' xs' q1 q2 q3⟩
end
open PySem.Spec PyProof.Rows L2
def nW (P:Program)(w:World)(a:Addr)(xs:List (List Key×Addr)):HO:=.ext λh=>nv (fB P w) h a xs
abbrev keysOf (xs:List (List Key×Addr)):List (List Key):=xs.map λx=>x.1
def nu (K:PySem.W.Frag)(H:Hp)(xs:List (List Key×Addr)):Prop:=∀ x∈xs,SqT K H x.2 (x.1.map kV)
theorem Bo {P:Program}{w:World} :∀ (k:Key) (v:Value),(fB P w).is k v=true->v.scannable=true:=λk v h=>by
 rcases gT (k:=k) (v:=v) h with⟨i,t,_,rfl⟩|⟨x,t,_,rfl⟩<;>rfl
theorem nv.ot {P:Program}{w:World}{h1 h2:Heap}{a:Addr}{xs:List (List Key×Addr)}(p:nv (fB P w) h1 a xs)(k:∀ o,h1.get? a=some o->h2.get? a=some o):nv (fB P w) h2 a xs:=by
 obtain⟨o,es,ep,t,ho,r⟩:=p
 exact⟨o,es,ep,t,k _ ho,r⟩
theorem nv.obj {P:Program}{w:World}{h:Heap}{H:Hp}{a:Addr}{xs:List (List Key×Addr)}(p:nv (fB P w) h a xs):gD P w H h a (nW P w a xs):=by
 obtain⟨o,es,ep,t,ho,r⟩:=id p
 exact⟨p,⟨o,ho⟩,λh1 h2 q k=>q.ot k⟩
section
variable {X:Cx}{pins:List (Addr×Obj)}{σ:St}{H:Hp}{s:Shared}
theorem Inv.FA {l:Addr}{xs:List (List Key×Addr)}(I:Inv X pins σ H s)(h:H l=some (nW X.prog X.w l xs)):nv (fB X.prog X.w) s.heap l xs:=(I.hok l _ h).1
theorem Inv.Gf {b:Addr}{k:List Key}(I:Inv X pins σ H s)(h:SqT X.K H b (k.map kV)):IsTupleKey (fB X.prog X.w) s.heap k b:=by
 obtain⟨its,r,⟨o,h1,h2,n,h3⟩,z⟩:=I.tuple h
 exact⟨o,its.toArray,n,h1,h2,h3,by simpa using pY r⟩
theorem Inv.Ge {xs:List (List Key×Addr)}(I:Inv X pins σ H s)(h:nu X.K H xs):∀ x∈xs,IsTupleKey (fB X.prog X.w) s.heap x.1 x.2:=λx hx=>Inv.Gf I (h x hx)
def DY (P:Program)(w:World)(K:PySem.W.Frag):V->List V->Hp->VK->Prop:=λx vs H Q=>∃ (l:Addr) (xs:List (List Key×Addr)) (k:List Key) (b:Addr),x = .ref l/\vs = [.ref b]/\H l=some (nW P w l xs)/\nu K H xs/\SqT K H b (k.map kV)/\xs.length<2000/\
 (k∈keysOf xs->Q .non H)/\(k∉keysOf xs->∀ xs',xs'.Perm (xs ++ [(k,b)])->Q .non (upd H l (nW P w l xs')))
theorem Bh (hu:X.A.units+1<cLine):MtR X "set.add" (DY X.prog X.w X.K):=by
 intro pins s σ H x vs v us Q I rx rv h
 obtain⟨l,xs,k,b,rfl,rfl,hH,ht,hb,hz,q1,q2⟩:=h
 cases rx
 obtain⟨u,rfl,rb⟩:=rv.one
 cases rb
 refine sY hu Bo (Inv.FA I hH) (Inv.Ge I ht) (Inv.Gf I hb) hz (λz=>⟨.non,H,I.tok _,rfl,q1 z⟩) λz h' xs' sb hS p=>?_
 refine⟨.non,_,I.write (t':=s.toks+(k.length+1)) (o:=nW X.prog X.w l xs') (x:=l) (e:=l) (by rw[hH];exact trivial) (.inl rfl) (λb u hb e=>sb.extBut b u hb e) ?_ hS.obj,rfl,q2 z xs' p⟩
 obtain⟨o,_,_,_,e,_⟩:=hS;exact⟨o,e⟩
theorem Ar:jC X (.builtin "len") (λxs H Q=>∃ p ys,xs = [.ref p]/\H p=some (nW X.prog X.w p ys)/\Q (.int ys.length) H):=by
 intro pins s σ H xs us Q I r h
 obtain⟨p,ys,rfl,hH,q⟩:=h
 obtain⟨u,rfl,rx⟩:=vals1 r
 cases rx
 obtain⟨o,es,ep,t,ho,hex,hd,he,hnd,W⟩:=Inv.FA I hH
 have hsz:es.size=ys.length:=by rw[<-aP,he,aa]
 have wI:t.fits es.size=true:=by have:=W.fits;rw[aa]at this;rw[hsz];exact this
 have h1:=W.room
 have h2:=W.small
 rw[aa]at h1
 exact call_len_set ho hex hd wI (by omega) ⟨.int ys.length,H,I.tok _,⟨_,by rw[hsz]⟩,q⟩
end
theorem qZ {α:Type} [DecidableEq α]:∀ {l m:List α},l.Nodup->(∀ x∈l,x∈m)->l.length<=m.length
 |[],m,_,_=>aH _
 |x::l,m,hn,hs=>by
  rw[bq]at hn
  have hx:=hs x aB
  have:=@qZ α _ l (m.erase x) hn.2 λy hy=>by
   refine(dE ?_).mpr (hs y (ax _ hy))
   rintro rfl
   exact hn.1 hy
  have h2:=cW hx
  have h3:0<m.length:=List.length_pos_of_mem hx
  rw[aO]
  omega
theorem uZ {α:Type} [DecidableEq α]:∀ {l m:List α},l.Nodup->(∀ x∈l,x∈m)->m.length<=l.length->m.Nodup:=by
 intro l
 induction l with
 |nil=>
  intro m _ _ hl
  have:m = []:=List.eq_nil_of_length_eq_zero (by simpa using hl)
  subst this;exact b6
 |cons x l ih=>
  intro m hn hs hl
  rw[bq]at hn
  have hx:=hs x aB
  have h2:=cW hx
  have h3:0<m.length:=List.length_pos_of_mem hx
  have CU:∀ y∈l,y∈m.erase x:=λy hy=>by
   refine(dE ?_).mpr (hs y (ax _ hy))
   rintro rfl
   exact hn.1 hy
  have he:=ih (m:=m.erase x) hn.2 CU (by rw[aO]at hl;omega)
  refine(List.perm_cons_erase hx).nodup_iff.mpr (bq.mpr ⟨λz=>?_,he⟩)
  have:=qZ (l:=x::l) (m:=m.erase x) (bq.mpr hn) λy hy=>(aG.mp hy).elim (λe=>e ▸ z) (CU y)
  rw[aO]at this hl
  omega
section
variable {prog:Program}{w:World}{A:Around}{R:Result->Shared->Prop}{I:Addr}{fp wr:List Addr}{G:Array GenState->Array GenState->Prop}{n:Nat}{P:Nat->Value->Prop}{St:Nat->Shared->Prop}
end
section
variable {prog:Program}{w:World}{A:Around}{E:Value->Shared->Prop}{s:Shared}
end
section
variable {X:Cx}
end
section
variable {X:Cx}{o e:Expr}{es:List Expr}{to:TE}{t:TA}{name:Str}{apos i8:Pos}{id:String}{r:V->List V->Hp->VK->Prop}
end
theorem nu.same {K:PySem.W.Frag}{H H':Hp}{xs:List (List Key×Addr)}(h:nu K H xs)(s:eQ H H'):nu K H' xs:=λx hx=>fq s (h x hx)
open HT
section
variable {prog:Program}{w:World}{A:Around}{E:Value->Shared->Prop}{s:Shared}
end
section
variable {X:Cx}{e:Expr}{te:TE}{pos p2:Pos}
end
section
variable {X:Cx}{a b c d:Expr}{ta tb tc td:TE}{pos:Pos}
end
end TL
namespace TL
open PySem PySem.Spec PyProof.Rows L2
section
variable {X:Cx}
end
theorem tZ {H H':Hp}(s:eQ H H'){q:Addr}(h:H' q=none):H q=none:=by
 cases q0:H q with
 |none=>rfl
 |some o=>rw[s _ _ q0]at h;cases h
section
variable {X:Cx}
end
section
variable {X:Cx}{K:PySem.W.Frag}{T:String}{name:Str}{id:String}{r:V->List V->Hp->VK->Prop}{o e:Expr}{es:List Expr}{to:TE}{t:TA}{apos i8:Pos}
end
section
variable {K:PySem.W.Frag}{l:Addr}{g:TG}{tt:TT}{te:TE}{cap:List (Option Nat)}{σ:St}{Q:VK}{H1:Hp}{J:It}
end
section
variable {X:Cx}
end
open PySem.W
def ev {α:Type} :List α->List α
 |[]=>[]
 |[x]=>[x]
 |x::_::r=>x::ev r
section
variable {X:Cx}{e st lo:Expr}{te ts tl:TE}{pos p2:Pos}
end
section
variable {X:Cx}{tg:Expr}
end
section
variable {X:Cx}
end
section
variable {X:Cx}
end
section
variable {X:Cx}{tg:Expr}
end
end TL
namespace TL
open PySem PySem.Spec PyProof.Rows L2 TS
section
variable {prog:Program}{w:World}{A:Around}{R:Result->Shared->Prop}{s:Shared}
theorem pj {kx vx target iter:Expr}{ifs:List Expr}{scope:Scope}{pos:Pos}{it:Value}{D:Addr}{env:Env}(I:Nat->Shared->Prop)
  (turn:∀ n s,I n s->wpAny (model prog w) A (pyNext it) (λr s₁=>match r with
   |none=>R (.ok .next) s₁
   |some v=>wpAny (model prog w) A (letOwnedTupleGo target it v) (λ_ s₀=>wpAny (model prog w) A (assign target env v) (λ_ s₂=>
     wpAny (model prog w) A (qK ifs env) (λok s₃=>
      if ok=true then wpAny (model prog w) A (eval kx env) (λkv s₄=>wpAny (model prog w) A (eval vx env) (λvv s₅=>
       wpAny (model prog w) A (dictSet D kv vv) (λ_ s₆=>∃ m,m<n/\I m s₆) (λ_ _=>False) s₅) (λ_ _=>False) s₄) (λ_ _=>False) s₃
      else ∃ m,m<n/\I m s₃) (λ_ _=>False) s₂) (λ_ _=>False) s₀) (λ_ _=>False) s₁) (λ_ _=>False) s)
  (n:Nat) (h:I n s):
  codeAny (model prog w) A (.compLoop (.DictComp kx vx [⟨target,iter,ifs,0⟩] scope pos) 0 it (.ref D) env) R s:=by
 refine codeAny_loop rfl I (λn s hI=>?_) n h
 show wpAny _ A ((compTurn (.DictComp kx vx [⟨target,iter,ifs,0⟩] scope pos) 0 it (.ref D) env).onRaise (λx=>do noteFrame x env;theTreesLotGoes x)) _ _ s
 refine wpAny_noted ?_
 rw[compTurn_dict]
 refine ae (cm (ae (aZ (turn n s hI) (λr s₁ h₁=>?_) λ_ _ h'=>h'.elim)))
 cases r with
 |none=>exact aj h₁
 |some v=>
  refine ae (aZ h₁ (λ_ s₀ h₀=>?_) λ_ _ h'=>h'.elim)
  refine ae (aZ h₀ (λ_ s₂ h₂=>ae (aZ h₂ (λok s₃ h₃=>?_) λ_ _ h'=>h'.elim)) λ_ _ h'=>h'.elim)
  cases ok with
  |false=>exact aj ⟨rfl,h₃⟩
  |true=>
   exact ae (ae (aZ h₃ (λkv s₄ h₄=>ae (b9 (aZ h₄ (λvv s₅ h₅=>ae (cm (b9 (aZ h₅ (λ_ s₆ h₆=>aj ⟨rfl,h₆⟩) λ_ _ h'=>h'.elim)))) λ_ _ h'=>h'.elim))) λ_ _ h'=>h'.elim))
end
section
variable {X:Cx}{pins:List (Addr×Obj)}{σ:St}{H1:Hp}{s2:Shared}{scope:Scope}{N:List Str}{own:Nat}{cap:List (Option Nat)}{cl:List (Str×Addr)}{fp:List Addr}
 {tg iter elt vlt:Expr}{ifs:List Expr}{pos:Pos}{g:TG}{tt:TT}{te tv:TE}{wi:TI}
def Hn (P:Program)(w:World)(K:PySem.W.Frag)(J:It)(g:TG)(tt:TT)(te:TE)(cap:List (Option Nat))(σ:St)(Q:VK)(l:Addr)(H1:Hp):Prop:=
 ∃ W:Nat->Nat->Hp->Prop,(∃ m,W 0 m (upd H1 l (nW P w l [])))/\∀ i m H,W i m H->
  (J.stop i H/\Q (.ref l) H)\/(J.go i H/\∃ N:Hp->Prop,(∀ H',N H'->∃ m',m'<m/\W (i+1) m' H')/\
   ∀ x H',J.yld i H x H'->g x (gJ cap σ) H' λσ2 H2=>tt σ2 H2 λb H3=>
    if b=true then te σ2 H3 λy H4=>∃ (xs:List (List Key×Addr)) (k:List Key) (b:Addr),y = .ref b/\H4 l=some (nW P w l xs)/\nu K H4 xs/\SqT K H4 b (k.map kV)/\xs.length<2000/\(k∈keysOf xs->N H4)/\(k∉keysOf xs->∀ xs',xs'.Perm (xs ++ [(k,b)])->N (upd H4 l (nW P w l xs')))
    else N H3)
def Hx (P:Program)(w:World)(K:PySem.W.Frag)(wi:TI)(cap:List (Option Nat))(g:TG)(tt:TT)(te:TE):TE:=λσ H Q=>wi σ H λJ H1=>∀ l,H1 l=none->
 Hn P w K J g tt te cap σ Q l H1
theorem yg {it:Addr}{tn:Nat->Heap->Prop}{J:It}{Q:VK}{RR:Value->Addr->Result->Shared->Prop}{E:Value->Shared->Prop}(hu:X.A.units+1<cLine)(I:Inv X pins σ H1 s2)(T:Turn X.prog X.w X.K tg J fp it tn)(t0:tn 0 s2.heap)
  (f:∀ b∈fp,kg X pins H1 b) (hc:X.calm=true) (C:fG X.env.scope X.N scope N own cap) (ho:nX own g)
  (i5:∀ x c,cl.lookup x=some c->X.env.cells.lookup x=some c) (ku:∀ y∈scope.names,y.2 = .free->∃ c,cl.lookup y.1=some c)
  (hg:∀ s3 H3,PG (eZ X scope cl N fp s3 H3) tg g) (ht:∀ s3 H3,qi (eZ X scope cl N fp s3 H3) ifs tt) (he:∀ s3 H3,PE (eZ X scope cl N fp s3 H3) elt te)
  (hw:∀ l,H1 l=none->Hn X.prog X.w X.K J g tt te cap σ Q l H1)
  (fin:∀ l C s' H' m',Inv X pins σ H' s'->s'.heap.Ns C m'->H' C=none->Apart X pins C->Q (.ref l) H'->RR (.ref l) C (.ok .next) s'):
  wpAny (model X.prog X.w) X.A (newSet (.type "set")) (λacc s₃=>wpAny (model X.prog X.w) X.A (newFunctionEnv scope X.env.globals cl [] X.env.qual none .none (some X.env)) (λpx s₄=>
   codeAny (model X.prog X.w) X.A (.compStart (.SetComp elt [⟨tg,iter,ifs,0⟩] scope pos) 0 (.ref it) acc {px with scope:=relabel scope X.env}) (RR acc px.locals) s₄) E s₃) E s2:=by
 refine wpAny_newSet_of (knd:=intKind X.prog X.w) λled Gs=>?_
 refine cV C.pV (by intro y hy;simp at hy) (λh₁ iA iz=>?_) C.kind
 dsimp only at iA iz ⊢
 have hS:nv (fB X.prog X.w) (s2.heap.push {cls:=.type "set",dict:=none,data:=.set #[] 0 (.fresh 0 0 led)}) s2.heap.objs.size []:=
  ⟨_,#[],0,_,bc _ rfl,⟨rfl,rfl,rfl⟩,rfl,rfl,b6,WFT.fresh _ _ _⟩
 obtain⟨W,⟨m0,w0⟩,turn⟩:=hw s2.heap.objs.size I.fresh
 have I3:Inv X pins σ (upd H1 s2.heap.objs.size (nW X.prog X.w s2.heap.objs.size [])) {s2 with heap:=s2.heap.push {cls:=.type "set",dict:=none,data:=.set #[] 0 (.fresh 0 0 led)}} :=
  I.laid (t':=s2.toks) (λb u e=>av _ e) (ao _) hS.obj
 generalize hs3:({s2 with heap:=s2.heap.push {cls:=.type "set",dict:=none,data:=.set #[] 0 (.fresh 0 0 led)}} :Shared)=s3 at I3
 have hh3:s3.heap=s2.heap.push {cls:=.type "set",dict:=none,data:=.set #[] 0 (.fresh 0 0 led)} :=by rw[<-hs3]
 rw[<-hh3]at iA iz ⊢
 have e4:({s2 with heap:=h₁,toks:=s2.toks+([]:List (Str×Value)).length} :Shared) = {s3 with heap:=h₁,toks:=s2.toks} :=by rw[<-hs3];rfl
 rw[e4]
 have k4:∀ b u,s3.heap.get? b=some u->h₁.get? b=some u:=λb u e=>iz.extBut b u (aI (ay e)) (av _ e)
 have k3:∀ b u,s2.heap.get? b=some u->s3.heap.get? b=some u:=λb u e=>by rw[hh3];exact av _ e
 have hb2:∀ b∈fp,b<s2.heap.objs.size:=λb hb=>by obtain⟨o,e,_⟩:=T.obj _ _ t0 b hb;exact ay e
 have f3:∀ b∈fp,kg X pins (upd H1 s2.heap.objs.size (nW X.prog X.w s2.heap.objs.size [])) b:=λb hb=>by
  obtain⟨f0,fr⟩:=f b hb
  exact⟨by rw[eN (aI (hb2 b hb))];exact f0,fr⟩
 have hb3:∀ b∈fp,b<s3.heap.objs.size:=λb hb=>by obtain⟨o,e,_⟩:=T.obj _ _ t0 b hb;exact ay (k3 b o e)
 have I4:=mV (tk:=s2.toks) I3 C i5 ku (λb hb=>⟨f3 b hb,hb3 b hb⟩) iA k4
 generalize hH3:upd H1 s2.heap.objs.size (nW X.prog X.w s2.heap.objs.size [])=H3 at *
 have st4:tn 0 h₁:=T.keep _ _ _ t0 λb hb o e=>k4 b o (k3 b o e)
 have fpX:∀ {H':Hp},(∀ b∈fp,H' b=none)->∀ b∈fp,kg (eZ X scope cl N fp s3 H3) [] H' b:=λ{H'} hn b hb=>by
  obtain⟨f0,f1,f2,f3',f4,f5⟩:=f3 b hb
  refine⟨hn b hb,aI (hb3 b hb),λhz=>?_,.inl hb,λx c e=>f4 x c (i5 x c e),λp hp=>absurd (show p∈([]:List (Addr×Obj)) from hp) (by simp)⟩
  rcases aG.mp (I3.lJ b hz)with z |z
  ·exact f1 z
  ·exact f2 z
 have loop:codeAny (model X.prog X.w) X.A (.compLoop (.SetComp elt [⟨tg,iter,ifs,0⟩] scope pos) 0 (.ref it) (.ref s2.heap.objs.size) (compEnvC scope cl s3.heap.objs.size X.env)) (RR (.ref s2.heap.objs.size) s3.heap.objs.size) {s3 with heap:=h₁,toks:=s2.toks} :=by
  refine ph (λn s'=>∃ i H',Inv (eZ X scope cl N fp s3 H3) [] (gJ cap σ) H' s'/\tn i s'.heap/\(∀ b∈fp,H' b=none)/\W i n H') ?_ m0 ⟨0,H3,I4,st4,λb hb=>(f3 b hb).1,w0⟩
  rintro n s' ⟨i,H',I',st,fr,w⟩
  rcases turn i n H' w with⟨stop,q⟩|⟨go,NN,hNN,step⟩
  ·refine thn (T.done (eZ X scope cl N fp s3 H3) rfl rfl rfl hc i [] s' _ H' (λ_ _=>False) I' (fpX fr) st stop) λr s5 ⟨hr,I5⟩=>?_
   subst hr
   obtain⟨m5,hn5,_⟩:=id I5.loc
   exact fin _ _ s5 H' m5 (comp_back I3 f3 I5) hn5 I5.free (TL.Inv.apart I3) q
  ·refine thn (T.item (eZ X scope cl N fp s3 H3) rfl rfl rfl hc i [] s' _ H' (λ_ _=>False) I' (fpX fr) st go) λr s5 ⟨u,hr,h5⟩=>?_
   subst hr
   refine thn h5 λ_ s6 ⟨x,H6,I6,r6,y6,st6,fr6⟩=>?_
   have I6':=I6.pinned (fpX fr6) (T.obj _ _ st6)
   refine thn (hg s3 H3 _ s6 _ H6 x u _ I6' r6 (ho.own _ _ _ _ (step x H6 y6))) λ_ s7 ⟨σ7,H7,I7,q7,l7,o7⟩=>?_
   have cov:∀ (i:Nat) v,(gJ cap σ)[i]? = some (some v)->σ7[i]? = some (some v):=λi v e=>by
    obtain⟨j,c1,c2⟩:=kI e
    by_cases hi:i<own
    ·exact(C.mR hi c1).elim
    ·rw[o7 i (by omega)];exact e
   have back:∀ {H8:Hp}{s8:Shared},Inv (eZ X scope cl N fp s3 H3) ([]++mw fp s6.heap) σ7 H8 s8->Inv (eZ X scope cl N fp s3 H3) [] (gJ cap σ) H8 s8/\tn (i+1) s8.heap/\∀ b∈fp,H8 b=none:=λ{H8 s8} I8=>by
    refine⟨(Inv.jZ (pins:=[]) I8).weak l7.symm cov,T.keep _ _ _ st6 λb hb o e=>(I8.pin (b,o) (au _ (au _ (gK hb e)))).1,λb hb=>?_⟩
    obtain⟨o,e,d⟩:=T.obj _ _ st6 b hb
    exact(I8.pin (b,o) (au _ (au _ (gK hb e)))).2.1
   refine thn (ht s3 H3 _ s7 σ7 H7 _ I7 q7) λb s8 ⟨H8,I8,q8⟩=>?_
   cases b with
   |false=>
    rw[aF aA]at q8 ⊢
    obtain⟨m',hm,w8⟩:=hNN _ q8
    obtain⟨J1,J2,J3⟩:=back I8
    exact⟨m',hm,i+1,H8,J1,J2,J3,w8⟩
   |true=>
    rw[aJ rfl]at q8 ⊢
    refine thn (he s3 H3 _ s8 σ7 H8 _ I8 q8) λv s9 ⟨y,H9,I9,r9,xs,k,b,ey,ha,hT,hb,hz,n1,n2⟩=>?_
    subst ey
    refine thn (Bh (X:=eZ X scope cl N fp s3 H3) hu _ s9 σ7 H9 (.ref s2.heap.objs.size) [.ref b] (.ref s2.heap.objs.size) [v] (λ_ H10=>NN H10) I9 rfl (.cons r9 .nil) ⟨_,xs,k,b,rfl,rfl,ha,hT,hb,hz,n1,n2⟩) λ_ s10 ⟨_,H10,I10,_,w10⟩=>?_
    obtain⟨m',hm,w9⟩:=hNN _ w10
    obtain⟨J1,J2,J3⟩:=back I10
    exact⟨m',hm,i+1,H10,J1,J2,J3,w9⟩
 exact oj loop (T.self X.A 0 _ _ _ st4 loop)
theorem Ec (hu:X.A.units+1<cLine)(hi:PI X tg iter wi)(hc:X.calm=true)(C:fG X.env.scope X.N scope N own cap)(ho:nX own g)
  (hg:∀ cl fp s3 H3,PG (eZ X scope cl N fp s3 H3) tg g) (ht:∀ cl fp s3 H3,qi (eZ X scope cl N fp s3 H3) ifs tt) (he:∀ cl fp s3 H3,PE (eZ X scope cl N fp s3 H3) elt te)
  (hs:∀ x,foldedSetIterable iter X.env x=pure x:=by intro _;rfl):PE X (.SetComp elt [⟨tg,iter,ifs,0⟩] scope pos) (Hx X.prog X.w X.K wi cap g tt te):=by
 intro pins s σ H Q I h
 obtain⟨cl,ecl,i5,ku⟩:=jJ (scope:=scope) (env:=X.env) λy hy hf=>I.ok.has y.1 (C.fre y hy hf)
 rw[arm_eval_SetComp]
 refine cb (use:=none) rfl hs ecl C.kind C.loc (thn (hi pins s σ H _ I h) λxv s1 h1=>thn h1 λitv s2 h2=>?_)
 obtain⟨it,fp,tn,J,H2,e,I2,T,st2,f2,hw⟩:=h2
 subst e
 refine yg (RR:=λacc C=>compPost (model X.prog X.w) X.A X.xe none (EP X pins σ Q) acc C) hu I2 T st2 f2 hc C ho i5 ku (hg cl fp) (ht cl fp) (he cl fp) hw λl Ca s' H' m' I' hn jD hP q=>?_
 exact⟨m',hn,λh'' sh=>⟨.ref l,H',kH I' hP jD sh,rfl,q⟩⟩
end
section
variable {X:Cx}{pins:List (Addr×Obj)}{σ:St}{H1:Hp}{s2:Shared}{scope:Scope}{N:List Str}{own:Nat}{cap:List (Option Nat)}{cl:List (Str×Addr)}{fp:List Addr}
 {tg iter elt vlt:Expr}{ifs:List Expr}{pos:Pos}{g:TG}{tt:TT}{te tv:TE}{wi:TI}
def DcW (J:It)(g:TG)(tt:TT)(te tv:TE)(cap:List (Option Nat))(σ:St)(Q:VK)(l:Addr)(H1:Hp):Prop:=
 ∃ W:Nat->Nat->Hp->Prop,(∃ m,W 0 m (upd H1 l (.dT [])))/\∀ i m H,W i m H->
  (J.stop i H/\Q (.ref l) H)\/(J.go i H/\∃ N:Hp->Prop,(∀ H',N H'->∃ m',m'<m/\W (i+1) m' H')/\
   ∀ x H',J.yld i H x H'->g x (gJ cap σ) H' λσ2 H2=>tt σ2 H2 λb H3=>
    if b=true then te σ2 H3 λy H4=>tv σ2 H4 λv H5=>∃ (kvs:List (List Key×V)) (k:List Key) (b:Addr),y = .ref b/\H5 l=some (.dT kvs)/\H5 b=some (.tup (k.map kV))/\kvs.length<sizeLine/\N (upd H5 l (.dT (putK kvs k v)))
    else N H3)
def tDC (wi:TI)(cap:List (Option Nat))(g:TG)(tt:TT)(te tv:TE):TE:=λσ H Q=>wi σ H λJ H1=>∀ l,H1 l=none->
 DcW J g tt te tv cap σ Q l H1
theorem Ao {it:Addr}{tn:Nat->Heap->Prop}{J:It}{Q:VK}{RR:Value->Addr->Result->Shared->Prop}{E:Value->Shared->Prop}(hu:X.A.units<cLine)(I:Inv X pins σ H1 s2)(T:Turn X.prog X.w X.K tg J fp it tn)(t0:tn 0 s2.heap)
  (f:∀ b∈fp,kg X pins H1 b) (hc:X.calm=true) (C:fG X.env.scope X.N scope N own cap) (ho:nX own g)
  (i5:∀ x c,cl.lookup x=some c->X.env.cells.lookup x=some c) (ku:∀ y∈scope.names,y.2 = .free->∃ c,cl.lookup y.1=some c)
  (hg:∀ s3 H3,PG (eZ X scope cl N fp s3 H3) tg g) (ht:∀ s3 H3,qi (eZ X scope cl N fp s3 H3) ifs tt) (he:∀ s3 H3,PE (eZ X scope cl N fp s3 H3) elt te) (hv:∀ s3 H3,PE (eZ X scope cl N fp s3 H3) vlt tv)
  (hw:∀ l,H1 l=none->DcW J g tt te tv cap σ Q l H1)
  (fin:∀ l C s' H' m',Inv X pins σ H' s'->s'.heap.Ns C m'->H' C=none->Apart X pins C->Q (.ref l) H'->RR (.ref l) C (.ok .next) s'):
  wpAny (model X.prog X.w) X.A newDict (λacc s₃=>wpAny (model X.prog X.w) X.A (newFunctionEnv scope X.env.globals cl [] X.env.qual none .none (some X.env)) (λpx s₄=>
   codeAny (model X.prog X.w) X.A (.compStart (.DictComp elt vlt [⟨tg,iter,ifs,0⟩] scope pos) 0 (.ref it) acc {px with scope:=relabel scope X.env}) (RR acc px.locals) s₄) E s₃) E s2:=by
 refine cQ ?_
 refine cV C.pV (by intro y hy;simp at hy) (λh₁ iA iz=>?_) C.kind
 dsimp only at iA iz ⊢
 obtain⟨W,⟨m0,w0⟩,turn⟩:=hw s2.heap.objs.size I.fresh
 have I3:Inv X pins σ (upd H1 s2.heap.objs.size (.dT [])) {s2 with heap:=s2.heap.push {cls:=.type "dict",data:=.dict #[]}} :=
  I.laid (t':=s2.toks) (λb u e=>av _ e) (ao _) (sA s2.heap I.big)
 generalize hs3:({s2 with heap:=s2.heap.push {cls:=.type "dict",data:=.dict #[]}} :Shared)=s3 at I3
 have hh3:s3.heap=s2.heap.push {cls:=.type "dict",data:=.dict #[]} :=by rw[<-hs3]
 rw[<-hh3]at iA iz ⊢
 have e4:({s2 with heap:=h₁,toks:=s2.toks+([]:List (Str×Value)).length} :Shared) = {s3 with heap:=h₁,toks:=s2.toks} :=by rw[<-hs3];rfl
 rw[e4]
 have k4:∀ b u,s3.heap.get? b=some u->h₁.get? b=some u:=λb u e=>iz.extBut b u (aI (ay e)) (av _ e)
 have k3:∀ b u,s2.heap.get? b=some u->s3.heap.get? b=some u:=λb u e=>by rw[hh3];exact av _ e
 have hb2:∀ b∈fp,b<s2.heap.objs.size:=λb hb=>by obtain⟨o,e,_⟩:=T.obj _ _ t0 b hb;exact ay e
 have f3:∀ b∈fp,kg X pins (upd H1 s2.heap.objs.size (.dT [])) b:=λb hb=>by
  obtain⟨f0,fr⟩:=f b hb
  exact⟨by rw[eN (aI (hb2 b hb))];exact f0,fr⟩
 have hb3:∀ b∈fp,b<s3.heap.objs.size:=λb hb=>by obtain⟨o,e,_⟩:=T.obj _ _ t0 b hb;exact ay (k3 b o e)
 have I4:=mV (tk:=s2.toks) I3 C i5 ku (λb hb=>⟨f3 b hb,hb3 b hb⟩) iA k4
 generalize hH3:upd H1 s2.heap.objs.size (.dT [])=H3 at *
 have st4:tn 0 h₁:=T.keep _ _ _ t0 λb hb o e=>k4 b o (k3 b o e)
 have fpX:∀ {H':Hp},(∀ b∈fp,H' b=none)->∀ b∈fp,kg (eZ X scope cl N fp s3 H3) [] H' b:=λ{H'} hn b hb=>by
  obtain⟨f0,f1,f2,f3',f4,f5⟩:=f3 b hb
  refine⟨hn b hb,aI (hb3 b hb),λhz=>?_,.inl hb,λx c e=>f4 x c (i5 x c e),λp hp=>absurd (show p∈([]:List (Addr×Obj)) from hp) (by simp)⟩
  rcases aG.mp (I3.lJ b hz)with z |z
  ·exact f1 z
  ·exact f2 z
 have loop:codeAny (model X.prog X.w) X.A (.compLoop (.DictComp elt vlt [⟨tg,iter,ifs,0⟩] scope pos) 0 (.ref it) (.ref s2.heap.objs.size) (compEnvC scope cl s3.heap.objs.size X.env)) (RR (.ref s2.heap.objs.size) s3.heap.objs.size) {s3 with heap:=h₁,toks:=s2.toks} :=by
  refine pj (λn s'=>∃ i H',Inv (eZ X scope cl N fp s3 H3) [] (gJ cap σ) H' s'/\tn i s'.heap/\(∀ b∈fp,H' b=none)/\W i n H') ?_ m0 ⟨0,H3,I4,st4,λb hb=>(f3 b hb).1,w0⟩
  rintro n s' ⟨i,H',I',st,fr,w⟩
  rcases turn i n H' w with⟨stop,q⟩|⟨go,NN,hNN,step⟩
  ·refine thn (T.done (eZ X scope cl N fp s3 H3) rfl rfl rfl hc i [] s' _ H' (λ_ _=>False) I' (fpX fr) st stop) λr s5 ⟨hr,I5⟩=>?_
   subst hr
   obtain⟨m5,hn5,_⟩:=id I5.loc
   exact fin _ _ s5 H' m5 (comp_back I3 f3 I5) hn5 I5.free (TL.Inv.apart I3) q
  ·refine thn (T.item (eZ X scope cl N fp s3 H3) rfl rfl rfl hc i [] s' _ H' (λ_ _=>False) I' (fpX fr) st go) λr s5 ⟨u,hr,h5⟩=>?_
   subst hr
   refine thn h5 λ_ s6 ⟨x,H6,I6,r6,y6,st6,fr6⟩=>?_
   have I6':=I6.pinned (fpX fr6) (T.obj _ _ st6)
   refine thn (hg s3 H3 _ s6 _ H6 x u _ I6' r6 (ho.own _ _ _ _ (step x H6 y6))) λ_ s7 ⟨σ7,H7,I7,q7,l7,o7⟩=>?_
   have cov:∀ (i:Nat) v,(gJ cap σ)[i]? = some (some v)->σ7[i]? = some (some v):=λi v e=>by
    obtain⟨j,c1,c2⟩:=kI e
    by_cases hi:i<own
    ·exact(C.mR hi c1).elim
    ·rw[o7 i (by omega)];exact e
   have back:∀ {H8:Hp}{s8:Shared},Inv (eZ X scope cl N fp s3 H3) ([]++mw fp s6.heap) σ7 H8 s8->Inv (eZ X scope cl N fp s3 H3) [] (gJ cap σ) H8 s8/\tn (i+1) s8.heap/\∀ b∈fp,H8 b=none:=λ{H8 s8} I8=>by
    refine⟨(Inv.jZ (pins:=[]) I8).weak l7.symm cov,T.keep _ _ _ st6 λb hb o e=>(I8.pin (b,o) (au _ (au _ (gK hb e)))).1,λb hb=>?_⟩
    obtain⟨o,e,d⟩:=T.obj _ _ st6 b hb
    exact(I8.pin (b,o) (au _ (au _ (gK hb e)))).2.1
   refine thn (ht s3 H3 _ s7 σ7 H7 _ I7 q7) λb s8 ⟨H8,I8,q8⟩=>?_
   cases b with
   |false=>
    rw[aF aA]at q8 ⊢
    obtain⟨m',hm,w8⟩:=hNN _ q8
    obtain⟨J1,J2,J3⟩:=back I8
    exact⟨m',hm,i+1,H8,J1,J2,J3,w8⟩
   |true=>
    rw[aJ rfl]at q8 ⊢
    refine thn (he s3 H3 _ s8 σ7 H8 _ I8 q8) λu9 s9 ⟨y,H9,I9,r9,q9⟩=>?_
    refine thn (hv s3 H3 _ s9 σ7 H9 _ I9 q9) λv s10 ⟨v',H10,I10,r10,kvs,k,b,ey,ha,hb,hz,n10⟩=>?_
    obtain⟨m',hm,w10⟩:=hNN _ n10
    subst ey
    cases(show u9=Value.ref b from r9)
    refine BW (X:=eZ X scope cl N fp s3 H3) hu I10 ha hb hz r10 λs11 I11=>?_
    obtain⟨J1,J2,J3⟩:=back I11
    exact⟨m',hm,i+1,_,J1,J2,J3,w10⟩
 exact codeAny_compStart_dict loop (T.self X.A 0 _ _ _ st4 loop)
theorem Ee (hu:X.A.units<cLine)(hi:PI X tg iter wi)(hc:X.calm=true)(C:fG X.env.scope X.N scope N own cap)(ho:nX own g)
  (hg:∀ cl fp s3 H3,PG (eZ X scope cl N fp s3 H3) tg g) (ht:∀ cl fp s3 H3,qi (eZ X scope cl N fp s3 H3) ifs tt) (he:∀ cl fp s3 H3,PE (eZ X scope cl N fp s3 H3) elt te) (hv:∀ cl fp s3 H3,PE (eZ X scope cl N fp s3 H3) vlt tv)
  (hs:∀ x,foldedSetIterable iter X.env x=pure x:=by intro _;rfl):PE X (.DictComp elt vlt [⟨tg,iter,ifs,0⟩] scope pos) (tDC wi cap g tt te tv):=by
 intro pins s σ H Q I h
 obtain⟨cl,ecl,i5,ku⟩:=jJ (scope:=scope) (env:=X.env) λy hy hf=>I.ok.has y.1 (C.fre y hy hf)
 rw[arm_eval_DictComp]
 refine cb (use:=none) rfl hs ecl C.kind C.loc (thn (hi pins s σ H _ I h) λxv s1 h1=>thn h1 λitv s2 h2=>?_)
 obtain⟨it,fp,tn,J,H2,e,I2,T,st2,f2,hw⟩:=h2
 subst e
 refine Ao (RR:=λacc C=>compPost (model X.prog X.w) X.A X.xe none (EP X pins σ Q) acc C) hu I2 T st2 f2 hc C ho i5 ku (hg cl fp) (ht cl fp) (he cl fp) (hv cl fp) hw λl Ca s' H' m' I' hn jD hP q=>?_
 exact⟨m',hn,λh'' sh=>⟨.ref l,H',kH I' hP jD sh,rfl,q⟩⟩
end
end TL
namespace L2
open PySem PySem.Spec PySem.Calls PyProof.Rows PySem.W
def Dz (K:Frag)(D:Addr)(th:TS)(Z:Ends):St->XK:=λσ c a H=>∃ e C,a=some e/\c = .ref C/\zo K D C/\th Z σ (upd H e (Ai e C))
def Fm (K:Frag)(D:Addr)(tb:(St->XK)->TS)(th:TS):TS:=λZ σ H=>tb (Dz K D th Z) Z σ H
section
variable {X:Cx}{body yq:List Stmt}{b₀:Stmt}{x:Str}{np Aa pos:Pos}{D:Addr}{tb:(St->XK)->TS}{th:TS}
theorem Cy (hst:X.stack=X.env::X.outer)(hfr:X.env.frame=some X.env.locals)(hex:X.ex = [])(hg:Gl X x)(hm:X.mg x=some (.ref D))
  (hb:∀ pn W (E:St->XK),zm (CXr X.prog X.w X.base) (X.pJ pn W) E->PSs (X.pJ pn W) body (tb E)) (hs:∀ e,PSs (X.oA e) (b₀::yq) th) (hd:(x==("__debug__" :Str))=false:=by decide):
  PS X (.Try body [.ExceptHandler (some (.Name x np)) none (b₀::yq) Aa] [] [] pos) (Fm X.K D tb th):=by
 intro pins s σ H Z I h
 refine wpAny_Try_except ?_
 refine aZ (hb pins (λe s₁=>wpAny (model X.prog X.w) X.A (noteFrame e X.env) (λ_ s₂=>wpAny (model X.prog X.w) X.A (setFlight e none) (λ_ s₃=>wpAny (model X.prog X.w) X.A (handleBy e X.env [.ExceptHandler (some (.Name x np)) none (b₀::yq) Aa]) (SP X pins Z) X.xe s₃) X.xe s₂) X.xe s₁)
  (Dz X.K D th Z) ?_ pins s σ H Z (I.pJ _) h) (λf s1 q=>?_) λe s1 q=>q
 ·intro rH σ1 H1 s1 ev s2 I1' hx
  have I1:Inv X pins σ1 H1 s1:=I1'.vM I.ok
  obtain⟨e,C',H2,B,rfl,ho,Dt,x0,e',C,z1,z2,cat,q⟩:=hx
  obtain rfl:e=e':=bh z1
  obtain rfl:C'=C:=by injection z2
  have x0:Fl X.prog X.w X.base X.stack H1 H2 s1.heap e C' B s2.heap:=x0
  obtain⟨a0,f0⟩:=x0.fly
  have GN:=I.ok.frames
  rw[hst]at GN
  have f0':=f0
  rw[hst]at f0'
  show wpAny (model X.prog X.w) X.A (noteFrame (.ref e) X.env) _ _ s2
  refine wpAny_looks_onW GN hfr f0' λh4 hh4 sm4=>?_
  refine wpAny_landsW hh4 λh5 f5 sm5=>?_
  have f5':Heap.FlyingW B X.stack e (.ref C') a0 h5:=by rw[hst];exact f5
  have x5:Fl X.prog X.w X.base X.stack H1 H2 s1.heap e C' B h5:=⟨x0.toFl0.step f5'.1 f0.2.2.1 f5'.2.2.1 (sm4.trans sm5),a0,f5'⟩
  have I5:Inv X pins σ1 (upd H2 e (Ai e C')) {s2 with heap:=h5} :=Fl.kept (s':={s2 with heap:=h5}) x5 I1 hex ho Dt
  obtain⟨oe,he,hec⟩:=f5'.there
  refine wpAny_handleBy_cons (codeAny_handlers_test (nO (X:=X.oA e) (I5.oA e) hg hm ?_ hd)) (by intro q;cases q)
  refine DF (K:=X.K) I5.kIn he hec cat.ty cat.isc cat.bex cat.mro (codeAny_handlers_suite ?_)
  refine lands_againW f5' λh6 f6 sm6=>?_
  have x6:Fl X.prog X.w X.base X.stack H1 H2 s1.heap e C' B h6:=⟨x5.toFl0.step f6.1 f5'.2.2.1 f6.2.2.1 sm6,a0,f6⟩
  have I6:Inv X pins σ1 (upd H2 e (Ai e C')) {s2 with heap:=h6} :=Fl.kept (s':={s2 with heap:=h6}) x6 I1 hex ho Dt
  refine aZ (hs e pins {s2 with heap:=h6} σ1 _ Z (I6.oA e) q) (λf s8 q8=>?_) λ_ _ z=>False.elim z
  cases f with
  |next=>obtain⟨σ8,H8,I8,q8⟩:=q8;exact⟨σ8,H8,I8.uncaught I.ok,q8⟩
  |brk=>obtain⟨σ8,H8,I8,q8⟩:=q8;exact⟨σ8,H8,I8.uncaught I.ok,q8⟩
  |cont=>obtain⟨σ8,H8,I8,q8⟩:=q8;exact⟨σ8,H8,I8.uncaught I.ok,q8⟩
  |ret u=>obtain⟨v8,σ8,H8,I8,r8,q8⟩:=q8;exact⟨v8,σ8,H8,I8.uncaught I.ok,r8,q8⟩
 ·cases f with
  |next=>obtain⟨σ8,H8,I8,q8⟩:=q;exact dX ⟨σ8,H8,I8.vM I.ok,q8⟩
  |brk=>obtain⟨σ8,H8,I8,q8⟩:=q;exact⟨σ8,H8,I8.vM I.ok,q8⟩
  |cont=>obtain⟨σ8,H8,I8,q8⟩:=q;exact⟨σ8,H8,I8.vM I.ok,q8⟩
  |ret u=>obtain⟨v8,σ8,H8,I8,r8,q8⟩:=q;exact⟨v8,σ8,H8,I8.vM I.ok,r8,q8⟩
end
end L2
namespace TL
open PySem PySem.Spec PyProof.Rows L2
theorem xV {l:Int×List (Int×Int)}(h:fC l)(e:Int):(jn l.2 e).length<=60:=by
 unfold jn
 rw[mj,ah]
 exact h.inc e
theorem ye {l:Int×List (Int×Int)}(h:fC l)(ns:List Int)(e:Int):(fr l ns e).length<=60:=bj (bN _ _) (xV h e)
theorem nY {α β:Type}(f:α->β)(l:List α)(i:Nat)(x:α)(h:l[i]? = some x):(l.take (i+1)).map f=(l.take i).map f ++ [f x]:=by
 rw[aV,h,ar];rfl
theorem nj:∀ (ds:List PyData),(∀ d∈ds,d.canLay0=true)->PyData.canLayAll0 ds=true
 |[],_=>by simp[PyData.canLayAll0]
 |d::ds,h=>by
  simp only[PyData.canLayAll0,eC]
  exact⟨h d aB,nj ds λx hx=>h x (ax _ hx)⟩
theorem zz (l:Int×List (Int×Int))(ns:List Int):∀ m∈mvs l ns,PyData.strOk m.1.1=true:=λm hm=>by
 rcases aC.mp hm with z |z
 ·obtain⟨e,_,rfl⟩:=ak.mp z
  show PyData.strOk (Str.ofString "on")=true
  decide +kernel
 ·obtain⟨e,_,rfl⟩:=ak.mp z
  show PyData.strOk (Str.ofString "back")=true
  decide +kernel
def dM (k:Str×Int):PyData:=.tuple [.str k.1,.int k.2]
theorem yK {K:PySem.W.Frag}{H H1:Hp}{p:Addr}{ms:List Mv}{vs:List V}{i:Nat}{y:V}(D:Dgs (Lf H H1 p) (SqT K H1) (ms.map dMv) vs)(hy:vs[i]? = some y):
  ∃ m ad p1 b,ms[i]? = some m/\y = .ref ad/\SqT K H1 ad [.ref p1,.ref b]/\Da K H1 (dM m.1) (.ref p1)/\H1 b=some (.lst (m.2.map V.int))/\H b=none/\b≠p:=by
 obtain⟨d,e1,hd⟩:=Dgs.get D hy
 rw[ai]at e1
 cases q:ms[i]? with
 |none=>rw[q]at e1;cases e1
 |some m=>
  rw[q]at e1
  cases e1
  unfold dMv at hd
  obtain⟨ad,us,rfl,ht,q⟩:=gB.mp hd
  obtain⟨v1,r,rfl,h1,q⟩:=fx.mp q
  obtain⟨v2,r,rfl,h2,q⟩:=fx.mp q
  cases gh.mp q
  have h1':Da K H1 (dM m.1) v1:=Dg.mono (λa us h=>SqL.of h.1) (λ_ _ h=>h) h1
  obtain⟨p1,_,rfl,_,_⟩:=gB.mp h1
  unfold dI at h2
  obtain⟨b,zs,rfl,⟨l1,l2,l3⟩,hz⟩:=ic.mp h2
  rw[l0.mp hz]at l1
  exact⟨m,ad,p1,b,rfl,rfl,ht,h1',l1,l2,l3⟩
def dLI (xss:List (List Int)):PyData:=.list (xss.map dI)
theorem El (xss:List (List Int)):OkD (dLI xss):=by
 refine⟨?_,?_⟩
 ·simp only[dLI,PyData.canLay0]
  refine nj _ λd hd=>?_
  obtain⟨m,hm,rfl⟩:=ak.mp hd
  exact(j7 m).1
 ·simp only[dLI,PyData.depth]
  have:=fL (f:=dI) (k:=1) (λm=>by
   simp only[dI,PyData.depth]
   have:=fL (f:=PyData.int) (k:=0) (λ_=>by simp[PyData.depth]) m
   omega) xss
  omega
structure xq (K:PySem.W.Frag)(H:Hp)(q:Addr)(run:List (Str×Int)):Prop where
 ex:∃ vs,H q=some (.lst vs)/\Das K (hid q H) (run.map dM) vs
 ok:∀ k∈run,PyData.strOk k.1=true
theorem xq.same {K:PySem.W.Frag}{H H':Hp}{q:Addr}{run:List (Str×Int)}(r:xq K H q run)(s:eQ H H'):xq K H' q run:=by
 obtain⟨⟨vs,h1,h2⟩,h3⟩:=r
 exact⟨⟨vs,s _ _ h1,Das.same (mW s) h2⟩,h3⟩
abbrev Ma:=Mv×Addr×Addr
def E8 (K:PySem.W.Frag)(H H1:Hp)(p:Addr)(x:Ma):Prop:=(∃ p1,SqT K H1 x.2.1 [.ref p1,.ref x.2.2]/\Da K H1 (dM x.1.1) (.ref p1))/\H1 x.2.2=some (.lst (x.1.2.map V.int))/\H x.2.2=none/\x.2.2≠p
theorem Bp {K:PySem.W.Frag}{H H1:Hp}{p:Addr}{ms:List Mv}{vs:List V}(D:Dgs (Lf H H1 p) (SqT K H1) (ms.map dMv) vs):
  ∃ bs:List Ma,bs.map (·.1)=ms/\vs=bs.map (λx=>V.ref x.2.1)/\∀ x∈bs,E8 K H H1 p x:=by
 have hl:vs.length=ms.length:=by have:=D.length;rw[aa]at this;exact this
 have ex:∀ i:Nat,∃ x:Ma,∀ y,vs[i]? = some y->ms[i]? = some x.1/\y = .ref x.2.1/\E8 K H H1 p x:=λi=>by
  cases q:vs[i]? with
  |none=>exact⟨(((Str.ofString "",0),[]),0,0),λy e=>nomatch e⟩
  |some y=>
   obtain⟨m,ad,p1,b,h1,h2,h3,h4,h5,h6,h7⟩:=yK D q
   exact⟨(m,ad,b),λy' e=>by cases e;exact⟨h1,h2,⟨p1,h3,h4⟩,h5,h6,h7⟩⟩
 let g:Nat->Ma:=λi=>Classical.choose (ex i)
 have hg:∀ i y,vs[i]? = some y->ms[i]? = some (g i).1/\y = .ref (g i).2.1/\E8 K H H1 p (g i):=λi=>Classical.choose_spec (ex i)
 refine⟨(List.range vs.length).map g,d9 λi=>?_,d9 λi=>?_,λx hx=>?_⟩
 ·by_cases hi:i<vs.length
  ·rw[ai,ai,dQ hi]
   exact((hg i _ (af hi)).1).symm
  ·rw[bg (by simp;omega),bg (by omega)]
 ·by_cases hi:i<vs.length
  ·rw[ai,ai,dQ hi,af hi]
   exact bS some (hg i _ (af hi)).2.1
  ·rw[bg (by omega),bg (by simp;omega)]
 ·obtain⟨i,hi,rfl⟩:=ak.mp hx
  have hi:i<vs.length:=by simpa using hi
  exact(hg i _ (af hi)).2.2
theorem yz {K:PySem.W.Frag}{H:Hp} :∀ {as:List Addr}{ts:List (List Int)},as.length=ts.length->(∀ (i:Nat) b t,as[i]? = some b->ts[i]? = some t->H b=some (.lst (t.map V.int)))->Das K H (ts.map dI) (as.map V.ref)
 |[],[],_,_=>gh.mpr rfl
 |a::as,t::ts,hl,h=>fx.mpr ⟨_,_,rfl,gP (h 0 a t rfl rfl),yz (by simpa using hl) λi b t' h1 h2=>h (i+1) b t' h1 h2⟩
theorem i6.snoc {l:Int×List (Int×Int)}{ns:List Int}{x:Int}(ok:fC l)(T:i6 l ns)(hne:ns≠ [])(hx:x∈fr l ns (oth (ns.getLastD 0))):i6 l (ns ++ [x]):=by
 obtain⟨h1,h2⟩:=cc.mp hx
 have h2:¬x/2∈ns.map (· / 2):=by simpa using h2
 refine⟨λe he=>?_,?_,λi a b ha hb=>?_⟩
 ·rcases aC.mp he with z |z
  ·exact T.ends e z
  ·have z:e=x:=by simpa using z
   rw[z];exact rZ ok h1
 ·rw[ar,bC]
  refine⟨T.nd,by simp,λa ha b hb=>?_⟩
  have hb:b=x/2:=by simpa using hb
  intro z
  exact h2 (by rw[<-hb,<-z];exact ha)
 ·by_cases hi:i+1<ns.length
  ·rw[aq hi]at hb
   rw[aq (by omega)]at ha
   exact T.ch i a b ha hb
  ·have hlt:i+1<(ns ++ [x]).length:=(ag.mp hb).1
   rw[ah,aQ]at hlt
   have e1:i+1=ns.length:=by omega
   rw[e1,az (ao _),br]at hb
   cases hb
   rw[aq (by omega)]at ha
   have e2:ns.getLastD 0=a:=by
    rw[d6,List.getLast?_eq_getElem?]
    have:ns.length-1=i:=by omega
    rw[this,ha];rfl
   rw[e2]at h1
   exact h1
theorem C5 {K:PySem.W.Frag}{H:Hp}{k:Str×Int}{v:V}(h:Da K H (dM k) v):∃ a,v = .ref a/\SqT K H a [.str k.1,.int k.2]:=by
 unfold dM at h
 obtain⟨a,vs,rfl,ht,q⟩:=gB.mp h
 obtain⟨v1,r,rfl,h1,q⟩:=fx.mp q
 obtain⟨v2,r,rfl,h2,q⟩:=fx.mp q
 cases gh.mp q
 cases yf.mp h1
 cases gw.mp h2
 exact⟨a,rfl,ht⟩
theorem Hg {K:PySem.W.Frag}{H:Hp}{k:Str×Int}{a:Addr}(h:SqT K H a [.str k.1,.int k.2]):Da K H (dM k) (.ref a):=gB.mpr ⟨a,_,rfl,h,Dgs.two (yf.mpr rfl) (gw.mpr rfl)⟩
abbrev Nc (cs:List Ma):List Mv:=cs.map (·.1)
theorem t6 {l:Ln}(ok:fC l){ns:List Int}{m:Mv}(hm:m∈mvs l ns):(m.1.1=Str.ofString "on" \/m.1.1=Str.ofString "back")/\0<=m.1.2/\m.1.2<2*l.1:=by
 rcases aC.mp hm with z |z
 ·obtain⟨e,he,h⟩:=ak.mp z
  rw[<-h]
  exact⟨.inl rfl,rZ ok (vz he).1⟩
 ·obtain⟨e,he,h⟩:=ak.mp z
  rw[<-h]
  exact⟨.inr rfl,rZ ok (vz he).1⟩
end TL
namespace TL
open PySem TS
section
variable {prog:Program}{w:World}{A:Around}{E:Value->Shared->Prop}{s:Shared}
end
open PyProof.Rows PySem.W
section
variable {prog:Program}{w:World}{A:Around}{E:Value->Shared->Prop}{s:Shared}{it a:Addr}{o:Obj}{es:Array (Int×Value)}{ep:Nat}{t:SetTable}{hs:List Int}{i j:Nat}
end
section
variable {prog:Program}{w:World}{A:Around}{E:Value->Shared->Prop}{s:Shared}{a:Addr}{ep:Nat}{xs:List (Int×Tok)}
end
end TL
namespace TL
open PySem PySem.Spec PyProof.Rows L2 TS
section
variable {X:Cx}{pins:List (Addr×Obj)}{σ:St}{H:Hp}{s:Shared}
end
section
variable {X:Cx}{o e:Expr}{es:List Expr}{to:TE}{t:TA}{name:Str}{apos i8:Pos}{id:String}{r:V->List V->Hp->VK->Prop}
end
end TL
namespace L2
open PySem PySem.Spec PyProof.Rows
section
variable {P:Program}{w:World}{K:PySem.W.Frag}{mg:Str->Option Value}{base:Heap}
end
end L2
namespace TL
open PySem PySem.Spec PyProof.Rows L2 TS
section
variable {X:Cx}
end
end TL
namespace TL
open PySem L2 PyProof.Rows
open PySem.Spec TS
def kyI (t:List Int):List Key:=t.map Sum.inl
theorem iy (t:List Int):(kyI t).map kV=t.map V.int:=by
 unfold kyI;rw[bu];rfl
theorem nP {a b:List Int}(h:kyI a=kyI b):a=b:=by
 unfold kyI at h
 induction a generalizing b with
 |nil=>cases b with |nil=>rfl |cons y r=>cases h
 |cons x r ih=>
  cases b with
  |nil=>cases h
  |cons y s=>
   rw[aR,aR,List.cons.injEq]at h
   rw[Sum.inl.inj h.1,ih h.2]
theorem Ba {ss:List (List Int)} :(ss.map kyI).Nodup↔ss.Nodup:=by
 unfold List.Nodup
 rw[cG]
 exact⟨λh=>h.imp λn e=>n (by rw[e]),λh=>h.imp λn e=>n (nP e)⟩
abbrev Rows:=List (List Int×Int)
def sP (l:Ln)(tr s:List Int):Prop:=s.length=tr.length/\s≠ []/\i6 l s
def pC (l:Ln)(tr:List Int)(ss:List (List Int)):Prop:=ss.Nodup/\∀ s∈ss,sP l tr s
def ib (rows:Rows)(s:List Int):Option Int:=(rows.find? λr=>decide (r.1=s)).map (·.2)
def FI (l:Ln)(rows:Rows)(r:List Int×Int):Prop:=∀ m∈mvs l r.1,∃ n,ib rows m.2=some n/\n<=r.2+1
def Hj (l:Ln)(tr:List Int)(rows:Rows):Prop:=pC l tr (rows.map (·.1))/\ib rows tr=some 0/\∀ r∈rows,FI l rows r
theorem lX {rows:Rows}(nd:(rows.map (·.1)).Nodup){r:List Int×Int}(h:r∈rows):ib rows r.1=some r.2:=by
 unfold ib
 induction rows with
 |nil=>cases h
 |cons q qs ih=>
  rw[aR,bq]at nd
  by_cases e:q.1=r.1
  ·rw[bZ (by simpa using e)]
   rcases aG.mp h with z |z
   ·rw[z];rfl
   ·exact absurd (ak.mpr ⟨r,z,e.symm⟩) nd.1
  ·rw[bM (by simpa using e)]
   rcases aG.mp h with z |z
   ·exact absurd (by rw[z]) e
   ·exact ih nd.2 z
theorem lg {rows:Rows}{s:List Int}{n:Int}(h:ib rows s=some n):(s,n)∈rows:=by
 unfold ib at h
 cases q:rows.find? λr=>decide (r.1=s)with
 |none=>rw[q]at h;cases h
 |some r=>
  rw[q]at h
  have h1:=dZ q
  have h2:r.1=s:=by simpa using List.find?_some q
  have h3:r.2=n:=by simpa using h
  rw[<-h2,<-h3];exact h1
theorem xU {rows:Rows}{s:List Int}(h:ib rows s=none):s∉rows.map (·.1):=λz=>by
 obtain⟨r,hr,e⟩:=ak.mp z
 unfold ib at h
 rw[Option.map_eq_none_iff,List.find?_eq_none]at h
 exact h r hr (by simpa using e)
theorem Eu {ks:List (List Key)}{ss:List (List Int)}(nd:ks.Nodup)(h:∀ k,k∈ks↔k∈ss.map kyI):ks.length<ss.length↔¬ss.Nodup:=by
 rw[<-Ba,show ss.length=(ss.map kyI).length by rw[aa]]
 constructor
 ·intro hl nd2
  have:=qZ nd2 λx hx=>(h x).mpr hx
  omega
 ·intro hn
  by_cases hl:ks.length<(ss.map kyI).length
  ·exact hl
  ·exact absurd (uZ nd (λx hx=>(h x).mp hx) (by omega)) hn
theorem Dp {K:PySem.W.Frag}{H:Hp}{ss:List (List Int)}{vs:List V}{i:Nat}{y:V}(D:Das K H (ss.map dI) vs)(h:vs[i]? = some y):∃ (s:List Int) (ad:Addr),ss[i]? = some s/\y = .ref ad/\SqL K H ad (s.map V.int):=by
 obtain⟨d,e1,hd⟩:=Dgs.get D h
 rw[ai]at e1
 cases q:ss[i]? with
 |none=>rw[q]at e1;cases e1
 |some s=>
  rw[q]at e1
  cases e1
  obtain⟨a,rfl,ha⟩:=gz.mp hd
  exact⟨s,a,rfl,rfl,ha⟩
theorem ED {A:Around}{k:Nat}(hr:lx k A):A.units<cLine:=bQ (cN _ _) hr.units
theorem wQ:∀ (a b:List Int),PyData.eqvAll (a.map PyData.int) (b.map PyData.int)=decide (a=b)
 |[],[]=>by simp[PyData.eqvAll]
 |[],y::b=>by simp[PyData.eqvAll]
 |x::a,[]=>by simp[PyData.eqvAll]
 |x::a,y::b=>by
  rw[aR,aR,PyData.eqvAll,wQ a b,bx]
  simp[PyData.eqv]
theorem CI (ss:List (List Int)):Cb (ss.map dI):=by
 have h:=El ss
 unfold dLI at h
 refine⟨by have:=h.1;rwa [PyData.canLay0]at this,?_⟩
 have:=h.2
 rw[PyData.depth]at this
 omega
def Dj (l:Ln)(tr:List Int)(ss:List (List Int)):Prop:=ss.Nodup/\tr∈ss/\∀ s∈ss,sP l tr s/\∀ m∈mvs l s,m.2∈ss
def DX (l:Ln)(tr:List Int)(rows:Rows):Prop:=∀ r∈rows,(r.1=tr->r.2=0)/\∀ q∈rows,q.1∈(mvs l r.1).map (·.2)->q.2<=r.2+1
theorem B5 {l:Ln}{tr:List Int}{rows:Rows} :Hj l tr rows↔Dj l tr (rows.map (·.1))/\DX l tr rows:=by
 constructor
 ·rintro⟨⟨nd,st⟩,h0,h1⟩
  refine⟨⟨nd,ak.mpr ⟨_,lg h0,rfl⟩,λs hs=>⟨st s hs,λm hm=>?_⟩⟩,λr hr=>⟨λe=>?_,λq hq hm=>?_⟩⟩
  ·obtain⟨r,hr,rfl⟩:=ak.mp hs
   obtain⟨n,hn,_⟩:=h1 r hr m hm
   exact ak.mpr ⟨_,lg hn,rfl⟩
  ·have:=lX nd hr
   rw[e,h0]at this
   exact(bh this).symm
  ·obtain⟨m,hm1,hm2⟩:=ak.mp hm
   obtain⟨n,hn,hle⟩:=h1 r hr m hm1
   have:=lX nd hq
   rw[<-hm2,hn]at this
   cases this
   exact hle
 ·rintro⟨⟨nd,ht,st⟩,h1⟩
  obtain⟨r,hr,e⟩:=ak.mp ht
  refine⟨⟨nd,λs hs=>(st s hs).1⟩,?_,λr hr m hm=>?_⟩
  ·have:=lX nd hr
   rw[(h1 r hr).1 e,show r.1=tr from e]at this
   exact this
  ·obtain⟨q,hq,e⟩:=ak.mp ((st r.1 (ak.mpr ⟨r,hr,rfl⟩)).2 m hm)
   have e:q.1=m.2:=e
   exact⟨q.2,by rw[<-e];exact lX nd hq,(h1 r hr).2 q hq (ak.mpr ⟨m,hm,e.symm⟩)⟩
end TL
namespace TL
open PySem L2 PyProof.Rows
def swp (p:Int×Int):Int×Int:=(p.2,p.1)
def both (js:List (Int×Int)):List (Int×Int):=js++js.map swp
open PySem.Spec TS
def Pw {α:Type}(R:α->V->Prop):List α->List V->Prop
 |[],[]=>True
 |d::ds,v::vs=>R d v/\Pw R ds vs
 |_,_=>False
theorem Pw.len {α:Type}{R:α->V->Prop} :∀ {ds:List α}{vs:List V},Pw R ds vs->vs.length=ds.length
 |[],[],_=>rfl
 |d::ds,v::vs,h=>by rw[aO,aO,Pw.len h.2]
theorem Pw.imp {α:Type}{R S:α->V->Prop}(f:∀ d v,R d v->S d v):∀ {ds:List α}{vs:List V},Pw R ds vs->Pw S ds vs
 |[],[],_=>trivial
 |d::ds,v::vs,h=>⟨f _ _ h.1,Pw.imp f h.2⟩
theorem Pw.app {α:Type}{R:α->V->Prop} :∀ {ds es:List α}{vs us:List V},Pw R ds vs->Pw R es us->Pw R (ds++es) (vs++us)
 |[],_,[],_,_,h=>h
 |d::ds,_,v::vs,_,h,h2=>⟨h.1,Pw.app h.2 h2⟩
theorem Pw.one {α:Type}{R:α->V->Prop}{d:α}{v:V}(h:R d v):Pw R [d] [v]:=⟨h,trivial⟩
theorem Pw.get {α:Type}{R:α->V->Prop}{ds:List α} :∀ {vs:List V}{i:Nat}{v:V},Pw R ds vs->vs[i]? = some v->∃ d,ds[i]? = some d/\R d v:=by
 induction ds with
 |nil=>
  intro vs i v h e
  cases vs with
  |nil=>simp at e
  |cons a b=>exact h.elim
 |cons d ds ih=>
  intro vs i v h e
  cases vs with
  |nil=>exact h.elim
  |cons a b=>
   cases i with
   |zero=>cases e;exact⟨d,rfl,h.1⟩
   |succ i=>exact ih (i:=i) h.2 e
theorem Pw.set {α:Type}{R:α->V->Prop}{d:α}{v:V}(hr:R d v):∀ {ds:List α}{vs:List V} (i:Nat),Pw R ds vs->Pw R (ds.set i d) (vs.set i v)
 |[],[],_,h=>h
 |_::_,_::_,0,h=>⟨hr,h.2⟩
 |_::_,_::_,i+1,h=>⟨h.1,Pw.set hr i h.2⟩
theorem Pw.erase {α:Type}{R:α->V->Prop} :∀ {ds:List α}{vs:List V} (i:Nat),Pw R ds vs->Pw R (ds.eraseIdx i) (vs.eraseIdx i)
 |[],[],_,h=>h
 |_::_,_::_,0,h=>h.2
 |_::_,_::_,i+1,h=>⟨h.1,Pw.erase i h.2⟩
theorem Pw.das {α:Type}{K:PySem.W.Frag}{H:Hp}{R:α->V->Prop}{d':α->PyData}(f:∀ d v,R d v->Da K H (d' d) v):∀ {ds:List α}{vs:List V},Pw R ds vs->Das K H (ds.map d') vs
 |[],[],_=>gh.mpr rfl
 |_::_,_::_,h=>fx.mpr ⟨_,_,rfl,f _ _ h.1,Pw.das f h.2⟩
section
variable {K:PySem.W.Frag}{l:Addr}{g:TG}{tt:TT}{te:TE}{cap:List (Option Nat)}{σ:St}{Q:VK}{H1:Hp}{J:It}
theorem Bu {α:Type}(n:Nat)(ds:List α)(Φ:Hp->α->V->Prop)(mono:∀ {H H':Hp} d v,eQ H H'->Φ H d v->Φ H' d v)(hn:H1 l=none)(hlen:n=ds.length)(hz:n<sizeLine)(go:∀ i H,eQ H1 H->i<n->J.go i H)(st:∀ H,eQ H1 H->J.stop n H)
  (hs:∀ i x d H H',eQ H1 H->(∃ us,H l=some (.lst us))->J.yld i H x H'->ds[i]? = some d->∀ (P1:VK) (P0:Hp->Prop),(∀ v H2,eQ H H2->Φ (hid l H2) d v->P1 v H2)->
   g x (gJ cap σ) H' λσ2 H2=>tt σ2 H2 λb H3=>if b=true then te σ2 H3 P1 else P0 H3)
  (hq:∀ vs H',eQ H1 H'->H' l=some (.lst vs)->Pw (Φ (hid l H')) ds vs->Q (.ref l) H'):LcW J g tt te cap σ Q l H1:=by
 refine vf n (λi acc H=>Pw (Φ (hid l H)) (ds.take i) acc/\eQ H1 H/\H l=some (.lst acc)) ⟨trivial,eE hn,eG⟩ (λi acc H hi ⟨_,s,_⟩=>go i H s hi) (λacc H ⟨_,s,_⟩=>st H s) ?_ ?_
 ·rintro i x acc H H' hi ⟨e1,s,hl⟩ y
  have hd:ds[i]? = some (ds[i]'(by omega)):=by simp
  generalize ds[i]'(by omega)=d at hd
  refine hs i x d H H' s ⟨_,hl⟩ y hd _ _ (λv H2 s2 dv=>?_)
  have la:=Pw.len e1
  rw[aN]at la
  refine⟨s2 _ _ hl,by omega,?_,eQ.upd (s.trans s2) hn,eG⟩
  rw[jV,aV,hd]
  exact Pw.app (Pw.imp (λd v=>mono d v (mW s2)) e1) (Pw.one dv)
 ·rintro acc H ⟨e1,s,hl⟩
  rw[cx (by omega)]at e1
  exact hq acc H s hl e1
end
theorem zy {l:Ln}{ns:List Int}(ok:fC l)(T:i6 l ns):i6 l (ns.reverse.map oth):=by
 refine⟨λe he=>?_,?_,λi x y hx hy=>?_⟩
 ·obtain⟨z,hz,rfl⟩:=ak.mp he
  have:=T.ends z (List.mem_reverse.mp hz)
  unfold oth;omega
 ·rw[bu,show((λx:Int=>x/2) ∘ oth)=(λx:Int=>x/2) from funext λe=>by show oth e/2=e/2;unfold oth;omega,List.map_reverse]
  exact(List.reverse_perm _).nodup_iff.mpr T.nd
 ·rw[ai]at hx hy
  have hi:i+1<ns.length:=by
   by_cases z:i+1<ns.length
   ·exact z
   ·rw[bg (by rw[b3];omega)]at hy;cases hy
  rw[List.getElem?_reverse (by omega)]at hx
  rw[List.getElem?_reverse (by omega)]at hy
  cases q1:ns[ns.length-1-i]? with
  |none=>rw[q1]at hx;cases hx
  |some a=>
   cases q2:ns[ns.length-1-(i+1)]? with
   |none=>rw[q2]at hy;cases hy
   |some b=>
    rw[q1]at hx;rw[q2]at hy
    cases hx;cases hy
    have:=T.ch (ns.length-1-(i+1)) b a q2 (by rw[show ns.length-1-(i+1)+1=ns.length-1-i by omega];exact q1)
    rw[qO]
    exact yW ok this
end TL
namespace TL
open PySem PySem.Spec PyProof.Rows L2
section
variable {J:It}{l:Addr}{g:TG}{tt:TT}{te:TE}{cap:List (Option Nat)}{σ:L2.St}{Q:VK}{H1:Hp}
end
section
variable {D:Ends}{σ:L2.St}{H:Hp}
theorem nm {t R:TS}(h:∀ r:TS,(∀ D σ H,R D σ H->r D σ H)->nT t r D σ H):nT t R D σ H:=h R λ_ _ _ z=>z
theorem nm2 {t1 t2 R:TS}(h:∀ r:TS,(∀ D σ H,R D σ H->r D σ H)->nT t1 (nT t2 r) D σ H):nT t1 (nT t2 R) D σ H:=h R λ_ _ _ z=>z
theorem nm3 {t1 t2 t3 R:TS}(h:∀ r:TS,(∀ D σ H,R D σ H->r D σ H)->nT t1 (nT t2 (nT t3 r)) D σ H):nT t1 (nT t2 (nT t3 R)) D σ H:=h R λ_ _ _ z=>z
theorem cut {t u:TS}(J:L2.St->Hp->Prop)(first:∀ (N:L2.St->Hp->Prop) (R:VK) (B C:L2.St->Hp->Prop),(∀ σ' H',J σ' H'->N σ' H')->(∀ v H',D.rt v H'->R v H')->t ⟨N,R,B,C⟩ σ H)(rest:∀ σ' H',J σ' H'->u D σ' H'):nT t u D σ H:=
 first (u D) D.rt D.bk D.ct rest λ_ _ z=>z
theorem hE {K:PySem.W.Frag}{a:Addr}{xs:List V}{g:TG}{tb:TS}(Pv:Nat->L2.St->Hp->Prop)(h0:Pv 0 σ H)(hl:∀ i σ H,i<=xs.length->Pv i σ H->SqL K H a xs)
  (hs:∀ i x σ H (N:L2.St->Hp->Prop) (R:VK) (B:L2.St->Hp->Prop),(∀ σ' H',Pv (i+1) σ' H'->N σ' H')->(∀ v H',D.rt v H'->R v H')->xs[i]? = some x->Pv i σ H->g x σ H λσ2 H2=>tb ⟨N,R,B,N⟩ σ2 H2) (hd:∀ σ H,Pv xs.length σ H->D.nx σ H):
  ∃ W:Nat->Nat->L2.St->Hp->Prop,(∃ m,W 0 m σ H)/\∀ i m σ H,W i m σ H->
   ((Itl K a).stop i H/\D.nx σ H)\/((Itl K a).go i H/\∃ N:L2.St->Hp->Prop,(∀ σ' H',N σ' H'->∃ m',m'<m/\W (i+1) m' σ' H')/\∀ x H',(Itl K a).yld i H x H'->g x σ H' λσ2 H2=>tb {D with nx:=N,ct:=N,bk:=D.nx} σ2 H2):=
 su Pv h0 hl (λi x σ H hx p=>hs i x σ H _ _ _ (λ_ _ z=>z) (λ_ _ z=>z) hx p) hd
theorem my {lo:Int}{n:Nat}{g:TG}{tb:TS}(Pv:Nat->L2.St->Hp->Prop)(h0:Pv 0 σ H)
  (hs:∀ i σ H (N:L2.St->Hp->Prop) (R:VK) (B:L2.St->Hp->Prop),(∀ σ' H',Pv (i+1) σ' H'->N σ' H')->(∀ v H',D.rt v H'->R v H')->i<n->Pv i σ H->g (.int (lo+i)) σ H λσ2 H2=>tb ⟨N,R,B,N⟩ σ2 H2) (hd:∀ σ H,Pv n σ H->D.nx σ H):
  ∃ W:Nat->Nat->L2.St->Hp->Prop,(∃ m,W 0 m σ H)/\∀ i m σ H,W i m σ H->
   ((Itr lo n).stop i H/\D.nx σ H)\/((Itr lo n).go i H/\∃ N:L2.St->Hp->Prop,(∀ σ' H',N σ' H'->∃ m',m'<m/\W (i+1) m' σ' H')/\∀ x H',(Itr lo n).yld i H x H'->g x σ H' λσ2 H2=>tb {D with nx:=N,ct:=N,bk:=D.nx} σ2 H2):=
 nQ Pv h0 (λi σ H hx p=>hs i σ H _ _ _ (λ_ _ z=>z) (λ_ _ z=>z) hx p) hd
theorem Ag {K:PySem.W.Frag}{a:Addr}{xs:List V}{g:TG}{tb:TS}(Pv:Nat->L2.St->Hp->Prop)(h0:Pv 0 σ H)(hl:∀ i σ H,i<=xs.length->Pv i σ H->SqL K H a xs)
  (hs:∀ i x σ H p (N:L2.St->Hp->Prop) (R:VK) (B:L2.St->Hp->Prop),(∀ σ' H',Pv (i+1) σ' H'->N σ' H')->(∀ v H',D.rt v H'->R v H')->xs[i]? = some x->Pv i σ H->H p=none->g (.ref p) σ (upd H p (.tup [.int i,x])) λσ2 H2=>tb ⟨N,R,B,N⟩ σ2 H2) (hd:∀ σ H,Pv xs.length σ H->D.nx σ H):
  ∃ W:Nat->Nat->L2.St->Hp->Prop,(∃ m,W 0 m σ H)/\∀ i m σ H,W i m σ H->
   ((Ite K a).stop i H/\D.nx σ H)\/((Ite K a).go i H/\∃ N:L2.St->Hp->Prop,(∀ σ' H',N σ' H'->∃ m',m'<m/\W (i+1) m' σ' H')/\∀ x H',(Ite K a).yld i H x H'->g x σ H' λσ2 H2=>tb {D with nx:=N,ct:=N,bk:=D.nx} σ2 H2):=
 BP Pv h0 hl (λi x σ H p hx q np=>hs i x σ H p _ _ _ (λ_ _ z=>z) (λ_ _ z=>z) hx q np) hd
theorem nA {c:TT}{tb:TS}(Pv:L2.St->Hp->Prop)(μ:L2.St->Hp->Nat)(h0:Pv σ H)
  (hs:∀ σ H (N:L2.St->Hp->Prop) (R:VK) (B:L2.St->Hp->Prop),(∀ σ' H',Pv σ' H'->μ σ' H'<μ σ H->N σ' H')->(∀ v H',D.rt v H'->R v H')->(∀ σ' H',D.nx σ' H'->B σ' H')->Pv σ H->c σ H λb H1=>if b=true then tb ⟨N,R,B,N⟩ σ H1 else B σ H1)
  (mono:∀ σ H Q Q',(∀ b H1,Q b H1->Q' b H1)->c σ H Q->c σ H Q'):qY c tb D σ H:=
 Aw Pv μ h0 (λσ H p=>hs σ H _ _ _ (λ_ _ a b=>⟨a,b⟩) (λ_ _ z=>z) (λ_ _ z=>z) p) mono
end
section
variable {prog:Program}{w:World}{A:Around}{E:Value->Shared->Prop}{s:Shared}{d it vw:Addr}{o:Obj}{es:Array DictEntry}{ep i:Nat}{ok ov:Value}
end
section
variable {X:Cx}
end
theorem Av {c:TT}{tb:TS}{D:Ends}{σ:L2.St}{H:Hp}(Pv:Nat->L2.St->Hp->Prop)(n:Nat)(h0:Pv n σ H)
  (hs:∀ n σ H,Pv n σ H->c σ H λb H1=>if b=true then tb {D with nx:=λσ' H'=>∃ m,m<n/\Pv m σ' H',ct:=λσ' H'=>∃ m,m<n/\Pv m σ' H',bk:=D.nx} σ H1 else D.nx σ H1)
  (mono:∀ σ H Q Q',(∀ b H1,Q b H1->Q' b H1)->c σ H Q->c σ H Q'):qY c tb D σ H:=by
 refine⟨λm σ H=>Pv m σ H,⟨n,h0⟩,?_⟩
 intro m σ H p
 refine mono σ H _ _ (λb H1 q=>?_) (hs m σ H p)
 cases b with
 |true=>exact⟨_,λσ' H' h=>h,q⟩
 |false=>exact q
open TS
def uY (rows:Rows)(e:Ent):Int:=match e.2 with
 |none=>0
 |some (t,_)=>(ib rows t).getD 0+1
def rE (acc:Rows)(es:List Ent):Rows:=es.foldl (λrows e=>rows ++ [(e.1,uY rows e)]) acc
def gm (es:List Ent):Rows:=rE [] es
theorem tP:∀ (es:List Ent) (acc:Rows),(rE acc es).map (·.1)=acc.map (·.1)++es.map (·.1)
 |[],acc=>by simp[rE]
 |e::es,acc=>by
  have:=tP es (acc ++ [(e.1,uY acc e)])
  show(rE (acc ++ [(e.1,uY acc e)]) es).map (·.1)=_
  rw[this,ar];simp
theorem jg (es:List Ent):(gm es).map (·.1)=es.map (·.1):=by unfold gm;rw[tP];rfl
theorem nJ (es:List Ent):(gm es).length=es.length:=by have:=bS List.length (jg es);rwa [aa,aa]at this
theorem tO:∀ (es:List Ent) (acc:Rows),acc <+:rE acc es
 |[],acc=>bL _
 |e::es,acc=>(cy acc [(e.1,uY acc e)]).trans (tO es _)
theorem tQ (es more:List Ent):gm (es++more)=rE (gm es) more:=by unfold gm rE;rw[cI]
theorem nI {es es':List Ent}(h:es <+:es'):gm es <+:gm es':=by
 obtain⟨r,rfl⟩:=h
 rw[tQ]
 exact tO _ _
theorem ou (es:List Ent)(e:Ent):gm (es ++ [e])=gm es ++ [(e.1,uY (gm es) e)]:=by rw[tQ];rfl
theorem kG {rows kh:Rows}(h:rows <+:kh){t:List Int}{n:Int}(hl:ib rows t=some n):ib kh t=some n:=by
 obtain⟨r,rfl⟩:=h
 unfold ib at hl ⊢
 rw[List.find?_append]
 cases q:rows.find? λr=>decide (r.1=t)with
 |none=>rw[q]at hl;cases hl
 |some x=>rw[q]at hl;exact hl
theorem Bs {rows:Rows}{t:List Int}(h:t∈rows.map (·.1)):∃ n,ib rows t=some n:=by
 cases q:ib rows t with
 |none=>exact absurd h (xU q)
 |some n=>exact⟨n,rfl⟩
theorem uc {rows:Rows}{t:List Int}{n:Int}(h:t∉rows.map (·.1)):ib (rows ++ [(t,n)]) t=some n:=by
 have q:ib rows t=none:=by
  cases q:ib rows t with
  |none=>rfl
  |some x=>exact absurd (ak.mpr ⟨_,lg q,rfl⟩) h
 unfold ib at q ⊢
 rw[Option.map_eq_none_iff]at q
 rw[List.find?_append,q]
 simp
structure Lvl (es:List Ent)(d:Int):Prop where
 mono:(gm es).Pairwise λa b=>a.2<=b.2
 top:∀ r∈gm es,r.2<=d+1
theorem Lvl.add {es:List Ent}{d:Int}{t:List Int}{m:Mv}(h:Lvl es d)(ht:ib (gm es) t=some d):Lvl (mG t es m) d/\∃ n,ib (gm (mG t es m)) m.2=some n/\n<=d+1:=by
 unfold mG
 by_cases hm:m.2∈es.map (·.1)
 ·rw[aJ hm]
  obtain⟨n,hn⟩:=Bs (rows:=gm es) (by rw[jg];exact hm)
  exact⟨h,n,hn,h.top _ (lg hn)⟩
 ·rw[aF hm]
  have hn:uY (gm es) (m.2,some (t,m.1))=d+1:=by
   show(ib (gm es) t).getD 0+1=d+1
   rw[ht];rfl
  refine⟨⟨?_,λr hr=>?_⟩,d+1,?_,Int.le_refl _⟩
  ·rw[ou,List.pairwise_append]
   refine⟨h.mono,by simp,λa ha b hb=>?_⟩
   rw[bw.mp hb]
   show a.2<=uY (gm es) (m.2,some (t,m.1))
   rw[hn]
   exact h.top a ha
  ·rw[ou]at hr
   rcases aC.mp hr with z |z
   ·exact h.top r z
   ·rw[bw.mp z]
    show uY (gm es) (m.2,some (t,m.1))<=d+1
    rw[hn];exact Int.le_refl _
  ·rw[ou]
   show ib (gm es ++ [(m.2,uY (gm es) (m.2,some (t,m.1)))]) m.2=some (d+1)
   rw[hn]
   exact uc (by rw[jg];exact hm)
theorem Lvl.scan {d:Int}{t:List Int} :∀ (ms:List Mv) {es:List Ent},Lvl es d->ib (gm es) t=some d->Lvl (fW t ms es) d/\∀ m∈ms,∃ n,ib (gm (fW t ms es)) m.2=some n/\n<=d+1
 |[],es,h,_=>⟨h,λm hm=>(nomatch hm)⟩
 |m::ms,es,h,ht=>by
  obtain⟨h1,n,hn,hle⟩:=h.add (m:=m) ht
  have hp:=nI (xo t es m)
  obtain⟨h2,h3⟩:=Lvl.scan ms h1 (kG hp ht)
  refine⟨h2,λm' hm'=>?_⟩
  rcases aG.mp hm' with rfl |z
  ·exact⟨n,kG (nI (nF t ms (mG t es m'))) hn,hle⟩
  ·exact h3 m' z
theorem D0 {rows:Rows}(h:rows.Pairwise λa b=>a.2<=b.2){i j:Nat}{a b:List Int×Int}(hij:i<j)(hi:rows[i]? = some a)(hj:rows[j]? = some b):a.2<=b.2:=by
 obtain⟨hj1,rfl⟩:=ag.mp hj
 obtain⟨hi1,rfl⟩:=ag.mp hi
 exact cR.mp h i j hi1 hj1 hij
theorem uM {es:List Ent}(nd:(es.map (·.1)).Nodup){j:Nat}{e:Ent}(h:es[j]? = some e):∃ d,(gm es)[j]? = some (e.1,d)/\ib (gm es) e.1=some d:=by
 have hl:=(ag.mp h).1
 have hj:(gm es)[j]? = some ((gm es)[j]'(by rw[nJ];exact hl)):=af _
 have e1:((gm es)[j]'(by rw[nJ];exact hl)).1=e.1:=by
  have a:=bS (·[j]?) (jg es)
  rw[ai,ai,hj,h]at a
  exact bh a
 generalize (gm es)[j]'(by rw[nJ];exact hl)=r at hj e1
 obtain⟨t,d⟩:=r
 have e1:t=e.1:=e1
 subst e1
 exact⟨d,hj,lX (r:=(e.1,d)) (by rw[jg];exact nd) (aw hj)⟩
structure M4 (l:Ln)(es:List Ent)(i:Nat):Prop where
 mono:(gm es).Pairwise λa b=>a.2<=b.2
 here:∀ e d,es[i]? = some e->ib (gm es) e.1=some d->∀ r∈gm es,r.2<=d+1
 done:∀ j e d,j<i->es[j]? = some e->ib (gm es) e.1=some d->∀ m∈mvs l e.1,∃ n,ib (gm es) m.2=some n/\n<=d+1
theorem Fd {l:Ln}{ns:List Int}(ok:fC l)(T:i6 l ns)(hne:ns≠ []):∀ i,M4 l (fb l ns i) i
 | 0=>by
  have e0:gm (fb l ns 0) = [(ns,0)]:=rfl
  refine⟨by rw[e0];simp,λe d he hd r hr=>?_,λj e d hj=>absurd hj (Nat.not_lt_zero j)⟩
  rw[e0]at hd hr
  have:=lg hd
  have h1:=bw.mp hr
  have h2:=bw.mp this
  rw[h1]
  have h3:d=0:=by injection h2
  show(0:Int)<=d+1
  omega
 |i+1=>by
  have ih:=Fd ok T hne i
  have E:=jm ok T hne i
  have E1:=jm ok T hne (i+1)
  cases q:(fb l ns i)[i]? with
  |none=>
   have e1:fb l ns (i+1)=fb l ns i:=by rw[fb,q]
   have hl:(fb l ns i).length<=i:=by
    by_cases z:i<(fb l ns i).length
    ·rw[af z]at q;cases q
    ·omega
   rw[e1]
   refine⟨ih.mono,λe d he=>?_,λj e d hj he=>?_⟩
   ·rw[bg (by omega)]at he;cases he
   ·have:=(ag.mp he).1
    exact ih.done j e d (by omega) he
  |some e=>
   obtain⟨d,hd1,hd2⟩:=uM E.nd q
   have L0:Lvl (fb l ns i) d:=⟨ih.mono,ih.here e d q hd2⟩
   have e1:=lQ q
   have pre:=nE l ns i
   obtain⟨L1,M1⟩:=Lvl.scan (mvs l e.1) L0 hd2
   rw[<-e1]at L1 M1
   have rp:=nI pre
   have KO:(gm (fb l ns (i+1)))[i]? = some (e.1,d):=by
    obtain⟨z,hz⟩:=rp
    rw[<-hz,aq (ag.mp hd1).1]
    exact hd1
   refine⟨L1.mono,λe' d' he' hd' r hr=>?_,λj e' d' hj he' hd' m hm=>?_⟩
   ·obtain⟨d2,h1,h2⟩:=uM E1.nd he'
    rw[hd']at h2
    cases h2
    have a:=D0 L1.mono (Nat.lt_succ_self i) KO h1
    have b:=L1.top r hr
    have a:d<=d':=a
    omega
   ·by_cases hji:j<i
    ·have hlen:j<(fb l ns i).length:=by have:=(ag.mp q).1;omega
     have he0:(fb l ns i)[j]? = some e':=by
      obtain⟨z,hz⟩:=pre
      rw[<-hz,aq hlen]at he'
      exact he'
     obtain⟨d3,_,h3⟩:=uM E.nd he0
     have:=kG rp h3
     rw[hd']at this
     cases this
     obtain⟨n,hn,hle⟩:=ih.done j e' d' hji he0 h3 m hm
     exact⟨n,kG rp hn,hle⟩
    ·have ej:j=i:=by omega
     subst ej
     have he0:(fb l ns (j+1))[j]? = some e:=by
      obtain⟨z,hz⟩:=pre
      rw[<-hz,aq (ag.mp q).1]
      exact q
     rw[he0]at he'
     cases he'
     have:=kG rp hd2
     rw[hd']at this
     cases this
     exact M1 m hm
theorem Ax {l:Ln}{ns:List Int}(ok:fC l)(T:i6 l ns)(hne:ns≠ []){i:Nat}(hi:(fb l ns i).length=i):Hj l ns (gm (fb l ns i)):=by
 have W:=Fd ok T hne i
 have E:=jm ok T hne i
 refine⟨⟨by rw[jg];exact E.nd,λs hs=>?_⟩,?_,λr hr m hm=>?_⟩
 ·rw[jg]at hs
  obtain⟨e,he,rfl⟩:=ak.mp hs
  obtain⟨a,b,c⟩:=E.tr e he
  exact⟨b,c,a⟩
 ·have h0:fb l ns 0 <+:fb l ns i:=by have:=qU l ns 0 i;rwa [Nat.zero_add]at this
  exact kG (nI h0) (show ib [(ns,0)] ns=some 0 from uc (rows:=[]) (by simp))
 ·obtain⟨j,hj,e⟩:=bU.mp hr
  have hjl:j<(fb l ns i).length:=by rw[<-nJ];exact hj
  obtain⟨d,h1,h2⟩:=uM E.nd (af hjl)
  rw[af hj,e]at h1
  cases h1
  exact W.done j _ d (by omega) (af hjl) h2 m hm
theorem qT {l:Ln}{ns:List Int}(ok:fC l)(T:i6 l ns)(hne:ns≠ []){i:Nat}(hi:(fb l ns i).length=i):Dj l ns ((fb l ns i).map (·.1)):=by
 have:=(B5.mp (Ax ok T hne hi)).1
 rwa [jg]at this
end TL
namespace TL
open PySem PySem.Spec PyProof.Rows L2
theorem Dgs.rev {L T:Addr->List V->Prop} :∀ {ds:List PyData}{vs:List V},Dgs L T ds vs->Dgs L T ds.reverse vs.reverse
 |[],_,h=>by rw[gh.mp h];exact gh.mpr rfl
 |d::ds,_,h=>by
  obtain⟨v,r,rfl,h1,h2⟩:=fx.mp h
  rw[dw,dw]
  exact Dgs.append (Dgs.rev h2) (Dgs.one h1)
open TS
theorem iE {n:Nat}(h:n<=10000000):n<sizeLine:=bQ h (by decide)
theorem vP {K:PySem.W.Frag}{H:Hp}{t b:Addr}{kvs:List (List Key×V)}{xs:List V}{o:HO}(ht:H t=some (.dT kvs))(h:SqT K H b xs):SqT K (upd H t o) b xs:=by
 rcases h with(h |⟨o,h⟩)|h
 ·exact .inl (.inl (by rw[eN (fA h ht (by intro z;cases z))];exact h))
 ·exact .inl (.inr ⟨o,by rw[eN (fA h ht (by intro z;cases z))];exact h⟩)
 ·exact .inr h
def mf (K:PySem.W.Frag)(H:Hp)(e:Ent)(v:V):Prop:=match e.2 with
 |none=>v = .non
 |some (t,k)=>∃ a b c,v = .ref a/\H a=some (.tup [.ref b,.ref c])/\H b=some (.tup (t.map V.int))/\SqT K H c [.str k.1,.int k.2]
theorem mf.same {K:PySem.W.Frag}{H H':Hp}{e:Ent}{v:V}(h:mf K H e v)(s:eQ H H'):mf K H' e v:=by
 unfold mf at h ⊢
 split at h
 ·exact h
 ·obtain⟨a,b,c,h1,h2,h3,h4⟩:=h
  exact⟨a,b,c,h1,s _ _ h2,s _ _ h3,fq s h4⟩
theorem mf.Hu {K:PySem.W.Frag}{H:Hp}{e:Ent}{v:V}{p:Addr}{vs:List V}{o:HO}(h:mf K H e v)(hp:H p=some (.lst vs)):mf K (upd H p o) e v:=by
 unfold mf at h ⊢
 split at h
 ·exact h
 ·obtain⟨a,b,c,h1,h2,h3,h4⟩:=h
  exact⟨a,b,c,h1,by rw[eN (fA h2 hp (by intro z;cases z))];exact h2,by rw[eN (fA h3 hp (by intro z;cases z))];exact h3,kn hp h4⟩
theorem mf.Hv {K:PySem.W.Frag}{H:Hp}{e:Ent}{v:V}{p:Addr}{kvs:List (List Key×V)}{o:HO}(h:mf K H e v)(hp:H p=some (.dT kvs)):mf K (upd H p o) e v:=by
 unfold mf at h ⊢
 split at h
 ·exact h
 ·obtain⟨a,b,c,h1,h2,h3,h4⟩:=h
  exact⟨a,b,c,h1,by rw[eN (fA h2 hp (by intro z;cases z))];exact h2,by rw[eN (fA h3 hp (by intro z;cases z))];exact h3,vP hp h4⟩
structure oq (K:PySem.W.Frag)(H:Hp)(d:Addr)(es:List Ent)(vs:List V):Prop where
 at_:H d=some (.dT ((es.zip vs).map λp=>(kyI p.1.1,p.2)))
 len:vs.length=es.length
 each:∀ (i:Nat) e v,es[i]? = some e->vs[i]? = some v->mf K H e v
theorem oq.same {K:PySem.W.Frag}{H H':Hp}{d:Addr}{es:List Ent}{vs:List V}(h:oq K H d es vs)(s:eQ H H'):oq K H' d es vs:=
 ⟨s _ _ h.at_,h.len,λi e v h1 h2=>(h.each i e v h1 h2).same s⟩
theorem Bz {es:List Ent}{vs:List V}(hl:vs.length=es.length):((es.zip vs).map λp=>(kyI p.1.1,p.2)).map (·.1)=es.map λe=>kyI e.1:=by
 rw[bu]
 refine d9 λi=>?_
 rw[ai,ai]
 by_cases hi:i<es.length
 ·rw[af (by rw[cB];omega),af hi,List.getElem_zip];rfl
 ·rw[bg (by rw[cB];omega),bg (by omega)];rfl
theorem zt {κ:Type} [DecidableEq κ] {kvs:List (κ×V)}{k:κ} :(jo kvs k).isSome=decide (k∈kvs.map (·.1)):=by
 rw[<-mH,bx,eA,cw,ak]
 constructor
 ·rintro⟨p,h1,h2⟩;exact⟨p,h1,by simpa using h2⟩
 ·rintro⟨p,h1,h2⟩;exact⟨p,h1,by simpa using h2⟩
theorem oq.mem {K:PySem.W.Frag}{H:Hp}{d:Addr}{es:List Ent}{vs:List V}(h:oq K H d es vs)(t:List Int):(jo ((es.zip vs).map λp=>(kyI p.1.1,p.2)) (kyI t)).isSome=decide (t∈es.map (·.1)):=by
 rw[zt,Bz h.len]
 congr 1
 refine propext ⟨λz=>?_,λz=>?_⟩
 ·obtain⟨e,h1,h2⟩:=ak.mp z
  exact ak.mpr ⟨e,h1,nP h2⟩
 ·obtain⟨e,h1,h2⟩:=ak.mp z
  exact ak.mpr ⟨e,h1,by rw[h2]⟩
structure Ord (H:Hp)(p:Addr)(as:List Addr)(es:List Ent):Prop where
 at_:H p=some (.lst (as.map V.ref))
 len:as.length=es.length
 each:∀ (i:Nat) b e,as[i]? = some b->es[i]? = some e->H b=some (.tup (e.1.map V.int))
theorem Ord.same {H H':Hp}{p:Addr}{as:List Addr}{es:List Ent}(h:Ord H p as es)(s:eQ H H'):Ord H' p as es:=
 ⟨s _ _ h.at_,h.len,λi b e h1 h2=>s _ _ (h.each i b e h1 h2)⟩
theorem zG {K:PySem.W.Frag}{H:Hp}{d p st tp ta tm:Addr}{es:List Ent}{vs:List V}{as:List Addr}{t t':List Int}{k:Str×Int}(hs:oq K H d es vs)(ho:Ord H p as es)(hst:H st=some (.tup (t'.map V.int)))
  (htp:H tp=some (.tup [.ref ta,.ref tm])) (hta:H ta=some (.tup (t.map V.int))) (htm:SqT K H tm [.str k.1,.int k.2]) (hn:t'∉es.map (·.1)):
  oq K (upd (upd H d (.dT (putK ((es.zip vs).map λp=>(kyI p.1.1,p.2)) (kyI t') (.ref tp)))) p (.lst (as.map V.ref ++ [V.ref st]))) d (es ++ [(t',some (t,k))]) (vs ++ [.ref tp])/\
  Ord (upd (upd H d (.dT (putK ((es.zip vs).map λp=>(kyI p.1.1,p.2)) (kyI t') (.ref tp)))) p (.lst (as.map V.ref ++ [V.ref st]))) p (as ++ [st]) (es ++ [(t',some (t,k))]):=by
 have hd:=hs.at_
 have hp:=ho.at_
 have dp:d≠p:=fA hd hp (by intro z;cases z)
 have hv:jo ((es.zip vs).map λp=>(kyI p.1.1,p.2)) (kyI t')=none:=by
  have:=hs.mem t'
  rw[bf hn]at this
  exact Option.isNone_iff_eq_none.mp (by rw[<-Option.not_isSome,this];rfl)
 have e1:putK ((es.zip vs).map λp=>(kyI p.1.1,p.2)) (kyI t') (.ref tp)=((es ++ [(t',some (t,k))]).zip (vs ++ [V.ref tp])).map λp=>(kyI p.1.1,p.2):=by
  rw[oV _ hv,List.zip_append hs.len.symm,ar];rfl
 have hp1:upd H d (.dT (putK ((es.zip vs).map λp=>(kyI p.1.1,p.2)) (kyI t') (.ref tp))) p=some (.lst (as.map V.ref)):=by rw[eN (bK dp)];exact hp
 have ht:∀ b xs,H b=some (.tup xs)->upd (upd H d (.dT (putK ((es.zip vs).map λp=>(kyI p.1.1,p.2)) (kyI t') (.ref tp)))) p (.lst (as.map V.ref ++ [V.ref st])) b=some (.tup xs):=λb xs q=>by
  rw[eN (fA q hp (by intro z;cases z)),eN (fA q hd (by intro z;cases z))];exact q
 refine⟨⟨by rw[eN dp,eG,e1],by rw[ah,ah,hs.len];rfl,λi e v he hv=>?_⟩,⟨by rw[eG,ar];rfl,by rw[ah,ah,ho.len];rfl,λi b e hb he=>?_⟩⟩
 ·by_cases hi:i<es.length
  ·rw[aq hi]at he
   rw[aq (by rw[hs.len];exact hi)]at hv
   exact((hs.each i e v he hv).Hv hd).Hu hp1
  ·have hi2:i=es.length:=by
    have:=(ag.mp he).1
    rw[ah,aQ]at this
    omega
   rw[hi2,az (ao _),br]at he
   rw[hi2,<-hs.len,az (ao _),br]at hv
   cases he
   cases hv
   exact⟨tp,ta,tm,rfl,ht _ _ htp,ht _ _ hta,kn hp1 (vP hd htm)⟩
 ·by_cases hi:i<es.length
  ·rw[aq hi]at he
   rw[aq (by rw[ho.len];exact hi)]at hb
   exact ht _ _ (ho.each i b e hb he)
  ·have hi2:i=es.length:=by
    have:=(ag.mp he).1
    rw[ah,aQ]at this
    omega
   rw[hi2,az (ao _),br]at he
   rw[hi2,<-ho.len,az (ao _),br]at hb
   cases he
   cases hb
   exact ht _ _ hst
theorem BI {K:PySem.W.Frag}{p a:Addr}{H:Hp}{kvs:List (List Key×V)}{xs:List V}(hp:H p=some (.dT kvs))(h:SqT K H a xs):SqT K (hid p H) a xs:=by
 rcases h with(h |⟨o,h⟩)|h
 ·exact .inl (.inl (by rw[fU (fA h hp (by intro z;cases z))];exact h))
 ·exact .inl (.inr ⟨o,by rw[fU (fA h hp (by intro z;cases z))];exact h⟩)
 ·exact .inr h
abbrev wH (d p:Addr)(H:Hp):Hp:=hid p (hid d H)
theorem sq {K:PySem.W.Frag}{d p a:Addr}{H:Hp}{kvs:List (List Key×V)}{vs xs:List V}(hd:H d=some (.dT kvs))(hp:H p=some (.lst vs))(h:SqT K H a xs):SqT K (wH d p H) a xs:=by
 have dp:p≠d:=fA hp hd (by intro z;cases z)
 exact vn (vs:=vs) (by rw[fU dp];exact hp) (BI hd h)
theorem lB {d p a:Addr}{H:Hp}(h1:a≠d)(h2:a≠p):wH d p H a=H a:=by show hid p (hid d H) a=H a;rw[fU h2,fU h1]
theorem sk {d p:Addr}{H H':Hp}{o o':HO}(s:eQ (wH d p H) H'):eQ (wH d p H) (upd (upd H' d o) p o'):=λb u h=>by
 by_cases e1:b=p
 ·subst e1;have h:hid b (hid d H) b=some u:=h;rw[j9]at h;cases h
 ·have h':hid p (hid d H) b=some u:=h
  rw[fU e1]at h'
  by_cases e2:b=d
  ·subst e2;rw[j9]at h';cases h'
  ·rw[eN e1,eN e2];exact s _ _ h
structure pG (H H':Hp)(p:Addr)(bs:List Addr)(ts:List (List Int)):Prop where
 same:eQ H H'
 new:H p=none
 at_:H' p=some (.lst (bs.map V.ref))
 len:bs.length=ts.length
 each:∀ (i:Nat) b t,bs[i]? = some b->ts[i]? = some t->H b=none/\b≠p/\H' b=some (.lst (t.map V.int))
 nd:bs.Nodup
theorem pG.pre {H0 H H':Hp}{p:Addr}{bs:List Addr}{ts:List (List Int)}(s:eQ H0 H)(h:pG H H' p bs ts):pG H0 H' p bs ts:=
 ⟨s.trans h.same,eQ.free s h.new,h.at_,h.len,λi b t h1 h2=>⟨eQ.free s (h.each i b t h1 h2).1,(h.each i b t h1 h2).2⟩,h.nd⟩
structure qI (H:Hp)(p:Addr)(as:List Addr)(es:List Ent):Prop where
 at_:H p=some (.lst (as.map V.ref))
 len:as.length=es.length
 each:∀ (i:Nat) b e,as[i]? = some b->es[i]? = some e->b≠p/\H b=some (.lst (e.1.map V.int))
theorem qI.same {H H':Hp}{p:Addr}{as:List Addr}{es:List Ent}(h:qI H p as es)(s:eQ H H'):qI H' p as es:=
 ⟨s _ _ h.at_,h.len,λi b e h1 h2=>⟨(h.each i b e h1 h2).1,s _ _ (h.each i b e h1 h2).2⟩⟩
theorem qI.get {H:Hp}{p:Addr}{as:List Addr}{es:List Ent}(h:qI H p as es){i:Nat}{e:Ent}(he:es[i]? = some e):∃ b,as[i]? = some b/\b≠p/\H b=some (.lst (e.1.map V.int)):=by
 have hi:i<as.length:=by rw[h.len];exact(ag.mp he).1
 exact⟨as[i],af hi,h.each i _ e (af hi) he⟩
theorem qI.da {K:PySem.W.Frag}{H:Hp}{p:Addr}{as:List Addr}{es:List Ent}(h:qI H p as es):Da K H (dLI (es.map (·.1))) (.ref p):=
 ic.mpr ⟨p,_,rfl,SqL.of h.at_,yz (by rw[aa];exact h.len) λi b t h1 h2=>by
  rw[ai]at h2
  cases q:es[i]? with
  |none=>rw[q]at h2;cases h2
  |some e=>rw[q]at h2;cases h2;exact(h.each i b e h1 q).2⟩
theorem yo {l:Ln}{ns:List Int}{i j:Nat}(hi:(fb l ns i).length=i)(hj:(fb l ns j).length=j):fb l ns i=fb l ns j:=by
 rcases Nat.le_total i j with z |z
 ·obtain⟨k,rfl⟩:=dh z
  exact(nC (by omega) k).symm
 ·obtain⟨k,rfl⟩:=dh z
  exact nC (by omega) k
theorem DI {l:Ln}{ns:List Int}{i:Nat}(hi:(fb l ns i).length=i)(j:Nat):(fb l ns j).length<=i:=by
 rcases Nat.le_total i j with z |z
 ·obtain⟨k,rfl⟩:=dh z
  rw[nC (by omega) k];omega
 ·obtain⟨k,hk⟩:=dh z
  have:=(qU l ns j k).length_le
  rw[<-hk]at this
  omega
theorem Dh {σ:L2.St}{H:Hp}{te:TE}{P1:VK}{P0:Hp->Prop}(h:te σ H P1):AB σ H (λb H3=>if b=true then te σ H3 P1 else P0 H3):=nU (A:=te σ H P1) (B:=P0 H) h
end TL
namespace TL
open PySem PySem.Spec PyProof.Rows L2
section
variable {prog:Program}{w:World}{K:Type} [DecidableEq K] (knd:PySem.KeyKind prog w K)
def gy (h:Heap)(x:List K×K)(a:Addr):Prop:=∃ o n b v,h.get? a=some o/\o.cls = .type "tuple" /\o.data = .seq #[.ref b,v] n/\IsTupleKey knd h x.1 b/\knd.is x.2 v=true
variable {knd}
theorem gy.typeIs {s:Shared}{x:List K×K}{a:Addr}(h:gy knd s.heap x a):s.TypeIs (.ref a) "tuple" :=let ⟨o,_,_,_,ho,hc,_⟩:=h;⟨o,ho,hc⟩
theorem gy.inj {h:Heap}{a:Addr}{x y:List K×K}(hx:gy knd h x a)(hy:gy knd h y a):x=y:=by
 obtain⟨o,n,b,v,h1,_,h3,h4,h5⟩:=hx
 obtain⟨o',n',b',v',g1,_,g3,g4,g5⟩:=hy
 obtain rfl:o=o':=bh (h1.symm.trans g1)
 rw[h3]at g3
 injection g3 with e _
 have e1:Value.ref b=Value.ref b'/\v=v':=by simpa using e
 obtain⟨e1,rfl⟩:=e1
 injection e1 with e1
 subst e1
 exact dR (h4.inj g4) (knd.inj _ _ _ h5 g5)
theorem gy.keeps {h h':Heap}{x:List K×K}{a d:Addr}{o:Obj}{es ep}(k:gy knd h x a)(ho:h.get? d=some o)(hd:o.data = .dict es ep)(hs:Heap.SameBut d h h'):gy knd h' x a:=by
 obtain⟨o',n,b,v,h1,h2,h3,h4,h5⟩:=k
 have hne:a≠d:=by
  rintro rfl
  obtain rfl:o'=o:=bh (h1.symm.trans ho)
  rw[hd]at h3;exact nomatch h3
 exact⟨o',n,b,v,(hs.2 a hne).trans h1,h2,h3,h4.keeps ho hd hs,h5⟩
def rM (knd:PySem.KeyKind prog w K)(x:List K×K):Int:=reduceHash (Builtin.Tuple.tupleHashOf [tupleKeyHash knd x.1,knd.hash x.2])
variable {A:Around}{E:Value->Shared->Prop}{s:Shared}
theorem in1_units (A:Around):A.in1.units<=A.units+1:=by first |exact ao _ |(simp[Around.in1];done)|omega
theorem oF {x:List K×K}{a:Addr}{Q:Int->Shared->Prop}(hu:A.units+1<cLine)(hk:gy knd s.heap x a)(h:Q (rM knd x) {s with toks:=s.toks+(x.1.length+3)}):
  wpAny (model prog w) A (pyHash (.ref a)) Q E s:=by
 have hT:=hk.typeIs
 obtain⟨o,n,b,v,ho,_,hd,hb,hv⟩:=hk
 unfold pyHash
 first |unfold pyHashByItsType |skip
 first |refine ae (wpAny_cRoomFor_or (.inr (by omega)) ?_)|skip
 refine ae (dy hT dF.lookup ?_)
 show wpAny _ _ (if(some (Value.builtin "tuple.__hash__")==some Value.none)=true then _ else _) Q E s
 rw[aF (by rw[beq_builtin_none];exact aA)]
 refine ae (dy hT dF.lookup ?_)
 show wpAny _ _ (callSpecialIfBoundUnlessNone? (.ref a) "__hash__" _ >>= _) Q E s
 refine ae (wpAny_callSpecialIfBoundUnlessNone?_slot hT dF (cA dF hT F.entry_tuple_hash ?_ (F.args_tuple_hash_1 _)))
 show wpAny _ _ (Builtin.Tuple.tupleItemsOf (.ref a) >>= _) _ _ s
 refine ae (wpAny_tupleItemsOf ho hd ?_)
 refine ae ?_
 rw[<-dg]
 show wpAny _ _ (forIn [Value.ref b,v] _ _) _ _ s
 rw[cq]
 refine ae ?_
 refine ae (wpAny_pyHash_tuple (bQ (in1_units A) hu) hb ?_)
 refine aj ?_
 show wpAny _ _ (forIn [v] _ _) _ _ _
 rw[cq]
 refine ae ?_
 refine ae (knd.pyHash hv ?_)
 refine aj ?_
 show wpAny _ _ (forIn [] _ _) _ _ _
 rw[List.forIn_nil]
 refine aj ?_
 show wpAny _ _ (retInt (Builtin.Tuple.tupleHashOf [tupleKeyHash knd x.1,knd.hash x.2])) _ _ _
 refine wpAny_ret_mkInt ?_
 show wpAny _ _ (if(decide (-(2:Int) ^ 63<=Builtin.Tuple.tupleHashOf [tupleKeyHash knd x.1,knd.hash x.2])&&decide (Builtin.Tuple.tupleHashOf [tupleKeyHash knd x.1,knd.hash x.2]<2 ^ 63))=true then _ else _) Q E _
 unfold rM reduceHash at h
 by_cases hr:(decide (-(2:Int) ^ 63<=Builtin.Tuple.tupleHashOf [tupleKeyHash knd x.1,knd.hash x.2])&&decide (Builtin.Tuple.tupleHashOf [tupleKeyHash knd x.1,knd.hash x.2]<2 ^ 63))=true
 ·rw[aJ hr]
  rw[aJ hr]at h
  exact aj (by simpa [Nat.add_assoc]using h)
 ·rw[aF hr]
  rw[aF hr]at h
  exact ae (wpAny_rule (aj (by simpa [Nat.add_assoc]using h)))
theorem uR {x y:List K×K}{a b:Addr}{P:Fin->Shared->Prop}(hu:A.units<cLine)(hx:gy knd s.heap x a)(hy:gy knd s.heap y b)(h:P (.done (.ret (.bool (decide (x=y))))) s):
  wpAny (model prog w) A (Builtin.«tuple.__eq__» ⟨[.ref a,.ref b],[]⟩) P E s:=by
 have hTb:=hy.typeIs
 obtain⟨oa,na,ba,va,hoa,_,hda,hia,hva⟩:=hx
 obtain⟨ob,nb,bb,vb,hob,_,hdb,hib,hvb⟩:=hy
 show wpAny _ _ (isInstance (.ref b) (.type "tuple") >>= _) _ _ s
 refine ae (wpAny_isInstance hTb isSubtype_tuple_tuple ?_)
 simp only[bX,aL,bF]
 refine ae (wpAny_tupleItemsOf hoa hda ?_)
 refine ae (wpAny_tupleItemsOf hob hdb ?_)
 refine ae ?_
 show wpAny _ _ (forIn [(Value.ref ba,Value.ref bb),(va,vb)] _ _) _ _ s
 rw[cq]
 refine ae ?_
 refine ae (wpAny_eqBool_tuple hu hia hib ?_)
 by_cases h1:x.1=y.1
 ·rw[bG h1]
  simp only[bX,aL,bF]
  refine aj ?_
  show wpAny _ _ (forIn [(va,vb)] _ _) _ _ s
  rw[cq]
  refine ae ?_
  refine ae (knd.eqBool (a:=x.2) (b:=y.2) hva hvb ?_)
  by_cases h2:x.2=y.2
  ·rw[bG h2]
   simp only[bX,aL,bF]
   refine aj ?_
   show wpAny _ _ (forIn [] _ _) _ _ s
   rw[List.forIn_nil]
   refine aj ?_
   have e:x=y:=dR h1 h2
   rw[bG e]at h
   exact aj h
  ·rw[bf h2]
   simp only[Bool.not_false,dj]
   have hf:¬x=y:=λe=>h2 (by rw[e])
   rw[bf hf]at h
   exact ae (aj (aj (aj (aj h))))
 ·rw[bf h1]
  simp only[Bool.not_false,dj]
  have hf:¬x=y:=λe=>h1 (by rw[e])
  rw[bf hf]at h
  exact ae (aj (aj (aj (aj h))))
theorem oG {x y:List K×K}{a b:Addr}{Q:Bool->Shared->Prop}(hu:A.units+1<cLine)(hx:gy knd s.heap x a)(hy:gy knd s.heap y b)(h:Q (decide (x=y)) s):
  wpAny (model prog w) A (eqBool (.ref a) (.ref b)) Q E s:=by
 unfold eqBool
 try with_reducible refine b9 ?_
 show wpAny _ _ (if(Value.ref a==Value.ref b)=true then _ else _) Q E s
 by_cases hab:(Value.ref a==Value.ref b)=true
 ·rw[aJ hab]
  have e:a=b:=by have:=eq_of_beq hab;injection this
  subst e
  obtain rfl:=hx.inj hy
  exact ae (wpAny_rule (aj (by simpa using h)))
 ·rw[aF hab]
  exact ae (wpAny_richCompare_same_room (op:=.Eq) hx.typeIs hy.typeIs F.slot_tuple_eq
   (cA F.slot_tuple_eq hx.typeIs F.entry_tuple_eq (uR (bQ (in1_units A) hu) hx hy ⟨_,rfl,(λe=>nomatch e),cu h⟩) (F.args_tuple_eq_2 _ _)) (by omega))
theorem v5 (m:Nat){ks:List K}{a:Addr}{Q:Bool->Shared->Prop}(hk:IsTupleKey knd s.heap ks a)(h:Q true s):wpAny (model prog w) A (eqIsQuiet (m+1) (.ref a)) Q E s:=by
 have hT:=hk.typeIs
 obtain⟨o,items,n,ho,_,hd,hi⟩:=hk
 unfold eqIsQuiet
 refine ae (dy hT F.slot_tuple_eq.lookup ?_)
 show wpAny _ _ (isInstance (.ref a) (.type "tuple") >>= _) _ _ s
 refine ae (wpAny_isInstance hT isSubtype_tuple_tuple ?_)
 simp only[bX,aL,bF]
 refine ae (wpAny_seqItems ho hd ?_)
 refine ae ?_
 show wpAny _ _ (forIn items _ _) _ _ s
 rw[<-dg]
 refine wpAny_forIn_list _ (λrest r s'=>r.1=none/\s'=s/\∀ v∈rest,carriedByValue v=true) _ ?_ ?_ _ _ ⟨rfl,rfl,hi.byValue⟩
 ·rintro v rest r s' ⟨hr,rfl,lj⟩
  rw[eqIsQuiet_byValue _ (lj v aB)]
  refine ae (aj ?_)
  simp only[bX,aL,bF]
  exact aj ⟨rfl,rfl,λu hu'=>lj u (ax _ hu')⟩
 ·rintro⟨r1,r2⟩ s' ⟨hr,rfl,_⟩
  simp only at hr
  subst hr
  exact aj h
theorem xD (m:Nat){x:List K×K}{a:Addr}{Q:Bool->Shared->Prop}(hk:gy knd s.heap x a)(h:Q true s):wpAny (model prog w) A (eqIsQuiet (m+2) (.ref a)) Q E s:=by
 have hT:=hk.typeIs
 obtain⟨o,n,b,v,ho,_,hd,hb,hv⟩:=hk
 unfold eqIsQuiet
 refine ae (dy hT F.slot_tuple_eq.lookup ?_)
 show wpAny _ _ (isInstance (.ref a) (.type "tuple") >>= _) _ _ s
 refine ae (wpAny_isInstance hT isSubtype_tuple_tuple ?_)
 simp only[bX,aL,bF]
 refine ae (wpAny_seqItems ho hd ?_)
 refine ae ?_
 show wpAny _ _ (forIn #[Value.ref b,v] _ _) _ _ s
 rw[<-dg]
 show wpAny _ _ (forIn [Value.ref b,v] _ _) _ _ s
 rw[cq]
 refine ae ?_
 refine ae (v5 m hb ?_)
 simp only[bX,aL,bF]
 refine aj ?_
 show wpAny _ _ (forIn [v] _ _) _ _ s
 rw[cq]
 refine ae ?_
 rw[eqIsQuiet_byValue _ (knd.byValue _ _ hv)]
 refine ae (aj ?_)
 simp only[bX,aL,bF]
 refine aj ?_
 show wpAny _ _ (forIn [] _ _) _ _ s
 rw[List.forIn_nil]
 exact aj (aj h)
end
def mP {prog:Program}{w:World}{K:Type} [DecidableEq K] (knd:PySem.KeyKind prog w K):HeapKind prog w (List K×K) where
 is:=gy knd
 hash:=rM knd
 draws:=λx=>x.1.length+3
 room:=λA=>A.units+1<cLine
 inj:=λhx hy=>hx.inj hy
 keeps:=λx ho hd hs=>x.keeps ho hd hs
 pyHash:=λhu hk h=>oF hu hk h
 eqBool:=λhu hx hy h=>oG hu hx hy h
 quiet:=λhk h=>xD 6 hk h
abbrev SK:=List Key×Key
abbrev KvN:=List (SK×Addr×V)
abbrev PN:KvN->List (SK×Addr×Value)->Prop:=Paired λp q=>p.1=q.1/\p.2.1=q.2.1/\RelV p.2.2 q.2.2
def AU (P:Program)(w:World)(a:Addr)(kvs:KvN)(h:Heap):Prop:=kvs.length<=sizeLine/\(a==sysModules)=false/\∃ xs:List (SK×Addr×Value),PN kvs xs/\
 ∃ o es ep,h.get? a=some o/\o.ExactDict/\o.data = .dict es ep/\es.toList=xs.map (entryOfKey (mP (fB P w)))/\(xs.map (·.1)).Nodup
def nD (P:Program)(w:World)(a:Addr)(kvs:KvN):HO:=.ext (AU P w a kvs)
theorem AU.mono {P:Program}{w:World}{a:Addr}{kvs:KvN}{h1 h2:Heap}(p:AU P w a kvs h1)(e:∀ o,h1.get? a=some o->h2.get? a=some o):AU P w a kvs h2:=by
 obtain⟨p1,p2,xs,p3,o,es,ep,p4,p5⟩:=p
 exact⟨p1,p2,xs,p3,o,es,ep,e _ p4,p5⟩
theorem yJ {P:Program}{w:World}{H:Hp}{h:Heap}{a:Addr}{kvs:KvN}(p:AU P w a kvs h):gD P w H h a (nD P w a kvs):=
 ⟨p,(by obtain⟨_,_,_,_,o,_,_,e,_⟩:=p;exact⟨o,e⟩),λh1 h2 q e=>q.mono e⟩
def iW (H:Hp)(c:Addr)(k:SK):Prop:=∃ b,H c=some (.tup [.ref b,kV k.2])/\H b=some (.tup (k.1.map kV))
theorem iW.same {H H':Hp}{c:Addr}{k:SK}(h:iW H c k)(s:eQ H H'):iW H' c k:=h.imp λb h=>⟨s _ _ h.1,s _ _ h.2⟩
theorem iW.jF {H H':Hp}{c:Addr}{k:SK}(h:iW H c k)(s:∀ b ys,H b=some (.tup ys)->H' b=some (.tup ys)):iW H' c k:=h.imp λb h=>⟨s _ _ h.1,s _ _ h.2⟩
structure DN (P:Program)(w:World)(H:Hp)(a:Addr)(kvs:KvN):Prop where
 at_:H a=some (nD P w a kvs)
 keys:∀ p∈kvs,iW H p.2.1 p.1
theorem DN.same {P:Program}{w:World}{H H':Hp}{a:Addr}{kvs:KvN}(h:DN P w H a kvs)(s:eQ H H'):DN P w H' a kvs:=⟨s _ _ h.at_,λp hp=>(h.keys p hp).same s⟩
def valN (kvs:KvN)(k:SK):Option V:=(kvs.find? λp=>decide (p.1=k)).map (·.2.2)
def putN (kvs:KvN)(k:SK)(c:Addr)(v:V):KvN:=if(valN kvs k).isSome then kvs.map (λp=>if p.1=k then(p.1,p.2.1,v)else p)else kvs ++ [(k,c,v)]
theorem iP {p:SK×Addr×V}{r:KvN}{k:SK}(e:p.1=k):valN (p::r) k=some p.2.2:=by simp[valN,b5,e]
theorem iQ {p:SK×Addr×V}{r:KvN}{k:SK}(e:¬p.1=k):valN (p::r) k=valN r k:=by simp[valN,b5,e]
theorem qX (k j:SK)(y:V):∀ kvs:KvN,valN (kvs.map λp=>if p.1=k then(p.1,p.2.1,y)else p) j=(valN kvs j).map λx=>if j=k then y else x
 |[]=>rfl
 |p::r=>by
  rw[aR]
  by_cases e:p.1=k
  ·rw[aJ e]
   by_cases f:p.1=j
   ·rw[iP (p:=(p.1,p.2.1,y)) f,iP f,dN,aJ (f.symm.trans e)]
   ·rw[iQ (p:=(p.1,p.2.1,y)) f,iQ f];exact qX k j y r
  ·rw[aF e]
   by_cases f:p.1=j
   ·rw[iP f,iP f,dN,aF (λz=>e (f.trans z))]
   ·rw[iQ f,iQ f];exact qX k j y r
theorem tu (k j:SK)(c:Addr)(y:V):∀ kvs:KvN,valN kvs k=none->valN (kvs ++ [(k,c,y)]) j=if j=k then some y else valN kvs j
 |[],_=>by
  rw[List.nil_append]
  by_cases f:j=k
  ·rw[aJ f,iP (p:=(k,c,y)) f.symm]
  ·rw[aF f,iQ (p:=(k,c,y)) (λz=>f z.symm)]
 |p::r,h=>by
  have hp:¬p.1=k:=λe=>by rw[iP e]at h;cases h
  rw[iQ hp]at h
  rw[List.cons_append]
  by_cases f:p.1=j
  ·rw[iP f,iP f,aF (λz=>hp (f.trans z))]
  ·rw[iQ f,iQ f];exact tu k j c y r h
theorem vK (kvs:KvN)(k j:SK)(c:Addr)(y:V):valN (putN kvs k c y) j=if j=k then some y else valN kvs j:=by
 unfold putN
 split
 ·rename_i h
  rw[qX]
  by_cases f:j=k
  ·subst f
   obtain⟨v,hv⟩:=eg.mp h
   rw[hv,aJ rfl,dN,aJ rfl]
  ·rw[aF f]
   cases valN kvs j with
   |none=>rfl
   |some v=>rw[dN,aF f]
 ·rename_i h
  exact tu k j c y kvs (by simpa using h)
theorem rF (kvs:KvN)(k:SK)(c:Addr)(v:V):(putN kvs k c v).length<=kvs.length+1:=by
 unfold putN
 split
 ·rw[aa];omega
 ·rw[ah,aQ];exact ao _
theorem PN.val {kvs:KvN}{xs:List (SK×Addr×Value)}(r:PN kvs xs)(k:SK):oB (valN kvs k) ((atKey xs k).map (·.2)):=by
 induction r with
 |nil=>exact True.intro
 |@cons p q ps qs h t ih=>
  obtain⟨h1,_,h2⟩:=h
  by_cases e:p.1=k
  ·have e':q.1=k:=h1.symm.trans e
   have b:atKey (q::qs) k=some q.2:=by simp[atKey,b5,e']
   rw[iP e,b];exact h2
  ·have e':¬q.1=k:=λz=>e (h1.trans z)
   have b:atKey (q::qs) k=atKey qs k:=by simp[atKey,b5,e']
   rw[iQ e,b];exact ih
theorem PN.AM {kvs:KvN}{xs:List (SK×Addr×Value)}(r:PN kvs xs)(k:SK){y:V}{u:Value}(ry:RelV y u):PN (kvs.map λp=>if p.1=k then(p.1,p.2.1,y)else p) (xs.map (putAt k u)):=by
 induction r with
 |nil=>exact .nil
 |@cons p q ps qs h t ih=>
  rw[aR,aR]
  refine .cons ?_ ih
  obtain⟨h1,h2,h3⟩:=h
  unfold putAt
  by_cases e:p.1=k
  ·rw[aJ e,aJ (h1.symm.trans e)];exact⟨h1,h2,ry⟩
  ·rw[aF e,aF (λz=>e (h1.trans z))];exact⟨h1,h2,h3⟩
theorem PN.put {kvs:KvN}{xs:List (SK×Addr×Value)}(r:PN kvs xs)(k:SK)(c:Addr){y:V}{u:Value}(ry:RelV y u):PN (putN kvs k c y) (storedH xs k c u):=by
 have e:(valN kvs k).isSome=(atKey xs k).isSome:=by rw[(r.val k).lZ,d7]
 unfold putN storedH
 rw[e]
 by_cases q:(atKey xs k).isSome=true
 ·rw[aJ q,aJ q];exact r.AM k ry
 ·rw[aF q,aF q];exact Paired.snoc r ⟨rfl,rfl,ry⟩
section
variable {P:Program}{w:World}{H:Hp}{h:Heap}{a c:Addr}{kvs:KvN}{k:SK}
theorem oZ (ok:HOk P w H h)(e:iW H c k):(mP (fB P w)).is h k c:=by
 obtain⟨b,e1,e2⟩:=e
 obtain⟨_,its,r,o,h1,h2,n,h3⟩:=(show gD P w H h c (.tup [.ref b,kV k.2]) from ok c _ e1)
 cases r with
 |cons r1 r2=>
  cases r2 with
  |cons r3 r4=>
   cases r4
   cases r1
   exact⟨o,n,b,_,h1,h2,h3,mU ok e2,lY r3⟩
theorem wR (ok:HOk P w H h)(e:DN P w H a kvs):kvs.length<=sizeLine/\(a==sysModules)=false/\∃ xs,PN kvs xs/\h.DictOfH (mP (fB P w)) a xs:=by
 obtain⟨⟨z,y,xs,r,o,es,ep,h1,h2,h3,h4,h5⟩,_,_⟩:=(show gD P w H h a (nD P w a kvs) from ok a _ e.at_)
 refine⟨z,y,xs,r,o,es,ep,h1,h2,h3,h4,λx hx=>?_,h5⟩
 have all:∀ {l:KvN}{m:List (SK×Addr×Value)},PN l m->(∀ p∈l,iW H p.2.1 p.1)->∀ x∈m,(mP (fB P w)).is h x.1 x.2.1:=by
  intro l m q
  induction q with
  |nil=>intro _ x hx;exact nomatch hx
  |@cons p q ps qs hq t ih=>
   intro hk x hx
   rcases aG.mp hx with e |hx
   ·subst e
    have:=oZ ok (hk p aB)
    rw[hq.1,hq.2.1]at this
    exact this
   ·exact ih (λp hp=>hk p (ax _ hp)) x hx
 exact all r e.keys x hx
end
theorem lK {P:Program}{w:World}{A:Around}(hu:A.units+2<cLine):(mP (fB P w)).room A.in1:=by
 show A.in1.units+1<cLine
 have:=in1_units A
 omega
section
variable {X:Cx}{pins:List (Addr×Obj)}{σ:St}{H:Hp}{s:Shared}{a c:Addr}{v:V}{r:Value}{k:SK}{kvs:KvN}{A:Around}{E:Value->Shared->Prop}
theorem zP {Q:Value->Shared->Prop}(hu:A.units+2<cLine)(I:Inv X pins σ H s)(e:DN X.prog X.w H a kvs)(ek:iW H c k)(l:valN kvs k=some v)(h:∀ w' s',Inv X pins σ H s'->RelV v w'->Q w' s'):
  wpAny (model X.prog X.w) A (getItem (.ref a) (.ref c)) Q E s:=by
 obtain⟨z,hd,xs,rel,dd⟩:=wR I.hok e
 obtain⟨w',hw,rw'⟩:=oB.some_of (v:=v) (o:=(atKey xs k).map (·.2)) (by rw[<-l];exact rel.val k)
 obtain⟨p,hp,hp2⟩:=Option.map_eq_some_iff.mp hw
 refine wpAny_getItem_heap (lK hu) (oZ I.hok ek) dd hp ?_
 rw[hp2]
 exact h w' _ (I.tok _) rw'
theorem CK {Q:Value->Shared->Prop}(hu:A.units+2<cLine)(I:Inv X pins σ H s)(e:DN X.prog X.w H a kvs)(ek:iW H c k)(h:∀ s',Inv X pins σ H s'->Q (.bool (!(valN kvs k).isSome)) s'):
  wpAny (model X.prog X.w) A (compareOp .NotIn (.ref c) (.ref a)) Q E s:=by
 obtain⟨z,hd,xs,rel,dd⟩:=wR I.hok e
 refine wpAny_notIn_heap (lK hu) (oZ I.hok ek) hd dd ?_
 have q:=(rel.val k).lZ
 rw[d7]at q
 rw[<-q]
 exact h _ (I.tok _)
theorem zO {Q:Unit->Shared->Prop}(hu:A.units+2<cLine)(I:Inv X pins σ H s)(e:DN X.prog X.w H a kvs)(ek:iW H c k)(l:kvs.length<sizeLine)(rv:RelV v r)(h:∀ s',Inv X pins σ (upd H a (nD X.prog X.w a (putN kvs k c v))) s'->Q () s'):
  wpAny (model X.prog X.w) A (setItem (.ref a) (.ref c) r) Q E s:=by
 obtain⟨z,hd,xs,rel,dd⟩:=wR I.hok e
 have hz:xs.length<=sizeLine:=by rw[<-bT rel];exact z
 have hl:(putN kvs k c v).length<=sizeLine:=by have:=rF kvs k c v;omega
 refine wpAny_setItem_heap (hsz:=hz) (lK hu) (oZ I.hok ek) dd λh' dd' hs=>h _ ?_
 obtain⟨q,es,ep,hq,h2,h3,h4,_,h5⟩:=dd'
 exact o8 I (by rw[e.at_];exact True.intro) hs ⟨q,hq⟩ (yJ ⟨hl,hd,_,rel.put k c rv,q,es,ep,hq,h2,h3,h4,h5⟩)
end
theorem Be {P:Program}{w:World}{H:Hp}{a b:Addr}{kvs:KvN}{ys:List V}{o:HO}(h:H a=some (nD P w a kvs))(e:H b=some (.tup ys)):(upd H a o) b=some (.tup ys):=by
 rw[eN (fA e h (λz=>nomatch z))];exact e
theorem DN.put {P:Program}{w:World}{H:Hp}{a c:Addr}{kvs:KvN}{k:SK}{v:V}(h:DN P w H a kvs)(ek:iW H c k):DN P w (upd H a (nD P w a (putN kvs k c v))) a (putN kvs k c v):=by
 refine⟨eG,λp hp=>?_⟩
 refine iW.jF (H:=H) ?_ λb ys e=>Be h.at_ e
 unfold putN at hp
 split at hp
 ·obtain⟨q,hq,e⟩:=ak.mp hp
  by_cases f:q.1=k
  ·rw[aJ f]at e;rw[<-e];exact h.keys q hq
  ·rw[aF f]at e;rw[<-e];exact h.keys q hq
 ·rcases aC.mp hp with z |z
  ·exact h.keys p z
  ·rw[bw.mp z];exact ek
def Di (P:Program)(w:World)(td ty:TE):TE:=λσ H Q=>td σ H λx H1=>ty σ H1 λy H2=>∃ a kvs c k v,x = .ref a/\y = .ref c/\DN P w H2 a kvs/\iW H2 c k/\valN kvs k=some v/\Q v H2
def Co (P:Program)(w:World)(ty td:TE):TE:=λσ H Q=>ty σ H λy H1=>td σ H1 λx H2=>∃ a kvs c k,x = .ref a/\y = .ref c/\DN P w H2 a kvs/\iW H2 c k/\Q (.bl (!(valN kvs k).isSome)) H2
def FD (P:Program)(w:World)(td ty tv:TE):TS:=λD σ H=>tv σ H λv H1=>td σ H1 λx H2=>ty σ H2 λy H3=>∃ a kvs c k,x = .ref a/\y = .ref c/\DN P w H3 a kvs/\iW H3 c k/\kvs.length<sizeLine/\D.nx σ (upd H3 a (nD P w a (putN kvs k c v)))
def Ft (P:Program)(w:World):TE:=λ_ H Q=>∀ p,H p=none->Q (.ref p) (upd H p (nD P w p []))
section
variable {X:Cx}{o i e value:Expr}{pos pos' Fh:Pos}{td ty tv:TE}
theorem Ak {pins:List (Addr×Obj)}{σ:St}{H:Hp}{s:Shared}{a:Addr}{kvs:KvN}(I:Inv X pins σ H s)(g:DN X.prog X.w H a kvs):s.TypeIs (.ref a) "dict" :=by
 obtain⟨_,_,xs,_,o,es,ep,h1,h2,_⟩:=wR I.hok g
 exact⟨o,h1,h2.1⟩
theorem oW (hu:X.A.units+2<cLine)(ho:PE X o td)(hi:PE X i ty)(hs:Cc i):PE X (.Subscript o i pos) (Di X.prog X.w td ty):=by
 intro pins s σ H Q I h
 refine uB dY.lookup hs (thn (ho pins s σ H _ I h) λu s1 ⟨x,H1,I1,rx,q1⟩=>thn (hi pins s1 σ H1 _ I1 q1) λiv s2 ⟨y,H2,I2,ry,a,kvs,c,k,v,ex,ey,g,gk,l,q2⟩=>?_)
 subst ex ey
 obtain rfl:u=Value.ref a:=rx
 obtain rfl:iv=Value.ref c:=ry
 exact⟨Ak I2 g,zP hu I2 g gk l λw' s3 I3 rw'=>⟨v,H2,I3,rw',q2⟩⟩
theorem tV (hu:X.A.units+2<cLine)(hi:PE X i ty)(ho:PE X o td):PC X .NotIn i o (Co X.prog X.w ty td):=by
 intro pins s σ H Q I h
 refine thn (hi pins s σ H _ I h) λiv s1 ⟨y,H1,I1,ry,q1⟩=>thn (ho pins s1 σ H1 _ I1 q1) λu s2 ⟨x,H2,I2,rx,a,kvs,c,k,ex,ey,g,gk,q2⟩=>?_
 subst ex ey
 obtain rfl:u=Value.ref a:=rx
 obtain rfl:iv=Value.ref c:=ry
 exact CK hu I2 g gk λs3 I3=>⟨.bl (!(valN kvs k).isSome),H2,I3,rfl,q2⟩
theorem uN (hu:X.A.units+2<cLine)(ho:PE X o td)(hi:PE X i ty)(hv:PE X value tv)(hs:swapsWith value (some (.Subscript o i pos')) pos.line X.env=pure false):
  PS X (.Assign [.Subscript o i pos'] value pos) (FD X.prog X.w td ty tv):=by
 intro pins s σ H D I h
 refine wpAny_Assign_Subscript (thn (hv pins s σ H _ I h) λr s1 ⟨v,H1,I1,rv,q1⟩=>thn (ho pins s1 σ H1 _ I1 q1) λu s2 ⟨x,H2,I2,rx,q2⟩=>thn (hi pins s2 σ H2 _ I2 q2) λiv s3 ⟨y,H3,I3,ry,a,kvs,c,k,ex,ey,g,gk,l,q3⟩=>?_) hs
 subst ex ey
 obtain rfl:u=Value.ref a:=rx
 obtain rfl:iv=Value.ref c:=ry
 exact zO hu I3 g gk l rv λs4 I4=>⟨σ,_,I4,q3⟩
theorem CC:PE X (.Dict [] [] pos) (Ft X.prog X.w):=λpins s σ H Q I h=>
 wpAny_Dict_empty ⟨.ref s.heap.objs.size,_,I.laid (a:=s.heap.objs.size) (o:=nD X.prog X.w s.heap.objs.size []) (t':=s.toks) (λ_ _ q=>av _ q) (ao _)
  (yJ ⟨aH _,dO.mpr (bK (aI I.big)),[],.nil,_,#[],0,bc _ rfl,⟨rfl,rfl,rfl⟩,rfl,rfl,b6⟩),rfl,h _ (I.hok.fresh (ao _))⟩
end
open TS
theorem Ep {X:Cx}{pins:List (Addr×Obj)}{σ:St}{H:Hp}{s:Shared}{a c:Addr}{v:V}{r:Value}{k:SK}{kvs:KvN}{A:Around}{E:Value->Shared->Prop}{Q:Unit->Shared->Prop}(hu:A.units+1<cLine)(I:Inv X pins σ H s)(e:DN X.prog X.w H a kvs)(ek:iW H c k)(l:kvs.length<sizeLine)(rv:RelV v r)
  (h:∀ s',Inv X pins σ (upd H a (nD X.prog X.w a (putN kvs k c v))) s'->Q () s'):wpAny (model X.prog X.w) A (dictSet a (.ref c) r) Q E s:=by
 obtain⟨z,hd,xs,rel,dd⟩:=wR I.hok e
 have hz:xs.length<=sizeLine:=by rw[<-bT rel];exact z
 have hl:(putN kvs k c v).length<=sizeLine:=by have:=rF kvs k c v;omega
 refine wpAny_dictSet_heap (hsz:=hz) hu (oZ I.hok ek) dd λh' dd' hs=>h _ ?_
 obtain⟨q,es,ep,hq,h2,h3,h4,_,h5⟩:=dd'
 exact o8 I (by rw[e.at_];exact True.intro) hs ⟨q,hq⟩ (yJ ⟨hl,hd,_,rel.put k c rv,q,es,ep,hq,h2,h3,h4,h5⟩)
section
variable {X:Cx}{pins:List (Addr×Obj)}{σ:St}{H1:Hp}{s2:Shared}{scope:Scope}{N:List Str}{own:Nat}{cap:List (Option Nat)}{cl:List (Str×Addr)}{fp:List Addr}
 {tg iter elt vlt:Expr}{ifs:List Expr}{pos:Pos}{g:TG}{tt:TT}{te tv:TE}{wi:TI}
def Fb (P:Program)(w:World)(J:It)(g:TG)(tt:TT)(te tv:TE)(cap:List (Option Nat))(σ:St)(Q:VK)(l:Addr)(H1:Hp):Prop:=
 ∃ W:Nat->Nat->Hp->Prop,(∃ m,W 0 m (upd H1 l (nD P w l [])))/\∀ i m H,W i m H->
  (J.stop i H/\Q (.ref l) H)\/(J.go i H/\∃ N:Hp->Prop,(∀ H',N H'->∃ m',m'<m/\W (i+1) m' H')/\
   ∀ x H',J.yld i H x H'->g x (gJ cap σ) H' λσ2 H2=>tt σ2 H2 λb H3=>
    if b=true then te σ2 H3 λy H4=>tv σ2 H4 λv H5=>∃ (kvs:KvN) (k:SK) (b:Addr),y = .ref b/\DN P w H5 l kvs/\iW H5 b k/\kvs.length<sizeLine/\N (upd H5 l (nD P w l (putN kvs k b v)))
    else N H3)
def HH (P:Program)(w:World)(wi:TI)(cap:List (Option Nat))(g:TG)(tt:TT)(te tv:TE):TE:=λσ H Q=>wi σ H λJ H1=>∀ l,H1 l=none->
 Fb P w J g tt te tv cap σ Q l H1
theorem yh {it:Addr}{tn:Nat->Heap->Prop}{J:It}{Q:VK}{RR:Value->Addr->Result->Shared->Prop}{E:Value->Shared->Prop}(hu:X.A.units+1<cLine)(I:Inv X pins σ H1 s2)(T:Turn X.prog X.w X.K tg J fp it tn)(t0:tn 0 s2.heap)
  (f:∀ b∈fp,kg X pins H1 b) (hc:X.calm=true) (C:fG X.env.scope X.N scope N own cap) (ho:nX own g)
  (i5:∀ x c,cl.lookup x=some c->X.env.cells.lookup x=some c) (ku:∀ y∈scope.names,y.2 = .free->∃ c,cl.lookup y.1=some c)
  (hg:∀ s3 H3,PG (eZ X scope cl N fp s3 H3) tg g) (ht:∀ s3 H3,qi (eZ X scope cl N fp s3 H3) ifs tt) (he:∀ s3 H3,PE (eZ X scope cl N fp s3 H3) elt te) (hv:∀ s3 H3,PE (eZ X scope cl N fp s3 H3) vlt tv)
  (hw:∀ l,H1 l=none->Fb X.prog X.w J g tt te tv cap σ Q l H1)
  (fin:∀ l C s' H' m',Inv X pins σ H' s'->s'.heap.Ns C m'->H' C=none->Apart X pins C->Q (.ref l) H'->RR (.ref l) C (.ok .next) s'):
  wpAny (model X.prog X.w) X.A newDict (λacc s₃=>wpAny (model X.prog X.w) X.A (newFunctionEnv scope X.env.globals cl [] X.env.qual none .none (some X.env)) (λpx s₄=>
   codeAny (model X.prog X.w) X.A (.compStart (.DictComp elt vlt [⟨tg,iter,ifs,0⟩] scope pos) 0 (.ref it) acc {px with scope:=relabel scope X.env}) (RR acc px.locals) s₄) E s₃) E s2:=by
 refine cQ ?_
 refine cV C.pV (by intro y hy;simp at hy) (λh₁ iA iz=>?_) C.kind
 dsimp only at iA iz ⊢
 obtain⟨W,⟨m0,w0⟩,turn⟩:=hw s2.heap.objs.size I.fresh
 have I3:Inv X pins σ (upd H1 s2.heap.objs.size (nD X.prog X.w s2.heap.objs.size [])) {s2 with heap:=s2.heap.push {cls:=.type "dict",data:=.dict #[]}} :=
  I.laid (t':=s2.toks) (λb u e=>av _ e) (ao _) (yJ ⟨aH _,dO.mpr (bK (aI I.big)),[],.nil,_,#[],0,bc _ rfl,⟨rfl,rfl,rfl⟩,rfl,rfl,b6⟩)
 generalize hs3:({s2 with heap:=s2.heap.push {cls:=.type "dict",data:=.dict #[]}} :Shared)=s3 at I3
 have hh3:s3.heap=s2.heap.push {cls:=.type "dict",data:=.dict #[]} :=by rw[<-hs3]
 rw[<-hh3]at iA iz ⊢
 have e4:({s2 with heap:=h₁,toks:=s2.toks+([]:List (Str×Value)).length} :Shared) = {s3 with heap:=h₁,toks:=s2.toks} :=by rw[<-hs3];rfl
 rw[e4]
 have k4:∀ b u,s3.heap.get? b=some u->h₁.get? b=some u:=λb u e=>iz.extBut b u (aI (ay e)) (av _ e)
 have k3:∀ b u,s2.heap.get? b=some u->s3.heap.get? b=some u:=λb u e=>by rw[hh3];exact av _ e
 have hb2:∀ b∈fp,b<s2.heap.objs.size:=λb hb=>by obtain⟨o,e,_⟩:=T.obj _ _ t0 b hb;exact ay e
 have f3:∀ b∈fp,kg X pins (upd H1 s2.heap.objs.size (nD X.prog X.w s2.heap.objs.size [])) b:=λb hb=>by
  obtain⟨f0,fr⟩:=f b hb
  exact⟨by rw[eN (aI (hb2 b hb))];exact f0,fr⟩
 have hb3:∀ b∈fp,b<s3.heap.objs.size:=λb hb=>by obtain⟨o,e,_⟩:=T.obj _ _ t0 b hb;exact ay (k3 b o e)
 have I4:=mV (tk:=s2.toks) I3 C i5 ku (λb hb=>⟨f3 b hb,hb3 b hb⟩) iA k4
 generalize hH3:upd H1 s2.heap.objs.size (nD X.prog X.w s2.heap.objs.size [])=H3 at *
 have st4:tn 0 h₁:=T.keep _ _ _ t0 λb hb o e=>k4 b o (k3 b o e)
 have fpX:∀ {H':Hp},(∀ b∈fp,H' b=none)->∀ b∈fp,kg (eZ X scope cl N fp s3 H3) [] H' b:=λ{H'} hn b hb=>by
  obtain⟨f0,f1,f2,f3',f4,f5⟩:=f3 b hb
  refine⟨hn b hb,aI (hb3 b hb),λhz=>?_,.inl hb,λx c e=>f4 x c (i5 x c e),λp hp=>absurd (show p∈([]:List (Addr×Obj)) from hp) (by simp)⟩
  rcases aG.mp (I3.lJ b hz)with z |z
  ·exact f1 z
  ·exact f2 z
 have loop:codeAny (model X.prog X.w) X.A (.compLoop (.DictComp elt vlt [⟨tg,iter,ifs,0⟩] scope pos) 0 (.ref it) (.ref s2.heap.objs.size) (compEnvC scope cl s3.heap.objs.size X.env)) (RR (.ref s2.heap.objs.size) s3.heap.objs.size) {s3 with heap:=h₁,toks:=s2.toks} :=by
  refine pj (λn s'=>∃ i H',Inv (eZ X scope cl N fp s3 H3) [] (gJ cap σ) H' s'/\tn i s'.heap/\(∀ b∈fp,H' b=none)/\W i n H') ?_ m0 ⟨0,H3,I4,st4,λb hb=>(f3 b hb).1,w0⟩
  rintro n s' ⟨i,H',I',st,fr,w⟩
  rcases turn i n H' w with⟨stop,q⟩|⟨go,NN,hNN,step⟩
  ·refine thn (T.done (eZ X scope cl N fp s3 H3) rfl rfl rfl hc i [] s' _ H' (λ_ _=>False) I' (fpX fr) st stop) λr s5 ⟨hr,I5⟩=>?_
   subst hr
   obtain⟨m5,hn5,_⟩:=id I5.loc
   exact fin _ _ s5 H' m5 (comp_back I3 f3 I5) hn5 I5.free (TL.Inv.apart I3) q
  ·refine thn (T.item (eZ X scope cl N fp s3 H3) rfl rfl rfl hc i [] s' _ H' (λ_ _=>False) I' (fpX fr) st go) λr s5 ⟨u,hr,h5⟩=>?_
   subst hr
   refine thn h5 λ_ s6 ⟨x,H6,I6,r6,y6,st6,fr6⟩=>?_
   have I6':=I6.pinned (fpX fr6) (T.obj _ _ st6)
   refine thn (hg s3 H3 _ s6 _ H6 x u _ I6' r6 (ho.own _ _ _ _ (step x H6 y6))) λ_ s7 ⟨σ7,H7,I7,q7,l7,o7⟩=>?_
   have cov:∀ (i:Nat) v,(gJ cap σ)[i]? = some (some v)->σ7[i]? = some (some v):=λi v e=>by
    obtain⟨j,c1,c2⟩:=kI e
    by_cases hi:i<own
    ·exact(C.mR hi c1).elim
    ·rw[o7 i (by omega)];exact e
   have back:∀ {H8:Hp}{s8:Shared},Inv (eZ X scope cl N fp s3 H3) ([]++mw fp s6.heap) σ7 H8 s8->Inv (eZ X scope cl N fp s3 H3) [] (gJ cap σ) H8 s8/\tn (i+1) s8.heap/\∀ b∈fp,H8 b=none:=λ{H8 s8} I8=>by
    refine⟨(Inv.jZ (pins:=[]) I8).weak l7.symm cov,T.keep _ _ _ st6 λb hb o e=>(I8.pin (b,o) (au _ (au _ (gK hb e)))).1,λb hb=>?_⟩
    obtain⟨o,e,d⟩:=T.obj _ _ st6 b hb
    exact(I8.pin (b,o) (au _ (au _ (gK hb e)))).2.1
   refine thn (ht s3 H3 _ s7 σ7 H7 _ I7 q7) λb s8 ⟨H8,I8,q8⟩=>?_
   cases b with
   |false=>
    rw[aF aA]at q8 ⊢
    obtain⟨m',hm,w8⟩:=hNN _ q8
    obtain⟨J1,J2,J3⟩:=back I8
    exact⟨m',hm,i+1,H8,J1,J2,J3,w8⟩
   |true=>
    rw[aJ rfl]at q8 ⊢
    refine thn (he s3 H3 _ s8 σ7 H8 _ I8 q8) λu9 s9 ⟨y,H9,I9,r9,q9⟩=>?_
    refine thn (hv s3 H3 _ s9 σ7 H9 _ I9 q9) λv s10 ⟨v',H10,I10,r10,kvs,k,b,ey,ha,hb,hz,n10⟩=>?_
    obtain⟨m',hm,w10⟩:=hNN _ n10
    subst ey
    cases(show u9=Value.ref b from r9)
    refine Ep (X:=eZ X scope cl N fp s3 H3) hu I10 ha hb hz r10 λs11 I11=>?_
    obtain⟨J1,J2,J3⟩:=back I11
    exact⟨m',hm,i+1,_,J1,J2,J3,w10⟩
 exact codeAny_compStart_dict loop (T.self X.A 0 _ _ _ st4 loop)
theorem D9 {i:Nat}{x:Str}{pos' AH:Pos}(hu:X.A.units+1<cLine)(hN:X.N.Nodup)(hi':X.N[i]? = some x)(hx:X.env.scope.names.lookup x=some .local)(hi:PI X tg iter wi)(hc:X.calm=true)(C:fG X.env.scope X.N scope N own cap)(ho:nX own g)
  (hg:∀ cl fp s3 H3,PG (eZ X scope cl N fp s3 H3) tg g) (ht:∀ cl fp s3 H3,qi (eZ X scope cl N fp s3 H3) ifs tt) (he:∀ cl fp s3 H3,PE (eZ X scope cl N fp s3 H3) elt te) (hv:∀ cl fp s3 H3,PE (eZ X scope cl N fp s3 H3) vlt tv)
  (hsw:swapsWith (.DictComp elt vlt [⟨tg,iter,ifs,0⟩] scope pos) (some (.Name x pos')) AH.line X.env=pure true:=by rfl)
  (hs:∀ x,foldedSetIterable iter X.env x=pure x:=by intro _;rfl):PS X (.Assign [.Name x pos'] (.DictComp elt vlt [⟨tg,iter,ifs,0⟩] scope pos) AH) (AD (HH X.prog X.w wi cap g tt te tv) (mY i)):=by
 intro pins s σ H D I h
 obtain⟨cl,ecl,i5,ku⟩:=jJ (scope:=scope) (env:=X.env) λy hy hf=>I.ok.has y.1 (C.fre y hy hf)
 rw[exec_Assign_Name_used _ _ _ _ hsw]
 refine ae (cm (ae ?_))
 show wpAny _ X.A (do let _ <-comprehension (.DictComp elt vlt [⟨tg,iter,ifs,0⟩] scope pos) scope X.env _ newDict false (eval iter X.env) (some (assign (.Name x pos') X.env))) _ _ s
 refine ae (aZ (cb (use:=some (assign (.Name x pos') X.env)) (Q:=λ_ s'=>SP X pins D .next s') rfl hs ecl C.kind C.loc
  (thn (hi pins s σ H _ I h) λxv s1 h1=>thn h1 λitv s2 h2=>?_)) (λ_ s' hq=>aj (aj hq)) λ_ _ e=>e)
 obtain⟨it,fp,tn,J,H2,e,I2,T,st2,f2,hw⟩:=h2
 subst e
 refine yh (RR:=λacc C=>compPost (model X.prog X.w) X.A X.xe (some (assign (.Name x pos') X.env)) (λ_ s'=>SP X pins D .next s') acc C) hu I2 T st2 f2 hc C ho i5 ku (hg cl fp) (ht cl fp) (he cl fp) (hv cl fp) hw λl Ca s' H' m' I' hn jD hP q=>?_
 show wpAny _ X.A (assign (.Name x pos') X.env (.ref l)) _ _ _
 refine wpAny_assign_Name (pK I' hN hi' (.inl hx) (v:=.ref l) rfl (λs5 I5 ⟨a,sb,ha⟩=>?_) (.inr hx))
 have hne:Ca≠a:=by
  rcases ha with z |z
  ·rw[z];exact hP.loc
  ·exact λe=>hP.cel x a z e.symm
 refine⟨m',hn.sameBut sb hne,λh'' sh=>⟨_,H',kH I5 hP jD sh,q⟩⟩
end
end TL
namespace TL
open PySem PySem.Spec PyProof.Rows L2
open TS
end TL
namespace TL
open PySem PySem.Spec PyProof.Rows L2
abbrev Sta:=List Int×Str
abbrev Bk:=Option (Sta×Option (Str×Int))
abbrev EnS:=Sta×Bk
def kS (s:Sta):SK:=(kyI s.1,.inr s.2)
theorem vh {a b:Sta}(h:kS a=kS b):a=b:=by
 have h1:=nP (bS Prod.fst h)
 have h2:a.2=b.2:=Sum.inr.inj (bS Prod.snd h)
 exact dR h1 h2
def ke (t:List Int)(w:Str)(x:List EnS×List Sta)(m:Mv):List EnS×List Sta:=
 open Classical in if m.1.1=w/\(m.2,w)∉x.1.map (·.1)then(x.1 ++ [((m.2,w),some ((t,w),some m.1))],x.2 ++ [(m.2,w)])else x
def fY (t:List Int)(w:Str)(ms:List Mv)(x:List EnS×List Sta):List EnS×List Sta:=ms.foldl (ke t w) x
theorem xB {t:List Int}{w:Str}{ms:List Mv}{x:List EnS×List Sta}{j:Nat}{m:Mv}(h:ms[j]? = some m):fY t w (ms.take (j+1)) x=ke t w (fY t w (ms.take j) x) m:=by
 unfold fY
 rw[aV,h,cI]
 rfl
theorem B7 (t:List Int)(w:Str)(x:List EnS×List Sta)(m:Mv):x.2 <+:(ke t w x m).2/\x.1 <+:(ke t w x m).1:=by
 unfold ke
 split
 ·exact⟨cy _ _,cy _ _⟩
 ·exact⟨bL _,bL _⟩
theorem kB (t:List Int)(w:Str):∀ (ms:List Mv) (x:List EnS×List Sta),x.2 <+:(fY t w ms x).2/\x.1 <+:(fY t w ms x).1
 |[],x=>⟨bL _,bL _⟩
 |m::r,x=>by
  have h1:=B7 t w x m
  have h2:=kB t w r (ke t w x m)
  exact⟨h1.1.trans h2.1,h1.2.trans h2.2⟩
theorem rB (t:List Int)(w:Str)(ms:List Mv)(x:List EnS×List Sta)(j:Nat):(fY t w (ms.take j) x).2 <+:(fY t w ms x).2/\(fY t w (ms.take j) x).1 <+:(fY t w ms x).1:=by
 have:=kB t w (ms.drop j) (fY t w (ms.take j) x)
 have e:fY t w (ms.drop j) (fY t w (ms.take j) x)=fY t w ms x:=by
  unfold fY
  rw[<-cI,cD]
 rw[e]at this
 exact this
def goS (l:Ln)(x:List EnS×List Sta):Nat->List EnS×List Sta
 | 0=>x
 |i+1=>match (goS l x i).2[i]? with
  |some s=>fY s.1 s.2 (mvs l s.1) (goS l x i)
  |none=>goS l x i
theorem wM {l:Ln}{x:List EnS×List Sta}{i:Nat}{s:Sta}(h:(goS l x i).2[i]? = some s):goS l x (i+1)=fY s.1 s.2 (mvs l s.1) (goS l x i):=by
 rw[goS,h]
theorem tL {l:Ln}{P:Sta->Prop}{t:List Int}{w:Str}(h:∀ m∈mvs l t,P (m.2,w)):∀ {ms:List Mv}{x:List EnS×List Sta},(∀ m∈ms,m∈mvs l t)->(∀ s∈x.2,P s)->∀ s∈(fY t w ms x).2,P s
 |[],x,_,hx=>hx
 |m::r,x,hm,hx=>by
  refine tL h (ms:=r) (x:=ke t w x m) (λy hy=>hm y (ax _ hy)) ?_
  unfold ke
  split
  ·intro s hs
   rcases aC.mp hs with z |z
   ·exact hx s z
   ·rw[bw.mp z];exact h m (hm m aB)
  ·exact hx
theorem qQ {l:Ln}{P:Sta->Prop}(hP:∀ s m,P s->m∈mvs l s.1->P (m.2,s.2)){x:List EnS×List Sta}(hx:∀ s∈x.2,P s):∀ i,∀ s∈(goS l x i).2,P s
 | 0=>hx
 |i+1=>by
  rw[goS]
  split
  ·rename_i s hs
   exact tL (λm hm=>hP s m (qQ hP hx i s (aw hs)) hm) (λm hm=>hm) (qQ hP hx i)
  ·exact qQ hP hx i
def yn (K:PySem.W.Frag)(H:Hp):Bk->V->Prop
 |none,v=>v = .non
 |some (s,none),v=>∃ ad c,v = .ref ad/\H ad=some (.tup [.ref c,.non])/\iW H c (kS s)
 |some (s,some m),v=>∃ ad c p1,v = .ref ad/\H ad=some (.tup [.ref c,.ref p1])/\iW H c (kS s)/\SqT K H p1 [.str m.1,.int m.2]
theorem yn.to {K:PySem.W.Frag}{H H':Hp}(f:∀ b ys,H b=some (.tup ys)->H' b=some (.tup ys))(g:∀ b ys,SqT K H b ys->SqT K H' b ys):∀ {b:Bk}{v:V},yn K H b v->yn K H' b v
 |none,v,h=>h
 |some (s,none),v,h=>by
  obtain⟨ad,c,e,h1,h2⟩:=h
  exact⟨ad,c,e,f _ _ h1,h2.jF f⟩
 |some (s,some m),v,h=>by
  obtain⟨ad,c,p1,e,h1,h2,h3⟩:=h
  exact⟨ad,c,p1,e,f _ _ h1,h2.jF f,g _ _ h3⟩
def kvN (es:List EnS)(cs:List Addr)(vs:List V):KvN:=(es.zip (cs.zip vs)).map λp=>(kS p.1.1,p.2.1,p.2.2)
structure StN (P:Program)(w:World)(K:PySem.W.Frag)(H:Hp)(d:Addr)(es:List EnS)(cs:List Addr)(vs:List V):Prop where
 dn:DN P w H d (kvN es cs vs)
 lc:cs.length=es.length
 lv:vs.length=es.length
 each:∀ (i:Nat) e v,es[i]? = some e->vs[i]? = some v->yn K H e.2 v
structure StL (H:Hp)(p:Addr)(as:List Addr)(ss:List Sta):Prop where
 at_:H p=some (.lst (as.map V.ref))
 len:as.length=ss.length
 each:∀ (i:Nat) a s,as[i]? = some a->ss[i]? = some s->iW H a (kS s)
theorem StL.same {H H':Hp}{p:Addr}{as:List Addr}{ss:List Sta}(h:StL H p as ss)(s:eQ H H'):StL H' p as ss:=⟨s _ _ h.at_,h.len,λi a t h1 h2=>(h.each i a t h1 h2).same s⟩
theorem StN.same {P:Program}{w:World}{K:PySem.W.Frag}{H H':Hp}{d:Addr}{es:List EnS}{cs:List Addr}{vs:List V}(h:StN P w K H d es cs vs)(s:eQ H H'):StN P w K H' d es cs vs:=
 ⟨h.dn.same s,h.lc,h.lv,λi e v h1 h2=>(h.each i e v h1 h2).to (λb ys q=>s _ _ q) λb ys q=>fq s q⟩
theorem yT:∀ (es:List EnS) (cs:List Addr) (vs:List V),cs.length=es.length->vs.length=es.length->∀ s:Sta,(valN (kvN es cs vs) (kS s)).isSome=true↔s∈es.map (·.1)
 |[],_,_,_,_,s=>by simp[kvN,valN]
 |e::es,[],_,h,_,s=>by simp at h
 |e::es,c::cs,[],_,h,s=>by simp at h
 |e::es,c::cs,v::vs,h1,h2,s=>by
  have e0:kvN (e::es) (c::cs) (v::vs)=(kS e.1,c,v)::kvN es cs vs:=rfl
  have ih:=yT es cs vs (by simpa using h1) (by simpa using h2) s
  rw[e0,aR,aG]
  by_cases f:e.1=s
  ·rw[iP (p:=(kS e.1,c,v)) (by rw[f])]
   simp[f]
  ·rw[iQ (p:=(kS e.1,c,v)) (λz=>f (vh z)),ih]
   exact⟨λz=>.inr z,λz=>z.resolve_left λy=>f y.symm⟩
theorem StN.mem {P:Program}{w:World}{K:PySem.W.Frag}{H:Hp}{d:Addr}{es:List EnS}{cs:List Addr}{vs:List V}(h:StN P w K H d es cs vs)(s:Sta):(valN (kvN es cs vs) (kS s)).isSome=true↔s∈es.map (·.1):=yT es cs vs h.lc h.lv s
theorem yU {es:List EnS}{cs:List Addr}{vs:List V}(h1:cs.length=es.length)(h2:vs.length=es.length):(kvN es cs vs).length=es.length:=by
 unfold kvN
 rw[aa,cB,cB]
 omega
theorem Bx {es:List EnS}{cs:List Addr}{vs:List V}(h1:cs.length=es.length)(h2:vs.length=es.length)(e:EnS)(c:Addr)(v:V):kvN (es ++ [e]) (cs ++ [c]) (vs ++ [v])=kvN es cs vs ++ [(kS e.1,c,v)]:=by
 unfold kvN
 rw[List.zip_append (by omega),List.zip_append (by rw[cB];omega),ar]
 rfl
theorem StN.push {P:Program}{w:World}{K:PySem.W.Frag}{H:Hp}{d c:Addr}{es:List EnS}{cs:List Addr}{vs:List V}{e:EnS}{v:V}(h:StN P w K H d es cs vs)(hn:e.1∉es.map (·.1))(hc:iW H c (kS e.1))(hb:yn K H e.2 v):
  StN P w K (upd H d (nD P w d (putN (kvN es cs vs) (kS e.1) c v))) d (es ++ [e]) (cs ++ [c]) (vs ++ [v]):=by
 have hv:¬(valN (kvN es cs vs) (kS e.1)).isSome=true:=λz=>hn ((h.mem e.1).mp z)
 have ep:putN (kvN es cs vs) (kS e.1) c v=kvN (es ++ [e]) (cs ++ [c]) (vs ++ [v]):=by
  rw[Bx h.lc h.lv]
  unfold putN
  rw[aF hv]
 have dp:=h.dn.put (v:=v) hc
 have f:∀ b ys,H b=some (.tup ys)->(upd H d (nD P w d (putN (kvN es cs vs) (kS e.1) c v))) b=some (.tup ys):=λb ys q=>Be h.dn.at_ q
 have g:∀ b ys,SqT K H b ys->SqT K (upd H d (nD P w d (putN (kvN es cs vs) (kS e.1) c v))) b ys:=λb ys q=>by
  rcases q with(q |⟨o,q⟩)|q
  ·exact .inl (.inl (f _ _ q))
  ·exact .inl (.inr ⟨o,by rw[eN (fA q h.dn.at_ (λz=>nomatch z))];exact q⟩)
  ·exact .inr q
 refine⟨?_,by rw[ah,ah,h.lc];rfl,by rw[ah,ah,h.lv];rfl,λi e' v' he hv'=>?_⟩
 ·rw[<-ep];exact dp
 ·by_cases hi:i<es.length
  ·rw[aq hi]at he
   rw[aq (by rw[h.lv];exact hi)]at hv'
   exact(h.each i e' v' he hv').to f g
  ·have hi2:i=es.length:=by
    have:=(ag.mp he).1
    rw[ah,aQ]at this
    omega
   rw[hi2,az (ao _),br]at he
   rw[hi2,<-h.lv,az (ao _),br]at hv'
   cases he
   cases hv'
   exact hb.to f g
theorem StL.push {H H':Hp}{p a:Addr}{as:List Addr}{ss:List Sta}{s:Sta}(h:StL H p as ss)(f:∀ b ys,H b=some (.tup ys)->H' b=some (.tup ys))(hp:H' p=some (.lst (as.map V.ref ++ [.ref a])))(ha:iW H' a (kS s)):StL H' p (as ++ [a]) (ss ++ [s]):=by
 refine⟨by rw[hp,ar];rfl,by rw[ah,ah,h.len];rfl,λi b t hb ht=>?_⟩
 by_cases hi:i<as.length
 ·rw[aq hi]at hb
  rw[aq (by rw[<-h.len];exact hi)]at ht
  exact(h.each i b t hb ht).jF f
 ·have hi2:i=as.length:=by
   have:=(ag.mp hb).1
   rw[ah,aQ]at this
   omega
  rw[hi2,az (ao _),br]at hb
  rw[hi2,h.len,az (ao _),br]at ht
  cases hb
  cases ht
  exact ha
theorem lh {A:Around}{k:Nat}(hr:lx k A):A.units+2<cLine:=bQ (Nat.add_le_add_left (by decide:2<=64) _) hr.units
theorem wb {X:Cx}{o i:Expr}{pos:Pos}{td ty:TE}{P:Program}{w:World}(eP:X.prog=P)(ew:X.w=w)(hu:X.A.units+2<cLine)(ho:PE X o td)(hi:PE X i ty)(hs:Cc i):PE X (.Subscript o i pos) (Di P w td ty):=by subst eP ew;exact oW hu ho hi hs
def ow (w:Str):Str:=if w=Str.ofString "on" then Str.ofString "back" else Str.ofString "on"
def isW (w:Str):Prop:=w=Str.ofString "on" \/w=Str.ofString "back"
theorem isW.ow {w:Str}(h:isW w):isW (ow w):=by
 unfold TL.ow
 split
 ·exact .inr rfl
 ·exact .inl rfl
structure Dd (P:Program)(w:World)(K:PySem.W.Frag)(mg:Str->Option Value)(od:Addr):Prop where
 m:mg "OTHER_WORD" = some (.ref od)
 d:∀ h:Heap,K.In h->∃ t u:Tok,h.DictOf (fB P w) od [(.inr (Str.ofString "on"),.str (Str.ofString "back") t),(.inr (Str.ofString "back"),.str (Str.ofString "on") u)]
def tOw (ty:TE):TE:=λσ H Q=>ty σ H λy H1=>∃ w,y = .str w/\isW w/\Q (.str (ow w)) H1
theorem FQ {X:Cx}{i:Expr}{p pos:Pos}{ty:TE}{od:Addr}(O:Dd X.prog X.w X.K X.mg od)(hg:Gl X "OTHER_WORD")(hi:PE X i ty)(hs:Cc i):PE X (.Subscript (.Name "OTHER_WORD" p) i pos) (tOw ty):=by
 intro pins s σ H Q I h
 have ho:PE X (.Name "OTHER_WORD" p) (tC (.ref od)):=yE hg O.m rfl
 refine uB dY.lookup hs (thn (ho pins s σ H _ I (show tC (.ref od) σ H (λx H1=>x = .ref od/\H1=H) from⟨rfl,rfl⟩)) λu s1 ⟨x,H1,I1,rx,ex,eH⟩=>?_)
 subst ex eH
 obtain rfl:u=Value.ref od:=rx
 refine thn (hi pins s1 σ H1 _ I1 h) λiv s2 ⟨y,H2,I2,ry,w,ey,hw,q⟩=>?_
 subst ey
 obtain⟨t,u,dd⟩:=O.d s2.heap I2.kIn
 have hT:s2.TypeIs (.ref od) "dict" :=by
  obtain⟨o,es,ep,h1,h2,_⟩:=dd
  exact⟨o,h1,h2.1⟩
 refine⟨hT,?_⟩
 have hn:¬Str.ofString "on" = Str.ofString "back" :=by decide +kernel
 rcases hw with rfl |rfl
 ·refine wpAny_getItem_of (k:=.inr (Str.ofString "on")) (lY (P:=X.prog) (w:=X.w) (k:=.inr (Str.ofString "on")) ry) dd.mapOf (v:=.str (Str.ofString "back") t) ?_ ⟨.str (ow (Str.ofString "on")),H2,I2.tok _,?_,q⟩
  ·unfold valueAt;simp
  ·unfold ow;rw[aJ rfl];exact⟨t,rfl⟩
 ·refine wpAny_getItem_of (k:=.inr (Str.ofString "back")) (lY (P:=X.prog) (w:=X.w) (k:=.inr (Str.ofString "back")) ry) dd.mapOf (v:=.str (Str.ofString "on") u) ?_ ⟨.str (ow (Str.ofString "back")),H2,I2.tok _,?_,q⟩
  ·unfold valueAt
   rw[bM (by simp;exact hn),bZ (by simp)]
   rfl
  ·unfold ow;rw[aF (λz=>hn z.symm)];exact⟨u,rfl⟩
def iD (x:List EnS×List Sta)(s:Sta):List EnS×List Sta:=
 open Classical in if(s.1,ow s.2)∉x.1.map (·.1)then(x.1 ++ [((s.1,ow s.2),some (s,none))],x.2 ++ [(s.1,ow s.2)])else x
def chN (ss:List Sta)(es:List EnS):List EnS×List Sta:=ss.foldl iD (es,[])
theorem B0 {ss:List Sta}{es:List EnS}{j:Nat}{s:Sta}(h:ss[j]? = some s):chN (ss.take (j+1)) es=iD (chN (ss.take j) es) s:=by
 unfold chN
 rw[aV,h,cI]
 rfl
theorem BZ (x:List EnS×List Sta)(s:Sta):(iD x s).1.length<=x.1.length+1/\(iD x s).2.length<=x.2.length+1:=by
 unfold iD
 split
 ·rw[ah,ah];exact⟨ao _,ao _⟩
 ·exact⟨d8 _,d8 _⟩
theorem zi (es:List EnS):∀ (ss:List Sta) (x:List EnS×List Sta),(ss.foldl iD x).1.length<=x.1.length+ss.length/\(ss.foldl iD x).2.length<=x.2.length+ss.length
 |[],x=>⟨ao _,ao _⟩
 |s::r,x=>by
  have h1:=BZ x s
  have h2:=zi es r (iD x s)
  rw[List.foldl_cons,aO]
  omega
theorem wL {l:Ln}{x:List EnS×List Sta}{i:Nat}(h:(goS l x i).2.length<=i):∀ k,goS l x (i+k)=goS l x i
 | 0=>rfl
 |k+1=>by
  have ih:=wL h k
  rw[<-Nat.add_assoc,goS,ih,bg (by omega)]
def goF (l:Ln)(x:List EnS×List Sta):List EnS×List Sta:=goS l x 1000
theorem ET {l:Ln}{x:List EnS×List Sta}{i:Nat}(h:(goS l x i).2.length=i)(hi:i<=1000):goF l x=goS l x i:=by
 have:=wL (Nat.le_of_eq h) (1000-i)
 rw[show i+(1000-i)=1000 by omega]at this
 exact this
def onW:Str:=Str.ofString "on"
def ir:Str:=Str.ofString "back"
def r0 (tr:List Int):List EnS×List Sta:=([((tr,onW),none),((tr,ir),none)],[(tr,onW),(tr,ir)])
def rnd (l:Ln)(tr:List Int):Nat->List EnS×List Sta
 | 0=>r0 tr
 |r+1=>chN (goF l (rnd l tr r)).2 (goF l (rnd l tr r)).1
def cnt (l:Ln)(tr:List Int):Nat->Sta->Option Nat
 | 0,_=>none
 |r+1,s=>open Classical in if s∈(goF l (rnd l tr r)).2 then some r else cnt l tr r s
structure RO (W:List (List Int))(x:List EnS×List Sta):Prop where
 nd:(x.1.map (·.1)).Nodup
 inW:∀ s∈x.1.map (·.1),s.1∈W/\isW s.2
 sub:∀ s∈x.2,s∈x.1.map (·.1)
 nd2:x.2.Nodup
theorem RO.push {W:List (List Int)}{x:List EnS×List Sta}{s:Sta}{b:Bk}(h:RO W x)(hn:s∉x.1.map (·.1))(hw:s.1∈W/\isW s.2):RO W (x.1 ++ [(s,b)],x.2 ++ [s]):=by
 refine⟨?_,λt ht=>?_,λt ht=>?_,?_⟩
 ·show((x.1 ++ [(s,b)]).map (·.1)).Nodup
  rw[ar]
  exact bC.mpr ⟨h.nd,by simp,λa ha b hb=>by simp at hb;subst hb;exact λz=>hn (z ▸ ha)⟩
 ·rw[show((x.1 ++ [(s,b)],x.2 ++ [s]):List EnS×List Sta).1=x.1 ++ [(s,b)] from rfl,ar]at ht
  rcases aC.mp ht with z |z
  ·exact h.inW t z
  ·have:t=s:=by simpa using z
   rw[this];exact hw
 ·show t∈(x.1 ++ [(s,b)]).map (·.1)
  rw[ar]
  rcases aC.mp ht with z |z
  ·exact bo _ (h.sub t z)
  ·have:t=s:=by simpa using z
   rw[this];exact au _ (by simp)
 ·exact bC.mpr ⟨h.nd2,by simp,λa ha b hb=>by simp at hb;subst hb;exact λz=>hn (z ▸ h.sub a ha)⟩
theorem RO.add {W:List (List Int)}{x:List EnS×List Sta}{t:List Int}{w:Str}{m:Mv}(h:RO W x)(hm:m.2∈W)(hw:isW w):RO W (ke t w x m):=by
 unfold ke
 split
 ·rename_i c
  exact h.push c.2 ⟨hm,hw⟩
 ·exact h
theorem RO.scan {W:List (List Int)}{t:List Int}{w:Str}(hw:isW w):∀ {ms:List Mv}{x:List EnS×List Sta},RO W x->(∀ m∈ms,m.2∈W)->RO W (fY t w ms x)
 |[],_,h,_=>h
 |m::r,x,h,hm=>RO.scan hw (ms:=r) (h.add (hm m aB) hw) λy hy=>hm y (ax _ hy)
theorem RO.go {l:Ln}{W:List (List Int)}(jl:∀ t∈W,∀ m∈mvs l t,m.2∈W){x:List EnS×List Sta}(h:RO W x):∀ i,RO W (goS l x i)
 | 0=>h
 |i+1=>by
  have ih:=RO.go jl h i
  rw[goS]
  split
  ·rename_i s hs
   have:=ih.inW s (ih.sub s (aw hs))
   exact ih.scan this.2 (jl s.1 this.1)
  ·exact ih
theorem RO.chg {W:List (List Int)}{x:List EnS×List Sta}{s:Sta}(h:RO W x)(hs:s.1∈W/\isW s.2):RO W (iD x s):=by
 unfold iD
 split
 ·rename_i c
  exact h.push c ⟨hs.1,hs.2.ow⟩
 ·exact h
theorem RO.BX {W:List (List Int)} :∀ {ss:List Sta}{x:List EnS×List Sta},RO W x->(∀ s∈ss,s.1∈W/\isW s.2)->RO W (ss.foldl iD x)
 |[],_,h,_=>h
 |s::r,x,h,hs=>RO.BX (ss:=r) (h.chg (hs s aB)) λy hy=>hs y (ax _ hy)
theorem RO.change {W:List (List Int)}{x:List EnS×List Sta}(h:RO W x):RO W (chN x.2 x.1):=
 RO.BX (x:=(x.1,[])) ⟨h.nd,h.inW,λs hs=>(by cases hs),b6⟩ λs hs=>h.inW s (h.sub s hs)
theorem RO.rnd {l:Ln}{W:List (List Int)}(jl:∀ t∈W,∀ m∈mvs l t,m.2∈W){tr:List Int}(ht:tr∈W):∀ r,RO W (rnd l tr r)
 | 0=>by
  have hn:onW≠ir:=by unfold onW ir;decide +kernel
  refine⟨?_,λs hs=>?_,λs hs=>hs,?_⟩
  ·show[(tr,onW),(tr,ir)].Nodup
   simp[hn]
  ·have hs:s=(tr,onW)\/s=(tr,ir):=by
    have:s∈ [(tr,onW),(tr,ir)]:=hs
    simpa using this
   rcases hs with e |e
   ·rw[e];exact⟨ht,.inl rfl⟩
   ·rw[e];exact⟨ht,.inr rfl⟩
  ·show[(tr,onW),(tr,ir)].Nodup
   simp[hn]
 |r+1=>(RO.go jl (RO.rnd jl ht r) 1000).change
theorem og {α:Type} :∀ {xs ys:List α},xs.Nodup->(∀ x∈xs,x∈ys)->xs.length<=ys.length
 |[],_,_,_=>aH _
 |x::xs,ys,hn,hs=>by
  obtain⟨a,b,e⟩:=List.append_of_mem (hs x aB)
  have hx:=bq.mp hn
  have:=og (xs:=xs) (ys:=a++b) hx.2 λy hy=>by
   have h1:=hs y (ax _ hy)
   rw[e]at h1
   rcases aC.mp h1 with z |z
   ·exact bo _ z
   ·rcases aG.mp z with z |z
    ·exact absurd hy (by rw[z];exact hx.1)
    ·exact au _ z
  rw[e,ah,aO,aO]
  rw[ah]at this
  omega
theorem RO.len {W:List (List Int)}{x:List EnS×List Sta}(h:RO W x):x.1.length<=2*W.length/\x.2.length<=2*W.length:=by
 have big:∀ ys:List Sta,ys.Nodup->(∀ s∈ys,s∈x.1.map (·.1))->ys.length<=2*W.length:=λys hy hs=>by
  have CU:∀ s∈ys,s∈W.map (λt=>(t,onW))++W.map (λt=>(t,ir)):=λs hs'=>by
   obtain⟨h1,h2⟩:=h.inW s (hs s hs')
   rcases h2 with e |e
   ·exact bo _ (ak.mpr ⟨s.1,h1,dR rfl e.symm⟩)
   ·exact au _ (ak.mpr ⟨s.1,h1,dR rfl e.symm⟩)
  have:=og hy CU
  rw[ah,aa,aa]at this
  omega
 refine⟨?_,big x.2 h.nd2 h.sub⟩
 have:=big (x.1.map (·.1)) h.nd λs hs=>hs
 rwa [aa]at this
theorem vt (l:Ln)(x:List EnS×List Sta):∀ i,x.1 <+:(goS l x i).1
 | 0=>bL _
 |i+1=>by
  have ih:=vt l x i
  rw[goS]
  split
  ·rename_i s _
   exact ih.trans (kB s.1 s.2 (mvs l s.1) (goS l x i)).2
  ·exact ih
theorem uo:∀ (ss:List Sta) (x:List EnS×List Sta),(ss.foldl iD x).1.length+x.2.length=x.1.length+(ss.foldl iD x).2.length
 |[],x=>rfl
 |s::r,x=>by
  have h2:=uo r (iD x s)
  have h1:(iD x s).1.length+x.2.length=x.1.length+(iD x s).2.length:=by
   unfold iD
   split
   ·simp only[ah,aQ];omega
   ·rfl
  rw[List.foldl_cons]
  omega
theorem B3 (ss:List Sta)(es:List EnS):(chN ss es).1.length=es.length+(chN ss es).2.length:=by
 have:=uo ss (es,[])
 simpa [chN]using this
theorem Bf {P:Program}{w:World}{H:Hp}{a b:Addr}{kvs:KvN}{ys:List V}(h:H a=some (nD P w a kvs))(e:H b=some (.tup ys)):b≠a:=fA e h (λz=>nomatch z)
theorem StN.other {P:Program}{w:World}{K:PySem.W.Frag}{H:Hp}{d c:Addr}{es:List EnS}{cs:List Addr}{us:List V}{kvs:KvN}{o:HO}(h:StN P w K H d es cs us)(hc:H c=some (nD P w c kvs))(dc:d≠c):StN P w K (upd H c o) d es cs us:=by
 have f:∀ b zs,H b=some (.tup zs)->(upd H c o) b=some (.tup zs):=λb zs q=>by rw[eN (Bf hc q)];exact q
 refine⟨⟨by rw[eN dc];exact h.dn.at_,λq hq=>(h.dn.keys q hq).jF f⟩,h.lc,h.lv,λi e v h1 h2=>(h.each i e v h1 h2).to f λb zs q=>?_⟩
 rcases q with(q |⟨o',q⟩)|q
 ·exact .inl (.inl (f _ _ q))
 ·exact .inl (.inr ⟨o',by rw[eN (fA q hc (λz=>nomatch z))];exact q⟩)
 ·exact .inr q
theorem StL.other {P:Program}{w:World}{H:Hp}{p c:Addr}{as:List Addr}{ss:List Sta}{kvs:KvN}{o:HO}(h:StL H p as ss)(hc:H c=some (nD P w c kvs)):StL (upd H c o) p as ss:=
 ⟨by rw[eN (fA h.at_ hc (λz=>nomatch z))];exact h.at_,h.len,λi a s h1 h2=>(h.each i a s h1 h2).jF λb zs q=>by rw[eN (Bf hc q)];exact q⟩
theorem DN.hid {P:Program}{w:World}{H:Hp}{d c:Addr}{kvs qG:KvN}(h:DN P w H c kvs)(hd:H d=some (nD P w d qG))(cd:c≠d):DN P w (hid d H) c kvs:=
 ⟨by rw[fU cd];exact h.at_,λq hq=>(h.keys q hq).jF λb zs z=>by rw[fU (Bf hd z)];exact z⟩
theorem tM {H H4:Hp}{d:Addr}(s:eQ H H4)(hd:H d=none):eQ H (hid d H4):=λb o hb=>by
 have hbd:b≠d:=λz=>by rw[z,hd]at hb;cases hb
 rw[fU hbd];exact s _ _ hb
inductive pE (es:List EnS):Sta->List (Str×Int)->Prop
 |nil {s:Sta} :(s,none)∈es->pE es s []
 |ch {s s':Sta}{r:List (Str×Int)} :(s,some (s',none))∈es->pE es s' r->pE es s r
 |mv {s s':Sta}{k:Str×Int}{r:List (Str×Int)} :(s,some (s',some k))∈es->pE es s' r->pE es s (r ++ [k])
structure gM (es:List EnS):Prop where
 back:∀ (j:Nat) s s' b,es[j]? = some (s,some (s',b))->∃ i e,i<j/\es[i]? = some e/\e.1=s'
 ok:∀ (j:Nat) s s' k,es[j]? = some (s,some (s',some k))->PyData.strOk k.1=true
theorem gM.push {es:List EnS}{s s':Sta}{b:Option (Str×Int)}(h:gM es)(hs:s'∈es.map (·.1))(hb:∀ k,b=some k->PyData.strOk k.1=true):gM (es ++ [(s,some (s',b))]):=by
 refine⟨λj t t' c hj=>?_,λj t t' k hj=>?_⟩
 ·by_cases hi:j<es.length
  ·rw[aq hi]at hj
   obtain⟨i,e,h1,h2,h3⟩:=h.back j t t' c hj
   exact⟨i,e,h1,by rw[aq (by omega)];exact h2,h3⟩
  ·have hj2:j=es.length:=by
    have:=(ag.mp hj).1
    rw[ah,aQ]at this
    omega
   rw[hj2,az (ao _),br]at hj
   have hj:(s,some (s',b))=(t,some (t',c)):=by simpa using hj
   injection hj with e1 e2
   injection e2 with e2
   injection e2 with e2 e3
   obtain⟨e,he,ee⟩:=ak.mp hs
   obtain⟨i,hi',ei⟩:=bU.mp he
   exact⟨i,e,by omega,by rw[aq hi',af hi',ei],by rw[ee,e2]⟩
 ·by_cases hi:j<es.length
  ·rw[aq hi]at hj
   exact h.ok j t t' k hj
  ·have hj2:j=es.length:=by
    have:=(ag.mp hj).1
    rw[ah,aQ]at this
    omega
   rw[hj2,az (ao _),br]at hj
   have hj:(s,some (s',b))=(t,some (t',some k)):=by simpa using hj
   injection hj with e1 e2
   injection e2 with e2
   injection e2 with e2 e3
   exact hb k e3
theorem zA {l:Ln}{t:List Int}{m:Mv}(h:m∈mvs l t):PyData.strOk m.1.1=true:=zz l t m h
theorem gM.scan {l:Ln}{t:List Int}{w:Str} :∀ {ms:List Mv}{x:List EnS×List Sta},gM x.1->(t,w)∈x.1.map (·.1)->(∀ m∈ms,m∈mvs l t)->gM (fY t w ms x).1
 |[],_,h,_,_=>h
 |m::r,x,h,ht,hm=>by
  have h1:gM (ke t w x m).1/\(t,w)∈(ke t w x m).1.map (·.1):=by
   unfold ke
   split
   ·exact⟨h.push ht λk e=>by cases e;exact zA (hm m aB),by rw[ar];exact bo _ ht⟩
   ·exact⟨h,ht⟩
  exact gM.scan (ms:=r) (x:=ke t w x m) h1.1 h1.2 λy hy=>hm y (ax _ hy)
theorem gM.go {l:Ln}{W:List (List Int)}(jl:∀ t∈W,∀ m∈mvs l t,m.2∈W){x:List EnS×List Sta}(R:RO W x)(h:gM x.1):∀ i,gM (goS l x i).1
 | 0=>h
 |i+1=>by
  have ih:=gM.go jl R h i
  rw[goS]
  split
  ·rename_i s hs
   exact ih.scan ((RO.go jl R i).sub s (aw hs)) λm hm=>hm
  ·exact ih
theorem gM.BX:∀ {ss:List Sta}{x:List EnS×List Sta},gM x.1->(∀ s∈ss,s∈x.1.map (·.1))->gM (ss.foldl iD x).1
 |[],_,h,_=>h
 |s::r,x,h,hs=>by
  have h1:gM (iD x s).1/\∀ t∈r,t∈(iD x s).1.map (·.1):=by
   unfold iD
   split
   ·exact⟨h.push (hs s aB) λk e=>(by cases e),λt ht=>by rw[ar];exact bo _ (hs t (ax _ ht))⟩
   ·exact⟨h,λt ht=>hs t (ax _ ht)⟩
  exact gM.BX (ss:=r) h1.1 h1.2
theorem gM.rnd {l:Ln}{W:List (List Int)}(jl:∀ t∈W,∀ m∈mvs l t,m.2∈W){tr:List Int}(ht:tr∈W):∀ r,gM (rnd l tr r).1
 | 0=>⟨λj s s' b hj=>by
   have:(s,some (s',b))∈(r0 tr).1:=aw hj
   simp[r0]at this,λj s s' b hj=>by
   have:(s,some (s',some b))∈(r0 tr).1:=aw hj
   simp[r0]at this⟩
 |r+1=>by
  have R:=RO.rnd jl ht r
  have RG:RO W (goF l (TL.rnd l tr r)):=RO.go jl R 1000
  have h1:gM (goF l (TL.rnd l tr r)).1:=gM.go jl R (gM.rnd jl ht r) 1000
  have e:TL.rnd l tr (r+1)=chN (goF l (TL.rnd l tr r)).2 (goF l (TL.rnd l tr r)).1:=by rw[TL.rnd]
  rw[e]
  generalize goF l (TL.rnd l tr r)=gg at RG h1
  exact gM.BX (x:=(gg.1,[])) h1 λs hs=>RG.sub s hs
theorem yV:∀ {es:List EnS}{cs:List Addr}{vs:List V},cs.length=es.length->vs.length=es.length->(es.map (·.1)).Nodup->∀ {j:Nat}{e:EnS}{v:V},es[j]? = some e->vs[j]? = some v->valN (kvN es cs vs) (kS e.1)=some v
 |[],_,_,_,_,_,_,_,_,h,_=>by simp at h
 |_::_,[],_,h,_,_,_,_,_,_,_=>by simp at h
 |_::_,_::_,[],_,h,_,_,_,_,_,_=>by simp at h
 |e0::es,c::cs,v0::vs,h1,h2,nd,0,e,v,he,hv=>by
  cases he;cases hv
  have e0':kvN (e0::es) (c::cs) (v0::vs)=(kS e0.1,c,v0)::kvN es cs vs:=rfl
  rw[e0',iP (p:=(kS e0.1,c,v0)) rfl]
 |e0::es,c::cs,v0::vs,h1,h2,nd,j+1,e,v,he,hv=>by
  have e0':kvN (e0::es) (c::cs) (v0::vs)=(kS e0.1,c,v0)::kvN es cs vs:=rfl
  rw[ez]at he hv
  rw[aR,bq]at nd
  have hne:¬kS e0.1=kS e.1:=λz=>nd.1 (by rw[vh z];exact List.mem_map_of_mem (aw he))
  rw[e0',iQ (p:=(kS e0.1,c,v0)) hne]
  exact yV (by simpa using h1) (by simpa using h2) nd.2 he hv
theorem StN.get {P:Program}{w:World}{K:PySem.W.Frag}{H:Hp}{d:Addr}{es:List EnS}{cs:List Addr}{us:List V}(h:StN P w K H d es cs us)(nd:(es.map (·.1)).Nodup){j:Nat}{e:EnS}{v:V}(he:es[j]? = some e)(hv:us[j]? = some v):valN (kvN es cs us) (kS e.1)=some v:=yV h.lc h.lv nd he hv
open PySem.W
section
variable {prog:Program}{w:World}{d:Addr}{o:Obj}{es:Array DictEntry}{ep:Nat}
theorem xC {A:Around}(hh:A.handled=none)(hd:o.data = .dict es ep)(I d:Addr)(hne:d≠I):
  Walks prog w A I [I,d] [I] es.size (λi v=>∃ e:DictEntry,es[i]? = some e/\v=e.key) (λi h=>h.IsKeyIter I d i es.size ep/\h.get? d=some o) where
 sub:=λb hb=>by simp at hb;simp[hb]
 frame:=λ_ _ _ st hk=>⟨st.1.at λo e=>hk I (by simp) o e,hk d (by simp) _ st.2⟩
 item:=λi s Q E hi st hQ=>by
  obtain⟨e,hx⟩:∃ p,es[i]? = some p:=⟨es[i],by simp[hi]⟩
  refine tS st.1 st.2 hd hx λh' CY hs'=>?_
  exact hQ e.key h' s.toks ⟨e,hx,rfl⟩ ⟨CY,hs'.extBut d o hne st.2⟩ λb o hb e=>hs'.extBut b o (λh=>hb (by simp[h])) e
 done:=λs Q E st hQ=>vY hh st.1 st.2 hd (ao _) λh' he'=>hQ h' s.toks λb o hb e=>he' b o (λh=>hb (by simp[h])) e
 self:=λ_ _ _ _ st hQ=>tR st.1 hQ
theorem AN (lo:(d==sysModules)=false)(hx:o.ExactDict)(hd:o.data = .dict es ep):KdlSrc prog w "dict" d d es.size (λi v=>∃ e:DictEntry,es[i]? = some e/\v=e.key) (λh=>h.get? d=some o) where
 type:=λ_ hm=>nK hm hx
 there:=λ_ hm=>⟨ay hm,ay hm⟩
 keep:=λ_ _ hm hk=>hk d (.inl rfl) o hm
 notList:=by decide
 notTuple:=by decide
 hint:=λ_ _ _ _ hm hq=>kdl_hint_dict (nK hm hx) hq
 iter:=λ_ _ hh hm=>⟨_,_,(λ_ _ hq=>tT lo hm hx hd hq),xC hh hd _ d (aI (ay hm)),⟨⟨_,bc _ rfl,rfl,rfl⟩,av _ hm⟩⟩
end
theorem tj:∀ {bs:List Addr}{vs:List Value},vs=bs.map Value.ref->Vals (bs.map V.ref) vs
 |[],_,h=>by rw[h];exact .nil
 |b::bs,_,h=>by rw[h];exact .cons rfl (tj rfl)
theorem vF {X:Cx}(hc:X.calm=true):jC X (.type "list") (λxs H Q=>∃ (d:Addr) (kvs:List (List Key×V)),xs = [.ref d]/\H d=some (.dT kvs)/\
  ∀ l (bs:List Addr),H l=none->bs.length=kvs.length->(∀ (i:Nat) b p,bs[i]? = some b->kvs[i]? = some p->H b=some (.tup (p.1.map kV)))->Q (.ref l) (upd H l (.lst (bs.map V.ref)))):=by
 intro pins s σ H xs us Q I r h
 obtain⟨d,kvs,rfl,hH,q⟩:=h
 obtain⟨u,rfl,ru⟩:=vals1 r
 cases ru
 obtain⟨z,lo,xs,rel,o,es,ep,h1,h2,h3,h4,h5,h6⟩:=y4 I.hok hH
 have hsz:es.size=kvs.length:=by
  have:=bS List.length h4
  rw[aP,aa]at this
  rw[this,<-bT rel]
 refine kdl_call (AN lo h2 h3) (I.ok.hd hc) h1 (by rw[hsz];exact z) λh' tk acc c hk hg GU=>?_
 have el:acc.toList=(xs.map (·.2.1)).map Value.ref:=by
  refine d9 λj=>?_
  have hl:acc.size=xs.length:=by rw[GU.1,hsz,bT rel]
  by_cases hj:j<xs.length
  ·have hx:acc[j]? = some acc[j]:=bD (by omega)
   obtain⟨e,he,hv⟩:=GU.2 j _ hx
   rw[<-bI,h4,ai,af hj]at he
   have he:entryOfKey (tupleKind (fB X.prog X.w)) xs[j]=e:=by simpa using he
   rw[bI,hx,hv,<-he,bu,ai,af hj]
   rfl
  ·rw[bg (by rw[aP];omega),bg (by rw[aa,aa];omega)]
 refine⟨.ref s.heap.objs.size,_,I.laid (t':=tk) (o:=.lst ((xs.map (·.2.1)).map V.ref)) (λb ob q=>hk b ob q) (ao _) ⟨?_,acc.toList,c,tj el,?_⟩,rfl,q _ (xs.map (·.2.1)) I.fresh ?_ λi b p hb hp=>?_⟩
 ·rw[aa,aa,<-bT rel];exact z
 ·rw[hg,Array.toArray_toList]
 ·rw[aa,bT rel]
 ·obtain⟨y,hy,e1,e2,e3⟩:=pR rel hp
  rw[ai,hy]at hb
  have hb:y.2.1=b:=by simpa using hb
  rw[<-hb];exact e2
end TL
namespace TL
open PySem PySem.Spec PyProof.Rows L2 TS
end TL
namespace TL
open PySem L2 PyProof.Rows
theorem yp {l:Ln}{ns:List Int}(P:List Int->Prop)(h0:P ns)(hs:∀ t m,P t->m∈mvs l t->P m.2):∀ i,∀ e∈fb l ns i,P e.1
 | 0=>λe he=>by have z:e=(ns,none):=(by simpa [fb]using he);rw[z];exact h0
 |i+1=>by
  have ih:=yp P h0 hs i
  rw[fb]
  split
  ·rename_i e0 he0
   have r0:=ih e0 (aw he0)
   have gen:∀ (ms:List Mv) (o:List Ent),(∀ m∈ms,m∈mvs l e0.1)->(∀ e∈o,P e.1)->∀ e∈fW e0.1 ms o,P e.1:=by
    intro ms
    induction ms with
    |nil=>intro o _ h;exact h
    |cons m ms ihm=>
     intro o hm h
     refine ihm (mG e0.1 o m) (λx hx=>hm x (ax _ hx)) ?_
     unfold mG
     split
     ·exact h
     ·intro e he
      rcases aC.mp he with z |z
      ·exact h e z
      ·rw[bw.mp z]
       exact hs _ m r0 (hm m aB)
   exact gen _ _ (λm hm=>hm) ih
  ·exact ih
open PySem.Spec
abbrev sts (x:List EnS×List Sta):List Sta:=x.1.map (·.1)
theorem kr {α β:Type}{f:α->β}{a b:List α}(h:a <+:b){s:β}(hs:s∈a.map f):s∈b.map f:=by
 obtain⟨c,rfl⟩:=h
 rw[ar];exact bo _ hs
theorem B9 {t:List Int}{w:Str}{x:List EnS×List Sta}{m:Mv}(hm:m.1.1=w):(m.2,w)∈sts (ke t w x m):=by
 unfold ke
 split
 ·show(m.2,w)∈(x.1 ++ [((m.2,w),some ((t,w),some m.1))]).map (·.1)
  rw[ar];exact au _ (by simp)
 ·rename_i c
  exact aM λz=>c ⟨hm,z⟩
theorem tK {t:List Int}{w:Str} :∀ {ms:List Mv}{x:List EnS×List Sta},∀ m∈ms,m.1.1=w->(m.2,w)∈sts (fY t w ms x)
 |m0::r,x,m,hm,hw=>by
  rcases aG.mp hm with e |e
  ·subst e
   exact kr (kB t w r (ke t w x m)).2 (B9 hw)
  ·exact tK (ms:=r) (x:=ke t w x m0) m e hw
theorem BL (l:Ln)(x:List EnS×List Sta)(i:Nat):(goS l x i).2 <+:(goS l x (i+1)).2/\(goS l x i).1 <+:(goS l x (i+1)).1:=by
 rw[goS]
 split
 ·exact kB _ _ _ _
 ·exact⟨bL _,bL _⟩
theorem sr (l:Ln)(x:List EnS×List Sta):∀ i j,j<i->∀ s,(goS l x i).2[j]? = some s->∀ m∈mvs l s.1,m.1.1=s.2->(m.2,s.2)∈sts (goS l x i)
 | 0,j,h,_,_,_,_,_=>by omega
 |i+1,j,h,s,hs,m,hm,hw=>by
  have hp:=BL l x i
  by_cases hj:j<(goS l x i).2.length
  ·have hs':(goS l x i).2[j]? = some s:=by
    obtain⟨c,hc⟩:=hp.1
    rw[<-hc,aq hj]at hs
    exact hs
   by_cases e:j=i
   ·subst e
    rw[wM hs']
    exact tK m hm hw
   ·exact kr hp.2 (sr l x i j (by omega) s hs' m hm hw)
  ·have hn:(goS l x i).2[i]? = none:=bg (by omega)
   have e:goS l x (i+1)=goS l x i:=by rw[goS,hn]
   rw[e]at hs
   exact absurd (ag.mp hs).1 hj
theorem yc {l:Ln}{x:List EnS×List Sta}(hl:(goF l x).2.length<=1000):∀ s∈(goF l x).2,∀ m∈mvs l s.1,m.1.1=s.2->(m.2,s.2)∈sts (goF l x):=λs hs m hm hw=>by
 obtain⟨j,hj⟩:=dz.mp hs
 have hlt:=(ag.mp hj).1
 exact sr l x 1000 j (aU hlt hl) s hj m hm hw
theorem B8 {t:List Int}{w:Str}{x:List EnS×List Sta}{m:Mv}{A:Sta->Prop}(h:∀ s∈sts x,A s\/s∈x.2):∀ s∈sts (ke t w x m),A s\/s∈(ke t w x m).2:=by
 unfold ke
 split
 ·intro s hs
  have hs:s∈(x.1 ++ [((m.2,w),some ((t,w),some m.1))]).map (·.1):=hs
  rw[ar]at hs
  rcases aC.mp hs with z |z
  ·exact(h s z).imp id λy=>bo _ y
  ·exact .inr (au _ (by simpa using z))
 ·exact h
theorem tJ {t:List Int}{w:Str}{A:Sta->Prop} :∀ {ms:List Mv}{x:List EnS×List Sta},(∀ s∈sts x,A s\/s∈x.2)->∀ s∈sts (fY t w ms x),A s\/s∈(fY t w ms x).2
 |[],_,h=>h
 |m::r,x,h=>tJ (ms:=r) (x:=ke t w x m) (B8 h)
theorem vy {l:Ln}{x:List EnS×List Sta}{A:Sta->Prop}(h:∀ s∈sts x,A s\/s∈x.2):∀ i,∀ s∈sts (goS l x i),A s\/s∈(goS l x i).2
 | 0=>h
 |i+1=>by
  rw[goS]
  split
  ·exact tJ (vy h i)
  ·exact vy h i
theorem BY (x:List EnS×List Sta)(s:Sta):x.1 <+:(iD x s).1/\x.2 <+:(iD x s).2:=by
 unfold iD
 split
 ·exact⟨cy _ _,cy _ _⟩
 ·exact⟨bL _,bL _⟩
theorem sE:∀ (ss:List Sta) (x:List EnS×List Sta),x.1 <+:(ss.foldl iD x).1
 |[],_=>bL _
 |s::r,x=>(BY x s).1.trans (sE r (iD x s))
theorem w5:∀ {ss:List Sta}{x:List EnS×List Sta},∀ s∈ss,(s.1,ow s.2)∈sts (ss.foldl iD x)
 |s0::r,x,s,hs=>by
  rcases aG.mp hs with e |e
  ·subst e
   have h1:(s.1,ow s.2)∈sts (iD x s):=by
    unfold iD
    split
    ·show(s.1,ow s.2)∈(x.1 ++ [(((s.1,ow s.2),some (s,none)):EnS)]).map (λe:EnS=>e.1)
     rw[ar];exact au _ (by simp)
    ·rename_i c
     exact aM c
   exact kr (sE r (iD x s)) h1
  ·exact w5 (ss:=r) (x:=iD x s0) s e
theorem wZ {A:Sta->Prop} :∀ {ss:List Sta}{x:List EnS×List Sta},(∀ s∈sts x,A s\/s∈x.2)->∀ s∈sts (ss.foldl iD x),A s\/s∈(ss.foldl iD x).2
 |[],_,h=>h
 |s0::r,x,h=>by
  refine wZ (ss:=r) (x:=iD x s0) ?_
  unfold iD
  split
  ·intro s hs
   have hs:s∈(x.1 ++ [(((s0.1,ow s0.2),some (s0,none)):EnS)]).map (λe:EnS=>e.1):=hs
   rw[ar]at hs
   rcases aC.mp hs with z |z
   ·exact(h s z).imp id λy=>bo _ y
   ·exact .inr (au _ (by simpa using z))
  ·exact h
structure RC (l:Ln)(tr:List Int)(r:Nat):Prop where
 all:∀ s∈sts (rnd l tr r),(cnt l tr r s).isSome=true\/s∈(rnd l tr r).2
 jl:∀ s,(cnt l tr r s).isSome=true->s∈sts (rnd l tr r)/\(∀ m∈mvs l s.1,m.1.1=s.2->(m.2,s.2)∈sts (rnd l tr r))/\(s.1,ow s.2)∈sts (rnd l tr r)
 st:∀ w,isW w->(tr,w)∈sts (rnd l tr r)
theorem RC.of {l:Ln}{W:List (List Int)}(jl:∀ t∈W,∀ m∈mvs l t,m.2∈W){tr:List Int}(ht:tr∈W)(hW:W.length<=300):∀ r,RC l tr r
 | 0=>⟨λs hs=>.inr hs,λs hs=>by simp[cnt]at hs,λw hw=>by
   have:(tr,w)∈ [(tr,onW),(tr,ir)]:=by
    rcases hw with e |e
    ·rw[e];exact aB
    ·rw[e];exact ax _ aB
   exact this⟩
 |r+1=>by
  have ih:=RC.of jl ht hW r
  have R:=RO.rnd jl ht r
  have RG:RO W (goF l (rnd l tr r)):=RO.go jl R 1000
  have gl:=RG.len
  have gc:∀ s∈(goF l (rnd l tr r)).2,∀ m∈mvs l s.1,m.1.1=s.2->(m.2,s.2)∈sts (goF l (rnd l tr r)):=yc (by omega)
  have gn:∀ s∈sts (goF l (rnd l tr r)),(cnt l tr r s).isSome=true\/s∈(goF l (rnd l tr r)).2:=vy ih.all 1000
  have gp:(rnd l tr r).1 <+:(goF l (rnd l tr r)).1:=vt l (rnd l tr r) 1000
  have er:rnd l tr (r+1)=chN (goF l (rnd l tr r)).2 (goF l (rnd l tr r)).1:=by rw[rnd]
  have ec:∀ s,cnt l tr (r+1) s=open Classical in if s∈(goF l (rnd l tr r)).2 then some r else cnt l tr r s:=λs=>by rw[cnt]
  generalize goF l (rnd l tr r)=gg at RG gl gc gn gp er ec
  have cp:gg.1 <+:(rnd l tr (r+1)).1:=by rw[er];exact sE gg.2 (gg.1,[])
  refine⟨λs hs=>?_,λs hs=>?_,λw hw=>kr (gp.trans cp) (ih.st w hw)⟩
  ·have h2:∀ s∈sts (rnd l tr (r+1)),s∈sts gg\/s∈(rnd l tr (r+1)).2:=by
    rw[er]
    exact wZ (x:=(gg.1,[])) λs hs=>.inl hs
   rcases h2 s hs with z |z
   ·left
    rw[ec s]
    by_cases hm:s∈gg.2
    ·rw[aJ hm];rfl
    ·rw[aF hm];exact(gn s z).resolve_right hm
   ·exact .inr z
  ·rw[ec s]at hs
   by_cases hm:s∈gg.2
   ·refine⟨kr cp (RG.sub s hm),λm hm' hw=>kr cp (gc s hm m hm' hw),?_⟩
    rw[er];exact w5 s hm
   ·rw[aF hm]at hs
    obtain⟨h1,h2,h3⟩:=ih.jl s hs
    exact⟨kr (gp.trans cp) h1,λm hm' hw=>kr (gp.trans cp) (h2 m hm' hw),kr (gp.trans cp) h3⟩
theorem RC.full {l:Ln}(ok:fC l){tr:List Int}{r:Nat}(h:RC l tr r)(he:(rnd l tr r).2 = [])(i:Nat):∀ e∈fb l tr i,∀ w,isW w->(e.1,w)∈sts (rnd l tr r)/\(cnt l tr r (e.1,w)).isSome=true:=by
 have al:∀ s∈sts (rnd l tr r),(cnt l tr r s).isSome=true:=λs hs=>(h.all s hs).resolve_right (by rw[he];simp)
 have key:=yp (l:=l) (ns:=tr) (λt=>∀ w,isW w->(t,w)∈sts (rnd l tr r)) h.st (λt m ht hm w hw=>by
  have hmw:isW m.1.1:=(t6 ok hm).1
  have h1:=(h.jl _ (al _ (ht m.1.1 hmw))).2.1 m hm rfl
  have h2:=(h.jl _ (al _ h1)).2.2
  have hw2:w=m.1.1\/w=ow m.1.1:=by
   have hn:¬Str.ofString "back" = Str.ofString "on" :=by decide +kernel
   unfold ow
   rcases hw with e |e<;>rcases hmw with f |f
   ·exact .inl (by rw[e,f])
   ·exact .inr (by rw[e,f,aF hn])
   ·exact .inr (by rw[e,f,aJ rfl])
   ·exact .inl (by rw[e,f])
  rcases hw2 with e |e
  ·rw[e];exact h1
  ·rw[e];exact h2) i
 exact λe he' w hw=>⟨key e he' w hw,al _ (key e he' w hw)⟩
section
variable {l:Ln}{W:List (List Int)}{tr:List Int}{r:Nat}
end
section
variable {l:Ln}{W:List (List Int)}{tr:List Int}{r:Nat}
end
theorem FV {P:Program}{w:World}{K:PySem.W.Frag}{mg:Str->Option Value}{od:Addr}{t1 t2 t3 t4:Tok}{ep:Nat}(hm:mg "OTHER_WORD" = some (.ref od))
  (hk:K.lookup od=some {cls:=.type "dict",data:=.dict #[⟨PyData.keyHash w.params (Str.ofString "on"),.str (Str.ofString "on") t1,.str (Str.ofString "back") t2⟩,⟨PyData.keyHash w.params (Str.ofString "back"),.str (Str.ofString "back") t3,.str (Str.ofString "on") t4⟩] ep}):Dd P w K mg od:=by
 refine⟨hm,λh hK=>⟨t2,t4,_,_,ep,hK od _ hk,⟨rfl,rfl,rfl⟩,rfl,?_,?_,?_⟩⟩
 ·intro e he
  have he:e=⟨PyData.keyHash w.params (Str.ofString "on"),.str (Str.ofString "on") t1,.str (Str.ofString "back") t2⟩\/e=⟨PyData.keyHash w.params (Str.ofString "back"),.str (Str.ofString "back") t3,.str (Str.ofString "on") t4⟩:=by simpa using he
  rcases he with z |z
  ·rw[z];exact⟨.inr (Str.ofString "on"),lY (P:=P) (w:=w) (k:=.inr (Str.ofString "on")) ⟨t1,rfl⟩,rfl⟩
  ·rw[z];exact⟨.inr (Str.ofString "back"),lY (P:=P) (w:=w) (k:=.inr (Str.ofString "back")) ⟨t3,rfl⟩,rfl⟩
 ·exact .cons (lY (P:=P) (w:=w) (k:=.inr (Str.ofString "on")) ⟨t1,rfl⟩) rfl (.cons (lY (P:=P) (w:=w) (k:=.inr (Str.ofString "back")) ⟨t3,rfl⟩) rfl .nil)
 ·have hn:¬(Sum.inr (Str.ofString "on"):Key) = .inr (Str.ofString "back"):=by decide +kernel
  simp[hn]
section
variable {X:Cx}
end
section
variable {l:Ln}{W:List (List Int)}{tr:List Int}{r:Nat}
end
theorem Bt {prog:Program}{w:World}{A:Around}{E:Value->Shared->Prop}{s:Shared}{d:Addr}{o:Obj}{es:Array DictEntry}{ep:Nat}{Q:Value->Shared->Prop}(hn:(d==sysModules)=false)(ho:s.heap.get? d=some o)(hx:o.ExactDict)(ER:o.data = .dict es ep)(wI:(es.size:Int)<2 ^ 63)
  (h:Q (.int es.size (s.toks+1)) {s with toks:=s.toks+1+1}):wpAny (model prog w) A (call (.builtin "len") [.ref d]) Q E s:=by
 refine Calls.call_function_entry kind_len plain_len entry_len (args_len1 _) ?_
 have hT:=nK ho hx
 unfold Builtin.«len»
 refine ae (m:=oneArg "len" _) (aj ?_)
 refine ae (m:=callSpecial? (.ref d) (Str.ofString "__len__")) (wpAny_callSpecial?_slot (name:=Str.ofString "__len__") hT F.slot_dict_len
  (call_meetsIn F.slot_dict_len hT F.entry_dict_len (F.args_dict_len_1 _) (S:=λ_ R s=>∃ o es ep,s.heap.get? d=some o/\o.data = .dict es ep/\R (.ok (.ret (.int es.size s.toks))) {s with toks:=s.toks+1}) (.of_wp λA R s ⟨o,es,ep,ho,ER,h⟩=>by
   show wpAny _ _ (dictSize d >>= _) _ _ s
   unfold dictSize
   refine ae (ae (wpAny_dictEntries ho ER (aj ?_)))
   show wpAny _ _ (Builtin.Dict.pendingCount d >>= _) _ _ s
   refine ae (wpAny_pendingCount_other hn ?_)
   refine wpAny_ret_mkInt ?_
   rw[Nat.add_zero];exact h) ⟨o,es,ep,ho,ER,?_⟩))
 show wpAny _ _ _ _ _ {s with toks:=s.toks+1}
 refine ae (b9 (aj ?_))
 refine ae (wpAny_letGo ?_)
 show wpAny _ _ (if((es.size:Nat):Int)<0 then _ else _) _ _ _
 rw[aF (by omega)]
 show wpAny _ _ (if((es.size:Nat):Int)≥2 ^ 63 then _ else _) _ _ _
 rw[aF (by omega)]
 exact ae (wpAny_mkInt (aj ⟨_,rfl,h⟩))
theorem As {X:Cx} :jC X (.builtin "len") (λxs H Q=>∃ (d:Addr) (kvs:List (List Key×V)),xs = [.ref d]/\H d=some (.dT kvs)/\Q (.int kvs.length) H):=by
 intro pins s σ H xs us Q I r h
 obtain⟨d,kvs,rfl,hH,q⟩:=h
 obtain⟨u,rfl,ru⟩:=vals1 r
 cases ru
 obtain⟨z,lo,xs,rel,o,es,ep,h1,h2,h3,h4,h5,h6⟩:=y4 I.hok hH
 have hsz:es.size=kvs.length:=by
  have:=bS List.length h4
  rw[aP,aa]at this
  rw[this,<-bT rel]
 have hz:sizeLine<2 ^ 63:=by decide
 exact Bt lo h1 h2 h3 (by rw[hsz];omega) ⟨.int kvs.length,H,I.tok _,⟨_,by rw[hsz]⟩,q⟩
end TL
namespace K22
open PySem L2 TL PyProof.Rows
abbrev St:=L2.St
def top (i:Nat):Stmt:=PySem.Challenge.pw_turnline_k22_ways_looked_at.main.body.getD i (.Pass ⟨0,0,0,0⟩)
def jq:Sp:=λvs H Q _=>∃ e:Int,vs = [.int e]/\Q (.int (oth e)) H
def uF:Sp:=λvs H Q _=>∃ e:Int,vs = [.int e]/\Q (.int (e/2)) H
def qL (K:PySem.W.Frag):Sp:=λvs H Q _=>∃ (a:Addr) (ns:List Int) (k:Int),vs = [.ref a,.int k]/\SqL K H a (ns.map V.int)/\0<=k/\∀ c,Q (.int c) H
def pL:Sp:=λvs H Q _=>∃ c k:Int,vs = [.int c,.int k]/\0<=k/\k<=1000/\∀ n,0<=n->n<2147483648->Q (.int n) H
abbrev j4:Stmt:=top 5
theorem uJ:fu ["end"] ["end"] (eS j4):=⟨rfl,rfl,rfl,by decide +kernel,rfl,by decide +kernel,by decide +kernel⟩
abbrev kO:Stmt:=top 6
theorem vV:fu ["end"] ["end"] (eS kO):=⟨rfl,rfl,rfl,by decide +kernel,rfl,by decide +kernel,by decide +kernel⟩
abbrev iq:Stmt:=top 33
theorem uL:fu ["_law_end"] ["_law_end"] (eS iq):=⟨rfl,rfl,rfl,by decide +kernel,rfl,by decide +kernel,by decide +kernel⟩
abbrev iI:Stmt:=top 30
theorem rC:fu ["_law_script","_law_k"] ["_law_script","_law_k"] (eS iI):=⟨rfl,rfl,rfl,by decide +kernel,rfl,by decide +kernel,by decide +kernel⟩
abbrev je:Stmt:=top 31
theorem kM:fu ["_law_cell","_law_k","_law_again","_law_number"] ["_law_cell","_law_k"] (eS je):=⟨rfl,rfl,rfl,by decide +kernel,rfl,by decide +kernel,by decide +kernel⟩
section
variable {P:Program}{w:World}{K:PySem.W.Frag}{mg:Str->Option Value}{base:Heap}{f:Addr}{fd:FuncData}{D c1 c2 c3 c4 c5 c6 c7:Addr}
theorem oY (F:Fn K mg "other_end" j4 ["end"] f fd):fh P w K mg base CX0 1 f fd ["end"] jq:=by
 refine F.F.ok uJ (λvs H Q E h=>?_) (λcdv A outer s H vs Q E hr h=>?_)
 ·obtain⟨e,rfl,_⟩:=h;rfl
 ·obtain⟨e,rfl,k⟩:=h
  refine⟨_,(eL (fm (eV Eh (pv 0) eK))),?_⟩
  refine⟨_,rfl,_,_,rfl,rfl,?_⟩
  show Q (.int (Builtin.bitXor e 1)) H
  rw[Cf];exact k
theorem qw (F:Fn K mg "piece_of" kO ["end"] f fd):fh P w K mg base CX0 1 f fd ["end"] uF:=by
 refine F.F.ok vV (λvs H Q E h=>?_) (λcdv A outer s H vs Q E hr h=>?_)
 ·obtain⟨e,rfl,_⟩:=h;rfl
 ·obtain⟨e,rfl,k⟩:=h
  refine⟨_,(eL (fm (eV gu (pv 0) eK))),?_⟩
  exact⟨_,rfl,_,_,rfl,rfl,⟨by decide,by decide⟩,k⟩
theorem jA (F:Fn K mg "_law_other" iq ["_law_end"] f fd):fh P w K mg base CX0 1 f fd ["_law_end"] jq:=by
 refine F.F.ok uL (λvs H Q E h=>?_) (λcdv A outer s H vs Q E hr h=>?_)
 ·obtain⟨e,rfl,_⟩:=h;rfl
 ·obtain⟨e,rfl,k⟩:=h
  refine⟨_,(eL (fm (eV mx (eV gO (pv 0) eK) (eV ix eK (eV fI (pv 0) eK))))),?_⟩
  exact⟨_,rfl,_,_,rfl,rfl,_,rfl,_,_,rfl,rfl,by show(0:Int)<2;decide,_,_,rfl,rfl,.inl ⟨by decide,by decide⟩,_,_,rfl,rfl,k⟩
theorem kZ (F:Fn K mg "_law_cell_at" iI ["_law_script","_law_k"] f fd)(B:Bl mg):fh P w K mg base CX0 1 f fd ["_law_script","_law_k"] (qL K):=by
 refine F.F.ok rC (λvs H Q E h=>?_) (λcdv A outer s H vs Q E hr h=>?_)
 ·obtain⟨a,ns,k,rfl,_⟩:=h;rfl
 ·obtain⟨a,ns,k,rfl,hS,h0,q⟩:=h
  refine⟨_,(eJ (fQ (ft (n8 (pv 1) (fc fe rfl B.len bz (eD (pv 0) eI))))
 (eL (fm (fE fK (pv 0) (pv 1) (λ_ _=>rfl)))) fk)
 (eL (fm eK))),?_⟩
  refine⟨_,rfl,_,rfl,a,_,rfl,.inl hS,_,_,rfl,rfl,_,rfl,fN (λhlt=>?_) (λ_=>?_)⟩
  ·have hlt:k<((ns.map V.int).length:Int):=by simpa using hlt
   rw[aa]at hlt
   have hg:(ns.map V.int)[k.toNat]? = some (V.int (ns.getD k.toNat 0)):=by
    rw[ai,aE]
    have:k.toNat<ns.length:=by omega
    simp[this]
   have e1:((k.toNat:Nat):Int)=k:=by omega
   exact⟨_,rfl,_,rfl,a,_,k,_,rfl,rfl,hS,by have h:=nS hg;rw[e1]at h;exact h,q _⟩
  ·exact q _
theorem kY (F:Fn K mg "_law_mix" je ["_law_cell","_law_k"] f fd)(B:Bl mg):fh P w K mg base CX0 1 f fd ["_law_cell","_law_k"] pL:=by
 refine F.F.ok kM (λvs H Q E h=>?_) (λcdv A outer s H vs Q E hr h=>?_)
 ·obtain⟨c,k,rfl,_⟩:=h;rfl
 ·obtain⟨c,k,rfl,h0,h1,q⟩:=h
  refine⟨_,(eJ (fQ (ft (FU (pv 0) (eV pS eK eK)))
 (eJ (gY aS rfl (kD rfl B.range (eD (pv 1) eI)) (eT (i:=2) kM.nd rfl (Or.inl rfl))
 (eL (eY (i:=0) kM.nd rfl (Or.inl rfl) (eV gu (pv 0) (eV pS eK eK)))))
 (eL (fm (eV fI (pv 0) (eV pS eK eK))))) fk)
 (eJ (eY (i:=3) kM.nd rfl (Or.inl rfl) (eV fI (eV ix (eV gO (eV gO (eV fI (pv 0) eK) (eV ix (eV ix (pv 1) (pv 1)) eK)) (pv 1)) eK) eK))
 (eJ (eY (i:=3) kM.nd rfl (Or.inl rfl) (eV fI (eV ix (pv 3) (pv 3)) eK))
 (eL (fm (eV gu (eV fI (eV ix (pv 3) (eV gO (pv 3) eK)) eK) eK)))))),?_⟩
  refine⟨_,rfl,_,_,rfl,rfl,⟨by decide,by decide,by decide⟩,_,_,rfl,rfl,_,rfl,fN (λhlt=>?_) (λ_=>?_)⟩
  ·refine⟨_,rfl,_,rfl,by omega,by omega,nQ (λi σ H2=>H2=H/\∃ (c:Int) (x:Option V),σ = [some (.int c),some (.int k),x,none]) ⟨rfl,c,none,rfl⟩ ?_ ?_⟩
   ·rintro i σ H2 hi ⟨rfl,c,x,rfl⟩
    exact⟨_,rfl,_,_,rfl,rfl,⟨by decide,by decide,by decide⟩,_,_,rfl,rfl,⟨by decide,by decide⟩,rfl,_,_,rfl⟩
   ·rintro σ H2 ⟨rfl,c,x,rfl⟩
    refine⟨_,rfl,_,_,rfl,rfl,⟨by decide,by decide,by decide⟩,_,_,rfl,rfl,(by show(0:Int)<_;decide),q _ ?_ ?_⟩
    ·show 0<=c%(10 ^ 6);omega
    ·show c%(10 ^ 6)<_;omega
  ·refine⟨_,rfl,_,_,rfl,rfl,(by show(0:Int)<_;decide),_,rfl,_,rfl,_,_,rfl,rfl,.inl ⟨by omega,by omega⟩,_,_,rfl,rfl,.inr ⟨by decide,by decide⟩,_,_,rfl,rfl,_,rfl,_,_,rfl,rfl,_,_,rfl,rfl,.inr ⟨by decide,by decide⟩,_,_,rfl,rfl,(by show(0:Int)<_;decide),?_⟩
   dsimp only
   generalize hn:(c%1000003+k*k*7919+k)*48271%2147483629=n
   have n0:0<=n:=by omega
   have n1:n<2147483629:=by omega
   refine⟨_,rfl,_,rfl,_,_,rfl,rfl,.inl ⟨by omega,by omega⟩,_,_,rfl,rfl,(by show(0:Int)<_;decide),?_⟩
   dsimp only
   generalize hm:n*n%2147483587=m
   have m0:0<=m:=by omega
   have m1:m<2147483587:=by omega
   refine⟨_,rfl,_,rfl,_,_,rfl,rfl,_,_,rfl,rfl,.inl ⟨by omega,by omega⟩,_,_,rfl,rfl,(by show(0:Int)<_;decide),_,_,rfl,rfl,⟨by decide,by decide⟩,q _ ?_ ?_⟩
   ·show 0<=m*(m+2)%2147483579/7;omega
   ·show m*(m+2)%2147483579/7<_;omega
end
theorem fR {n:Nat}(h:n<=1000):n<sizeLine:=bQ h (by decide)
theorem o6 {K:PySem.W.Frag}{H:Hp}{js:List (Int×Int)}{vs:List V}(h:Das K H (js.map dP) vs):vs.length=js.length:=by rw[Dgs.length h,aa]
theorem nR {l:Int×List (Int×Int)}(h:fC l)(e:Int):(below l.2 e).length+(above l.2 e).length<=60:=h.inc e
def jG (K:PySem.W.Frag):Sp:=λvs H Q _=>∃ (v:V) (l:Int×List (Int×Int)) (e:Int),vs = [v,.int e]/\Da K H (dL l) v/\fC l/\vJ H (jn l.2 e) Q
def rh (K:PySem.W.Frag):Sp:=λvs H Q _=>∃ (v:V) (ns:List Int),vs = [v]/\Da K H (dI ns) v/\ns.length<=1000/\vJ H (ns.reverse.map oth) Q
def yw (K:PySem.W.Frag):Sp:=λvs H Q _=>∃ (v u:V) (l:Int×List (Int×Int)) (ns:List Int) (e:Int),vs = [v,u,.int e]/\Da K H (dL l) v/\Da K H (dI ns) u/\fC l/\ns.length<=1000/\vJ H (fr l ns e) Q
def kL (K:PySem.W.Frag):Sp:=λvs H Q _=>∃ (v u:V) (l:Int×List (Int×Int)) (ns:List Int),vs = [v,u]/\Da K H (dL l) v/\Da K H (dI ns) u/\fC l/\ns≠ []/\ns.length<=900/\Cd K H (mvs l ns) Q
abbrev kT:Stmt:=top 8
theorem nG:fu ["line","end","joints","above","below"] ["line","end"] (eS kT):=⟨rfl,rfl,rfl,by decide +kernel,rfl,by decide +kernel,by decide +kernel⟩
theorem ng:fG (eS kT) ["line","end","joints","above","below"] {kind:=.function,names:=[(Str.ofString ".0",.local),(Str.ofString "low",.local),(Str.ofString "high",.local),(Str.ofString "end",.free)],isGenerator:=false,isCoroutine:=false,more:=[]} ["low","high","end"] 2 [none,none,some 1]:=⟨rfl,by decide +kernel,by decide +kernel,by decide +kernel,rfl,by decide +kernel,rfl,by decide +kernel⟩
theorem m9:fG (eS kT) ["line","end","joints","above","below"] {kind:=.function,names:=[(Str.ofString ".0",.local),(Str.ofString "low",.local),(Str.ofString "high",.local),(Str.ofString "end",.free)],isGenerator:=false,isCoroutine:=false,more:=[]} ["low","high","end"] 2 [none,none,some 1]:=⟨rfl,by decide +kernel,by decide +kernel,by decide +kernel,rfl,by decide +kernel,rfl,by decide +kernel⟩
abbrev hX:Stmt:=top 34
theorem sR:fu ["_law_line_here","_law_end"] ["_law_line_here","_law_end"] (eS hX):=⟨rfl,rfl,rfl,by decide +kernel,rfl,by decide +kernel,by decide +kernel⟩
theorem kc:fG (eS hX) ["_law_line_here","_law_end"] {kind:=.function,names:=[(Str.ofString ".0",.local),(Str.ofString "_law_a",.local),(Str.ofString "_law_b",.local),(Str.ofString "_law_end",.free)],isGenerator:=false,isCoroutine:=false,more:=[]} ["_law_a","_law_b","_law_end"] 2 [none,none,some 1]:=⟨rfl,by decide +kernel,by decide +kernel,by decide +kernel,rfl,by decide +kernel,rfl,by decide +kernel⟩
theorem kb:fG (eS hX) ["_law_line_here","_law_end"] {kind:=.function,names:=[(Str.ofString ".0",.local),(Str.ofString "_law_a",.local),(Str.ofString "_law_b",.local),(Str.ofString "_law_end",.free)],isGenerator:=false,isCoroutine:=false,more:=[]} ["_law_a","_law_b","_law_end"] 2 [none,none,some 1]:=⟨rfl,by decide +kernel,by decide +kernel,by decide +kernel,rfl,by decide +kernel,rfl,by decide +kernel⟩
abbrev jc:Stmt:=top 38
theorem uK:fu ["_law_train_here"] ["_law_train_here"] (eS jc):=⟨rfl,rfl,rfl,by decide +kernel,rfl,by decide +kernel,by decide +kernel⟩
theorem m7:fG (eS jc) ["_law_train_here"] {kind:=.function,names:=[(Str.ofString ".0",.local),(Str.ofString "_law_end",.local),(Str.ofString "_law_other",.globalImplicit)],isGenerator:=false,isCoroutine:=false,more:=[]} ["_law_end"] 1 [none]:=⟨rfl,by decide +kernel,by decide +kernel,by decide +kernel,rfl,by decide +kernel,rfl,by decide +kernel⟩
abbrev jf:Stmt:=top 11
theorem oR:fu ["line","train","end","pieces"] ["line","train","end"] (eS jf):=⟨rfl,rfl,rfl,by decide +kernel,rfl,by decide +kernel,by decide +kernel⟩
theorem ni:fG (eS jf) ["line","train","end","pieces"] {kind:=.function,names:=[(Str.ofString ".0",.local),(Str.ofString "own",.local),(Str.ofString "piece_of",.globalImplicit)],isGenerator:=false,isCoroutine:=false,more:=[]} ["own"] 1 [none]:=⟨rfl,by decide +kernel,by decide +kernel,by decide +kernel,rfl,by decide +kernel,rfl,by decide +kernel⟩
theorem nh:fG (eS jf) ["line","train","end","pieces"] {kind:=.function,names:=[(Str.ofString ".0",.local),(Str.ofString "there",.local),(Str.ofString "piece_of",.globalImplicit),(Str.ofString "pieces",.free)],isGenerator:=false,isCoroutine:=false,more:=[]} ["there","pieces"] 1 [none,some 3]:=⟨rfl,by decide +kernel,by decide +kernel,by decide +kernel,rfl,by decide +kernel,rfl,by decide +kernel⟩
abbrev jI:Stmt:=top 12
theorem ly:fu ["line","train","told","end"] ["line","train"] (eS jI):=⟨rfl,rfl,rfl,by decide +kernel,rfl,by decide +kernel,by decide +kernel⟩
abbrev jd:Stmt:=top 39
theorem jt:fu ["_law_line_here","_law_train_here","_law_end","_law_pieces","_law_found"] ["_law_line_here","_law_train_here"] (eS jd):=⟨rfl,rfl,rfl,by decide +kernel,rfl,by decide +kernel,by decide +kernel⟩
theorem m8:fG (eS jd) ["_law_line_here","_law_train_here","_law_end","_law_pieces","_law_found"] {kind:=.function,names:=[(Str.ofString ".0",.local),(Str.ofString "_law_end",.local)],isGenerator:=false,isCoroutine:=false,more:=[]} ["_law_end"] 1 [none]:=⟨rfl,by decide +kernel,by decide +kernel,by decide +kernel,rfl,by decide +kernel,rfl,by decide +kernel⟩
section
variable {P:Program}{w:World}{K:PySem.W.Frag}{mg:Str->Option Value}{base:Heap}{f:Addr}{fd:FuncData}{D c1 c2 c3 c4 c5 c6 c7:Addr}
theorem tX (F:Fn K mg "joined" kT ["line","end"] f fd)(B:Bl mg):fh P w K mg base CX0 1 f fd ["line","end"] (jG K):=by
 refine F.F.ok nG (λvs H Q E h=>?_) (λcdv A outer s H vs Q E hr h=>?_)
 ·obtain⟨v,l,e,rfl,_⟩:=h;rfl
 ·obtain⟨v,l,e,rfl,hv,ok,k⟩:=h
  obtain⟨a,b,rfl,ht,us,hl,hq⟩:=kA hv
  have hlen:=o6 hq
  have hz:us.length<sizeLine:=fR (by rw[hlen];have:=ok.len;omega)
  refine⟨_,(eJ (eY (i:=2) nG.nd rfl (Or.inl rfl) (fE gZ (pv 0) eK (λ_ _=>rfl)))
 (eJ (qv (i:=3) nG.nd rfl rfl (fy (pv 2)) rfl ng (.tup (.cons (.name (by decide)) (.cons (.name (by decide)) .nil))) (λ_ _ _ _=>(gN (n:=2) rfl (eW (eT (i:=0) ng.nd rfl (Or.inl rfl)) (eW (eT (i:=1) ng.nd rfl (Or.inl rfl)) fZ)))) (λ_ _ _ _=>(lV (ft (iT (pv 0) (pv 2))))) (λ_ _ _ _=>(pv 1)))
 (eJ (qv (i:=4) nG.nd rfl rfl (fy (pv 2)) rfl m9 (.tup (.cons (.name (by decide)) (.cons (.name (by decide)) .nil))) (λ_ _ _ _=>(gN (n:=2) rfl (eW (eT (i:=0) m9.nd rfl (Or.inl rfl)) (eW (eT (i:=1) m9.nd rfl (Or.inl rfl)) fZ)))) (λ_ _ _ _=>(lV (ft (iT (pv 1) (pv 2))))) (λ_ _ _ _=>(pv 0)))
 (eL (fm (fc qz rfl B.sorted boot_sorted (eD (eV kX (pv 4) (pv 3)) eI))))))),?_⟩
  refine⟨_,rfl,a,_,_,_,rfl,rfl,ht,rfl,?_⟩
  refine⟨_,rfl,b,rfl,⟨us,hl⟩,λl1 n1=>jU l.2 (λp=>decide (p.1=e)) (λp=>V.int p.2) n1 hl hlen hz ?_ ?_⟩
  ·intro i x d H' hx hd sm P1 P0 k1 k0
   obtain⟨ad,p,e1,rfl,hp⟩:=mZ (Das.same sm hq) hx
   rw[hd]at e1;cases e1
   refine⟨ad,_,rfl,hp,rfl,_,_,rfl,_,_,rfl,rfl,_,rfl,_,rfl,_,_,rfl,rfl,_,rfl,fN (λh=>⟨_,rfl,k1 h⟩) (λh=>k0 (by simpa using h))⟩
  have s1:eQ H (upd H l1 (.lst (above l.2 e |>.map V.int))):=eE n1
  have e1:((l.2.filter λp=>decide (p.1=e)).map λp=>V.int p.2)=(above l.2 e).map V.int:=by unfold above;rw[bu];rfl
  rw[e1]
  refine⟨_,rfl,b,rfl,⟨us,s1.seq hl⟩,λl2 n2=>jU l.2 (λp=>decide (p.2=e)) (λp=>V.int p.1) n2 (s1.seq hl) hlen hz ?_ ?_⟩
  ·intro i x d H' hx hd sm P1 P0 k1 k0
   obtain⟨ad,p,e1,rfl,hp⟩:=mZ (Das.same (s1.trans sm) hq) hx
   rw[hd]at e1;cases e1
   refine⟨ad,_,rfl,hp,rfl,_,_,rfl,_,_,rfl,rfl,_,rfl,_,rfl,_,_,rfl,rfl,_,rfl,fN (λh=>⟨_,rfl,k1 h⟩) (λh=>k0 (by simpa using h))⟩
  have e2:((l.2.filter λp=>decide (p.2=e)).map λp=>V.int p.1)=(below l.2 e).map V.int:=by unfold below;rw[bu];rfl
  rw[e2]
  have g1:(upd (upd H l1 (.lst (above l.2 e |>.map V.int))) l2 (.lst (below l.2 e |>.map V.int))) l1=some (.lst (above l.2 e |>.map V.int)):=by
   rw[eN (eM eG n2),eG]
  have hb:=nR ok e
  have s2:eQ H (upd (upd H l1 (.lst (above l.2 e |>.map V.int))) l2 (.lst (below l.2 e |>.map V.int))):=s1.trans (eE n2)
  refine⟨_,rfl,_,rfl,l2,l1,_,_,rfl,rfl,eG,g1,bE (fR (by rw[aa,aa];omega)),λp hp=>?_⟩
  refine⟨p,below l.2 e++above l.2 e,rfl,SqL.of (by rw[eG,ar]),(by rw[ah];omega),λp2 hp2=>?_⟩
  refine k p2 _ (s2.trans ((eE hp).trans (eE hp2))) (eQ.free (s2.trans (eE hp)) hp2) eG
theorem lL (F:Fn K mg "_law_joined" hX ["_law_line_here","_law_end"] f fd)(B:Bl mg):fh P w K mg base CX0 1 f fd ["_law_line_here","_law_end"] (jG K):=by
 refine F.F.ok sR (λvs H Q E h=>?_) (λcdv A outer s H vs Q E hr h=>?_)
 ·obtain⟨v,l,e,rfl,_⟩:=h;rfl
 ·obtain⟨v,l,e,rfl,hv,ok,k⟩:=h
  obtain⟨a,b,rfl,ht,us,hl,hq⟩:=kA hv
  have hlen:=o6 hq
  have hz:us.length<sizeLine:=fR (by rw[hlen];have:=ok.len;omega)
  refine⟨_,(eL (fm (fc qz rfl B.sorted boot_sorted (eD (eV kX (lW (fy (fE gZ (pv 0) eK (λ_ _=>rfl))) rfl kc (.tup (.cons (.name (by decide)) (.cons (.name (by decide)) .nil))) (λ_ _ _ _=>(gN (n:=2) rfl (eW (eT (i:=0) kc.nd rfl (Or.inl rfl)) (eW (eT (i:=1) kc.nd rfl (Or.inl rfl)) fZ)))) (λ_ _ _ _=>(lV (ft (iT (pv 0) (pv 2))))) (λ_ _ _ _=>(pv 1))) (lW (fy (fE gZ (pv 0) eK (λ_ _=>rfl))) rfl kb (.tup (.cons (.name (by decide)) (.cons (.name (by decide)) .nil))) (λ_ _ _ _=>(gN (n:=2) rfl (eW (eT (i:=0) kb.nd rfl (Or.inl rfl)) (eW (eT (i:=1) kb.nd rfl (Or.inl rfl)) fZ)))) (λ_ _ _ _=>(lV (ft (iT (pv 1) (pv 2))))) (λ_ _ _ _=>(pv 0)))) eI)))),?_⟩
  refine⟨_,rfl,a,_,_,_,rfl,rfl,ht,rfl,b,rfl,⟨us,hl⟩,λl1 n1=>jU l.2 (λp=>decide (p.1=e)) (λp=>V.int p.2) n1 hl hlen hz ?_ ?_⟩
  ·intro i x d H' hx hd sm P1 P0 k1 k0
   obtain⟨ad,p,e1,rfl,hp⟩:=mZ (Das.same sm hq) hx
   rw[hd]at e1;cases e1
   refine⟨ad,_,rfl,hp,rfl,_,_,rfl,_,_,rfl,rfl,_,rfl,_,rfl,_,_,rfl,rfl,_,rfl,fN (λh=>⟨_,rfl,k1 h⟩) (λh=>k0 (by simpa using h))⟩
  have s1:eQ H (upd H l1 (.lst (above l.2 e |>.map V.int))):=eE n1
  have e1:((l.2.filter λp=>decide (p.1=e)).map λp=>V.int p.2)=(above l.2 e).map V.int:=by unfold above;rw[bu];rfl
  rw[e1]
  refine⟨_,rfl,a,_,_,_,rfl,rfl,fq s1 ht,rfl,b,rfl,⟨us,s1.seq hl⟩,λl2 n2=>jU l.2 (λp=>decide (p.2=e)) (λp=>V.int p.1) n2 (s1.seq hl) hlen hz ?_ ?_⟩
  ·intro i x d H' hx hd sm P1 P0 k1 k0
   obtain⟨ad,p,e1,rfl,hp⟩:=mZ (Das.same (s1.trans sm) hq) hx
   rw[hd]at e1;cases e1
   refine⟨ad,_,rfl,hp,rfl,_,_,rfl,_,_,rfl,rfl,_,rfl,_,rfl,_,_,rfl,rfl,_,rfl,fN (λh=>⟨_,rfl,k1 h⟩) (λh=>k0 (by simpa using h))⟩
  have e2:((l.2.filter λp=>decide (p.2=e)).map λp=>V.int p.1)=(below l.2 e).map V.int:=by unfold below;rw[bu];rfl
  rw[e2]
  have g1:(upd (upd H l1 (.lst (above l.2 e |>.map V.int))) l2 (.lst (below l.2 e |>.map V.int))) l1=some (.lst (above l.2 e |>.map V.int)):=by
   rw[eN (eM eG n2),eG]
  have hb:=nR ok e
  have s2:eQ H (upd (upd H l1 (.lst (above l.2 e |>.map V.int))) l2 (.lst (below l.2 e |>.map V.int))):=s1.trans (eE n2)
  refine⟨l1,l2,_,_,rfl,rfl,g1,eG,bE (fR (by rw[aa,aa];omega)),λp hp=>?_⟩
  refine⟨p,above l.2 e++below l.2 e,rfl,SqL.of (by rw[eG,ar]),(by rw[ah];omega),λp2 hp2=>?_⟩
  rw[Gh]
  exact k p2 _ (s2.trans ((eE hp).trans (eE hp2))) (eQ.free (s2.trans (eE hp)) hp2) eG
theorem uV {f1:Addr}{fd1:FuncData}(F:Fn K mg "_law_round" jc ["_law_train_here"] f fd)(eX:Fn K mg "_law_other" iq ["_law_end"] f1 fd1):fh P w K mg base CX0 2 f fd ["_law_train_here"] (rh K):=by
 have gU:fh P w K mg base CX0 1 f1 fd1 ["_law_end"] jq:=jA eX
 refine F.F.ok uK (λvs H Q E h=>?_) (λcdv A outer s H vs Q E hr h=>?_)
 ·obtain⟨v,l,rfl,_⟩:=h;rfl
 ·obtain⟨v,ns,rfl,hv,hz,k⟩:=h
  obtain⟨a,rfl,hS⟩:=gz.mp hv
  refine⟨_,(eL (fm (lW (fy (AV (pv 0) (nZ lI eK))) rfl m7 (.name (by decide)) (λ_ _ _ _=>(eT (i:=0) m7.nd rfl (Or.inl rfl))) (λ_ _ _ _=>gj) (λ_ _ _ _=>(eU gU (hr.mono (by decide)) rfl eX.m eX.F.kp eX.b .nil fi (eD (pv 0) eI)))))),?_⟩
  refine⟨_,rfl,_,rfl,_,rfl,a,_,rfl,rfl,hS,λp hp=>⟨p,rfl,⟨_,SqL.of eG⟩,λl1 n1=>jU ns.reverse (λ_=>true) (λe=>V.int (oth e)) n1 (SqL.of eG) (by rw[b3,aa,b3]) (by rw[b3,aa];exact fR hz) ?_ ?_⟩⟩
  ·intro i x d H' hx hd sm P1 P0 k1 k0
   rw[<-List.map_reverse,ai,hd]at hx
   cases hx
   refine h9 ?_
   exact⟨_,rfl,d,rfl,k1 rfl⟩
  rw[iV]
  refine k l1 _ ((eE hp).trans (eE n1)) (eQ.free (eE hp) n1) ?_
  rw[eG,bu];rfl
theorem uX {f1 f2:Addr}{fd1 fd2:FuncData}(F:Fn K mg "free_ends" jf ["line","train","end"] f fd)(B:Bl mg)(fX:Fn K mg "piece_of" kO ["end"] f1 fd1)(iF:Fn K mg "joined" kT ["line","end"] f2 fd2):
  fh P w K mg base CX0 2 f fd ["line","train","end"] (yw K):=by
 have mB:fh P w K mg base CX0 1 f1 fd1 ["end"] uF:=qw fX
 have sL:fh P w K mg base CX0 1 f2 fd2 ["line","end"] (jG K):=tX iF B
 refine F.F.ok oR (λvs H Q E h=>?_) (λcdv A outer s H vs Q E hr h=>?_)
 ·obtain⟨v,u,l,ns,e,rfl,_⟩:=h;rfl
 ·obtain⟨v,u,l,ns,e,rfl,hv,hu,ok,hz,k⟩:=h
  obtain⟨a,rfl,hS⟩:=gz.mp hu
  refine⟨_,(eJ (eY (i:=3) oR.nd rfl (Or.inr rfl) (lW (fy (pv 1)) rfl ni (.name (by decide)) (λ_ _ _ _=>(eT (i:=0) ni.nd rfl (Or.inl rfl))) (λ_ _ _ _=>gj) (λ_ _ _ _=>(eU mB (hr.mono (by decide)) rfl fX.m fX.F.kp fX.b .nil fi (eD (pv 0) eI)))))
 (eL (fm (lW (fy (eU sL (hr.mono (by decide)) rfl iF.m iF.F.kp iF.b .nil fi (eD (pv 0) (eD (pv 2) eI)))) rfl nh (.name (by decide)) (λ_ _ _ _=>(eT (i:=0) nh.nd rfl (Or.inl rfl))) (λ_ _ _ _=>(lV (g7 (rO (K:=K) rfl hr.units) (eU mB (hr.mono (by decide)) rfl fX.m fX.F.kp fX.b .nil fi (eD (pv 0) eI)) (pv 1) (by with_unfolding_all rfl)))) (λ_ _ _ _=>(pv 0)))))),?_⟩
  refine⟨_,rfl,a,rfl,⟨_,hS⟩,λl1 n1=>jU ns (λ_=>true) (λe=>V.int (e/2)) n1 hS (by rw[aa]) (by rw[aa];exact fR hz) ?_ ?_⟩
  ·intro i x d H' hx hd sm P1 P0 k1 k0
   rw[ai,hd]at hx
   cases hx
   refine h9 ?_
   exact⟨_,rfl,d,rfl,k1 rfl⟩
  rw[iV]
  have e1:(ns.map λe=>V.int (e/2))=(ns.map (· / 2)).map V.int:=by rw[bu];rfl
  rw[e1]
  have s1:eQ H (upd H l1 (.lst ((ns.map (· / 2)).map V.int))):=eE n1
  refine⟨_,rfl,_,rfl,v,l,e,rfl,Da.same s1 hv,ok,λp H2 s2 hp hp2=>⟨p,rfl,⟨_,SqL.of hp2⟩,λl2 n2=>jU (jn l.2 e) (λt=> !decide (t/2∈ns.map (· / 2))) (λt=>V.int t) n2 (SqL.of hp2) (by rw[aa]) ?_ ?_ ?_⟩⟩
  ·rw[aa]
   refine fR ?_
   unfold jn
   rw[mj,ah]
   have:=nR ok e
   omega
  ·intro i x d H' hx hd sm P1 P0 k1 k0
   rw[ai,hd]at hx
   cases hx
   have hD:Da K H' (.list ((ns.map (· / 2)).map .int)) (.ref l1):=Da.same (s2.trans sm) (gP eG)
   refine⟨_,rfl,d,rfl,_,rfl,_,.int (d/2),hD,gw.mpr rfl,pU _,nN _,_,rfl,?_⟩
   rw[uz]
   exact fN (λh=>⟨_,rfl,k1 h⟩) (λh=>k0 (by simpa using h))
  exact k l2 _ ((s1.trans s2).trans (eE n2)) (eQ.free (s1.trans s2) n2) eG
theorem wg {f1 f2:Addr}{fd1 fd2:FuncData}(F:Fn K mg "moves_of" jI ["line","train"] f fd)(fO:Fn K mg "other_end" j4 ["end"] f1 fd1)(ie:Fn K mg "free_ends" jf ["line","train","end"] f2 fd2)
  (lH:fh P w K mg base CX0 2 f2 fd2 ["line","train","end"] (yw K)):fh P w K mg base CX0 3 f fd ["line","train"] (kL K):=by
 have lG:fh P w K mg base CX0 1 f1 fd1 ["end"] jq:=oY fO
 refine F.F.ok ly (λvs H Q E h=>?_) (λcdv A outer s H vs Q E hr h=>?_)
 ·obtain⟨v,u,l,ns,rfl,_⟩:=h;rfl
 ·obtain⟨v,u,l,ns,rfl,hv,hu,ok,hne,hz,k⟩:=h
  obtain⟨a,rfl,hS⟩:=gz.mp hu
  refine⟨_,(eJ (eY (i:=2) ly.nd rfl (Or.inl rfl) (fP eI))
 (eJ (gY aS rfl (fy (eU lH (hr.mono (by decide)) rfl ie.m ie.F.kp ie.b .nil fi (eD (pv 0) (eD (pv 1) (eD (eU lG (hr.mono (by decide)) rfl fO.m fO.F.kp fO.b .nil fi (eD (fE fK (pv 1) (nZ lI eK) (λ_ _=>rfl)) eI)) eI))))) (eT (i:=3) ly.nd rfl (Or.inl rfl))
 (eL (gH (ki aK aY aX gI (pv 2) (eD (fw (eD (fw (eD g8 (eD (pv 3) eI))) (eD (eV kX (kW ml (pv 1) (lz eK) mr) (fP (eD (pv 3) eI))) eI))) eI)))))
 (eJ (gY aS rfl (fy (eU lH (hr.mono (by decide)) rfl ie.m ie.F.kp ie.b .nil fi (eD (pv 0) (eD (pv 1) (eD (fE fK (pv 1) eK (λ_ _=>rfl)) eI))))) (eT (i:=3) ly.nd rfl (Or.inl rfl))
 (eL (gH (ki aK aY aX gI (pv 2) (eD (fw (eD (fw (eD g8 (eD (pv 3) eI))) (eD (eV kX (fP (eD (eU lG (hr.mono (by decide)) rfl fO.m fO.F.kp fO.b .nil fi (eD (pv 3) eI)) eI)) (kW ml (pv 1) mr (lz (nZ lI eK)))) eI))) eI)))))
 (eL (fm (pv 2)))))),?_⟩
  refine⟨aH _,λt ht=>?_⟩
  have s1:eQ H (upd H t (.lst [])):=eE ht
  refine⟨_,rfl,_,rfl,_,rfl,_,rfl,a,_,_,_,rfl,rfl,s1.seq hS,vG hne,_,rfl,v,_,l,ns,_,rfl,Da.same s1 hv,Da.same s1 hu,ok,by omega,λp H2 s2 hp hp2=>?_⟩
  have nt:p≠t:=(eM eG hp).symm
  have Kd:=ye ok ns (oth (ns.getLastD 0))
  have Ke:=ye ok ns (ns.headD 0)
  refine⟨p,rfl,⟨_,SqL.of hp2⟩,hE (K:=K) (a:=p) (xs:=(fr l ns (oth (ns.getLastD 0))).map V.int) (λi σ H3=>∃ (vs:List V) (x:Option V),σ = [some v,some (.ref a),some (.ref t),x]/\eQ H H3/\H3 p=some (.lst ((fr l ns (oth (ns.getLastD 0))).map V.int))/\H3 t=some (.lst vs)/\
    Dgs (Lf H H3 t) (SqT K H3) ((((fr l ns (oth (ns.getLastD 0))).take i).map (onM ns)).map dMv) vs)
   ⟨[],none,rfl,s1.trans s2,hp2,s2 _ _ eG,gh.mpr rfl⟩ (λi σ H3 _ ⟨_,_,_,_,h,_⟩=>SqL.of h) ?_ ?_⟩
  ·rintro i y σ H3 N R B kN _ hi ⟨vs,x,rfl,S3,hp3,ht3,D⟩
   rw[ai]at hi
   cases q:(fr l ns (oth (ns.getLastD 0)))[i]? with
   |none=>rw[q]at hi;cases hi
   |some e=>
    rw[q]at hi
    cases hi
    have hil:i<(fr l ns (oth (ns.getLastD 0))).length:=(ag.mp q).1
    refine⟨_,rfl,.inl ⟨rfl,_,SqL.of ht3⟩,_,rfl,by show 2<=sizeLine;decide,λp1 n1=>?_⟩
    refine⟨_,rfl,_,rfl,a,_,rfl,(S3.trans (eE n1)).seq hS,λp2 n2=>?_⟩
    refine⟨_,rfl,by show 1<=sizeLine;decide,λp3 n3=>?_⟩
    rw[o9]at n3 ⊢
    refine⟨p2,p3,_,_,rfl,rfl,by rw[eN (eM eG n3),eG],eG,?_,λp4 n4=>?_⟩
    ·refine bE (fR ?_)
     rw[aa,bA]
     show ns.length-1+1<=1000
     omega
    refine⟨by show 2<=sizeLine;decide,λp5 n5=>?_⟩
    have S5:eQ H3 _:=(eE n1).trans ((eE n2).trans ((eE n3).trans ((eE n4).trans (eE (o:=.tup [.ref p1,.ref p4]) n5))))
    have lv:vs.length<=60:=by rw[D.length,aa,aa,aN];omega
    refine⟨t,vs,_,rfl,rfl,S5 _ _ ht3,fR (by omega),?_⟩
    have g1:eQ (upd H3 p1 (.tup [.str "on",.int e])) _:=(eE n2).trans ((eE n3).trans ((eE n4).trans (eE (o:=.tup [.ref p1,.ref p4]) n5)))
    have:=nL (w:= "on") (e:=e) (xs:=ns.drop 1 ++ [e]) S3 ht ht3 D S5 (g1 _ _ eG) (eQ.free ((eE n1).trans ((eE n2).trans (eE n3))) n4) (by rw[eN (eM eG n5),eG,ar];rfl) eG
    obtain⟨r1,r2,r3⟩:=this
    refine kN _ _ ⟨_,_,rfl,r1,?_,r2,?_⟩
    ·rw[eN nt];exact S5 _ _ hp3
    ·rw[nY (onM ns) _ i e q];exact r3
  rintro σ H3 ⟨vs,x,rfl,S3,hp3,ht3,D⟩
  rw[aa,aW]at D
  refine⟨_,rfl,_,rfl,_,rfl,a,_,_,_,rfl,rfl,S3.seq hS,xn hne,v,_,l,ns,_,rfl,Da.same S3 hv,Da.same S3 hu,ok,by omega,λp' H4 s4 hp' hp4=>?_⟩
  have nt':p'≠t:=(eM ht3 hp').symm
  have D4:Dgs (Lf H H4 t) (SqT K H4) (((fr l ns (oth (ns.getLastD 0))).map (onM ns)).map dMv) vs:=Dgs.mono (λa us ⟨h1,h2,h3⟩=>⟨s4 _ _ h1,h2,h3⟩) (λa us h=>fq s4 h) D
  refine⟨p',rfl,⟨_,SqL.of hp4⟩,hE (K:=K) (a:=p') (xs:=(fr l ns (ns.headD 0)).map V.int) (λi σ H3=>∃ (vs:List V) (x:Option V),σ = [some v,some (.ref a),some (.ref t),x]/\eQ H H3/\H3 p'=some (.lst ((fr l ns (ns.headD 0)).map V.int))/\H3 t=some (.lst vs)/\
    Dgs (Lf H H3 t) (SqT K H3) (((fr l ns (oth (ns.getLastD 0))).map (onM ns)++((fr l ns (ns.headD 0)).take i).map (sI ns)).map dMv) vs)
   ⟨vs,x,rfl,S3.trans s4,hp4,s4 _ _ ht3,by simpa using D4⟩ (λi σ H3 _ ⟨_,_,_,_,h,_⟩=>SqL.of h) ?_ ?_⟩
  ·rintro i y σ H3 N R B kN _ hi ⟨vs,x,rfl,S3,hp3,ht3,D⟩
   rw[ai]at hi
   cases q:(fr l ns (ns.headD 0))[i]? with
   |none=>rw[q]at hi;cases hi
   |some e=>
    rw[q]at hi
    cases hi
    have hil:i<(fr l ns (ns.headD 0)).length:=(ag.mp q).1
    refine⟨_,rfl,.inl ⟨rfl,_,SqL.of ht3⟩,_,rfl,by show 2<=sizeLine;decide,λp1 n1=>?_⟩
    refine⟨_,rfl,e,rfl,by show 1<=sizeLine;decide,λp2 n2=>?_⟩
    refine⟨_,rfl,_,rfl,_,rfl,a,_,rfl,(S3.trans ((eE n1).trans (eE n2))).seq hS,λp3 n3=>?_⟩
    have ec:pf (ns.map V.int) none (some (-1))=ns.dropLast.map V.int:=sD ns
    refine⟨p2,p3,_,_,rfl,rfl,by rw[eN (eM eG n3),eG],eG,?_,λp4 n4=>?_⟩
    ·refine bE (fR ?_)
     show 1+(pf (ns.map V.int) none (some (-1))).length<=1000
     rw[ec,aa,cM]
     omega
    refine⟨by show 2<=sizeLine;decide,λp5 n5=>?_⟩
    have S5:eQ H3 _:=(eE n1).trans ((eE n2).trans ((eE n3).trans ((eE n4).trans (eE (o:=.tup [.ref p1,.ref p4]) n5))))
    have lv:vs.length<=120:=by rw[D.length,aa,ah,aa,aa,aN];omega
    refine⟨t,vs,_,rfl,rfl,S5 _ _ ht3,fR (by omega),?_⟩
    have g1:eQ (upd H3 p1 (.tup [.str "back",.int e])) _:=(eE n2).trans ((eE n3).trans ((eE n4).trans (eE (o:=.tup [.ref p1,.ref p4]) n5)))
    have:=nL (w:= "back") (e:=e) (xs:=oth e::ns.dropLast) S3 ht ht3 D S5 (g1 _ _ eG) (eQ.free ((eE n1).trans ((eE n2).trans (eE n3))) n4) (by
     rw[eN (eM eG n5),eG]
     show some (HO.lst ([V.int (oth e)]++pf (ns.map V.int) none (some (-1))))=_
     rw[ec];rfl) eG
    obtain⟨r1,r2,r3⟩:=this
    refine kN _ _ ⟨_,_,rfl,r1,?_,r2,?_⟩
    ·rw[eN nt'];exact S5 _ _ hp3
    ·rw[nY (sI ns) _ i e q,<-List.append_assoc];exact r3
  rintro σ H3 ⟨vs,x,rfl,S3,hp3,ht3,D⟩
  rw[aa,aW]at D
  exact⟨_,rfl,k t vs H3 S3 ht ht3 D⟩
theorem uW {f1 f2:Addr}{fd1 fd2:FuncData}(F:Fn K mg "_law_moves" jd ["_law_line_here","_law_train_here"] f fd)(eX:Fn K mg "_law_other" iq ["_law_end"] f1 fd1)(fo:Fn K mg "_law_joined" hX ["_law_line_here","_law_end"] f2 fd2)
  (B:Bl mg):fh P w K mg base CX0 2 f fd ["_law_line_here","_law_train_here"] (kL K):=by
 have gU:fh P w K mg base CX0 1 f1 fd1 ["_law_end"] jq:=jA eX
 have iX:fh P w K mg base CX0 1 f2 fd2 ["_law_line_here","_law_end"] (jG K):=lL fo B
 refine F.F.ok jt (λvs H Q E h=>?_) (λcdv A outer s H vs Q E hr h=>?_)
 ·obtain⟨v,u,l,ns,rfl,_⟩:=h;rfl
 ·obtain⟨v,u,l,ns,rfl,hv,hu,ok,hne,hz,k⟩:=h
  obtain⟨a,rfl,hS⟩:=gz.mp hu
  refine⟨_,(eJ (qv (i:=3) jt.nd rfl rfl (fy (pv 1)) rfl m8 (.name (by decide)) (λ_ _ _ _=>(eT (i:=0) m8.nd rfl (Or.inl rfl))) (λ_ _ _ _=>gj) (λ_ _ _ _=>(eV gu (pv 0) eK)))
 (eJ (eY (i:=4) jt.nd rfl (Or.inl rfl) (fP eI))
 (eJ (gY aS rfl (fy (eU iX (hr.mono (by decide)) rfl fo.m fo.F.kp fo.b .nil fi (eD (pv 0) (eD (eU gU (hr.mono (by decide)) rfl eX.m eX.F.kp eX.b .nil fi (eD (fE fK (pv 1) (nZ lI eK) (λ_ _=>rfl)) eI)) eI)))) (eT (i:=2) jt.nd rfl (Or.inl rfl))
 (eL (fQ (g7 (kE hr.units) (eV gu (pv 2) eK) (pv 3) (by with_unfolding_all rfl))
 (eL (gH (ki aK aY aX gI (pv 4) (eD (fw (eD (fw (eD g8 (eD (pv 2) eI))) (eD (eV kX (kW ml (pv 1) (lz eK) mr) (fP (eD (pv 2) eI))) eI))) eI)))) fk)))
 (eJ (gY aS rfl (fy (eU iX (hr.mono (by decide)) rfl fo.m fo.F.kp fo.b .nil fi (eD (pv 0) (eD (fE fK (pv 1) eK (λ_ _=>rfl)) eI)))) (eT (i:=2) jt.nd rfl (Or.inl rfl))
 (eL (fQ (g7 (kE hr.units) (eV gu (pv 2) eK) (pv 3) (by with_unfolding_all rfl))
 (eL (gH (ki aK aY aX gI (pv 4) (eD (fw (eD (fw (eD g8 (eD (pv 2) eI))) (eD (eV kX (fP (eD (eU gU (hr.mono (by decide)) rfl eX.m eX.F.kp eX.b .nil fi (eD (pv 2) eI)) eI)) (kW ml (pv 1) mr (lz (nZ lI eK)))) eI))) eI)))) fk)))
 (eL (fm (pv 4))))))),?_⟩
  refine⟨_,rfl,a,rfl,⟨_,hS⟩,λpc n0=>jU ns (λ_=>true) (λe=>V.int (e/2)) n0 hS (by rw[aa]) (by rw[aa];exact fR (by omega)) ?_ ?_⟩
  ·intro i x d H' hx hd sm P1 P0 k1 k0
   rw[ai,hd]at hx
   cases hx
   refine h9 ?_
   exact⟨_,rfl,_,_,rfl,rfl,⟨by decide,by decide⟩,k1 rfl⟩
  rw[iV]
  have e1:(ns.map λe=>V.int (e/2))=(ns.map (· / 2)).map V.int:=by rw[bu];rfl
  rw[e1]
  have s0:eQ H (upd H pc (.lst ((ns.map (· / 2)).map V.int))):=eE n0
  have hpc:(upd H pc (.lst ((ns.map (· / 2)).map V.int))) pc=some (.lst ((ns.map (· / 2)).map V.int)):=eG
  generalize hH0:upd H pc (.lst ((ns.map (· / 2)).map V.int))=H0 at s0 hpc
  refine⟨aH _,λt ht=>?_⟩
  have s1:eQ H0 (upd H0 t (.lst [])):=eE ht
  have S1:eQ H (upd H0 t (.lst [])):=s0.trans s1
  refine⟨_,rfl,_,rfl,_,rfl,a,_,_,_,rfl,rfl,S1.seq hS,vG hne,_,rfl,v,l,_,rfl,Da.same S1 hv,ok,λp H2 s2 hp hp2=>?_⟩
  have nt:p≠t:=(eM eG hp).symm
  have Kd:=xV ok (oth (ns.getLastD 0))
  have Ke:=xV ok (ns.headD 0)
  refine⟨p,rfl,⟨_,SqL.of hp2⟩,hE (K:=K) (a:=p) (xs:=(jn l.2 (oth (ns.getLastD 0))).map V.int) (λi σ H3=>∃ (vs:List V) (x:Option V),σ = [some v,some (.ref a),x,some (.ref pc),some (.ref t)]/\eQ H0 H3/\H3 p=some (.lst ((jn l.2 (oth (ns.getLastD 0))).map V.int))/\H3 t=some (.lst vs)/\
    Dgs (Lf H0 H3 t) (SqT K H3) (((((jn l.2 (oth (ns.getLastD 0))).take i).filter λt=> !decide (t/2∈ns.map (· / 2))).map (onM ns)).map dMv) vs)
   ⟨[],none,rfl,s1.trans s2,hp2,s2 _ _ eG,gh.mpr rfl⟩ (λi σ H3 _ ⟨_,_,_,_,h,_⟩=>SqL.of h) ?_ ?_⟩
  ·rintro i y σ H3 N R B kN _ hi ⟨vs,x,rfl,S3,hp3,ht3,D⟩
   rw[ai]at hi
   cases q:(jn l.2 (oth (ns.getLastD 0)))[i]? with
   |none=>rw[q]at hi;cases hi
   |some e=>
    rw[q]at hi
    cases hi
    have hil:i<(jn l.2 (oth (ns.getLastD 0))).length:=(ag.mp q).1
    have st:=take_succ_filter (λt=> !decide (t/2∈ns.map (· / 2))) _ i e q
    refine⟨_,rfl,_,_,rfl,rfl,⟨by decide,by decide⟩,_,rfl,_,.int (e/2),gP (S3 _ _ hpc),gw.mpr rfl,pU _,nN _,_,rfl,?_⟩
    rw[uz]
    refine fN (c:=(!decide (e/2∈ns.map (· / 2)))=true) (λhc=>?_) (λhc=>?_)
    ·refine⟨_,rfl,.inl ⟨rfl,_,SqL.of ht3⟩,_,rfl,by show 2<=sizeLine;decide,λp1 n1=>?_⟩
     refine⟨_,rfl,_,rfl,a,_,rfl,((s0.trans S3).trans (eE n1)).seq hS,λp2 n2=>?_⟩
     refine⟨_,rfl,by show 1<=sizeLine;decide,λp3 n3=>?_⟩
     rw[o9]at n3 ⊢
     refine⟨p2,p3,_,_,rfl,rfl,by rw[eN (eM eG n3),eG],eG,?_,λp4 n4=>?_⟩
     ·refine bE (fR ?_)
      rw[aa,bA]
      show ns.length-1+1<=1000
      omega
     refine⟨by show 2<=sizeLine;decide,λp5 n5=>?_⟩
     have S5:eQ H3 _:=(eE n1).trans ((eE n2).trans ((eE n3).trans ((eE n4).trans (eE (o:=.tup [.ref p1,.ref p4]) n5))))
     have lv:vs.length<=60:=by
      rw[D.length,aa,aa]
      refine bj (bN _ _) ?_
      rw[aN];omega
     refine⟨t,vs,_,rfl,rfl,S5 _ _ ht3,fR (by omega),?_⟩
     have g1:eQ (upd H3 p1 (.tup [.str "on",.int e])) _:=(eE n2).trans ((eE n3).trans ((eE n4).trans (eE (o:=.tup [.ref p1,.ref p4]) n5)))
     obtain⟨r1,r2,r3⟩:=nL (w:= "on") (e:=e) (xs:=ns.drop 1 ++ [e]) S3 ht ht3 D S5 (g1 _ _ eG) (eQ.free ((eE n1).trans ((eE n2).trans (eE n3))) n4) (by rw[eN (eM eG n5),eG,ar];rfl) eG
     refine kN _ _ ⟨_,_,rfl,r1,?_,r2,?_⟩
     ·rw[eN nt];exact S5 _ _ hp3
     ·rw[st,aJ hc,ar];exact r3
    ·refine kN _ _ ⟨vs,_,rfl,S3,hp3,ht3,?_⟩
     rw[st,aF hc,cY];exact D
  rintro σ H3 ⟨vs,x,rfl,S3,hp3,ht3,D⟩
  rw[aa,aW]at D
  refine⟨_,rfl,_,rfl,a,_,_,_,rfl,rfl,(s0.trans S3).seq hS,xn hne,v,l,_,rfl,Da.same (s0.trans S3) hv,ok,λp' H4 s4 hp' hp4=>?_⟩
  have nt':p'≠t:=(eM ht3 hp').symm
  have D4:Dgs (Lf H0 H4 t) (SqT K H4) (((fr l ns (oth (ns.getLastD 0))).map (onM ns)).map dMv) vs:=Dgs.mono (λa us ⟨h1,h2,h3⟩=>⟨s4 _ _ h1,h2,h3⟩) (λa us h=>fq s4 h) D
  have Nd:=ye ok ns (oth (ns.getLastD 0))
  refine⟨p',rfl,⟨_,SqL.of hp4⟩,hE (K:=K) (a:=p') (xs:=(jn l.2 (ns.headD 0)).map V.int) (λi σ H3=>∃ (vs:List V) (x:Option V),σ = [some v,some (.ref a),x,some (.ref pc),some (.ref t)]/\eQ H0 H3/\H3 p'=some (.lst ((jn l.2 (ns.headD 0)).map V.int))/\H3 t=some (.lst vs)/\
    Dgs (Lf H0 H3 t) (SqT K H3) (((fr l ns (oth (ns.getLastD 0))).map (onM ns)++(((jn l.2 (ns.headD 0)).take i).filter λt=> !decide (t/2∈ns.map (· / 2))).map (sI ns)).map dMv) vs)
   ⟨vs,x,rfl,S3.trans s4,hp4,s4 _ _ ht3,by simpa using D4⟩ (λi σ H3 _ ⟨_,_,_,_,h,_⟩=>SqL.of h) ?_ ?_⟩
  ·rintro i y σ H3 N R B kN _ hi ⟨vs,x,rfl,S3,hp3,ht3,D⟩
   rw[ai]at hi
   cases q:(jn l.2 (ns.headD 0))[i]? with
   |none=>rw[q]at hi;cases hi
   |some e=>
    rw[q]at hi
    cases hi
    have hil:i<(jn l.2 (ns.headD 0)).length:=(ag.mp q).1
    have st:=take_succ_filter (λt=> !decide (t/2∈ns.map (· / 2))) _ i e q
    refine⟨_,rfl,_,_,rfl,rfl,⟨by decide,by decide⟩,_,rfl,_,.int (e/2),gP (S3 _ _ hpc),gw.mpr rfl,pU _,nN _,_,rfl,?_⟩
    rw[uz]
    refine fN (c:=(!decide (e/2∈ns.map (· / 2)))=true) (λhc=>?_) (λhc=>?_)
    ·refine⟨_,rfl,.inl ⟨rfl,_,SqL.of ht3⟩,_,rfl,by show 2<=sizeLine;decide,λp1 n1=>?_⟩
     refine⟨_,rfl,e,rfl,by show 1<=sizeLine;decide,λp2 n2=>?_⟩
     refine⟨_,rfl,_,rfl,_,rfl,a,_,rfl,((s0.trans S3).trans ((eE n1).trans (eE n2))).seq hS,λp3 n3=>?_⟩
     have ec:pf (ns.map V.int) none (some (-1))=ns.dropLast.map V.int:=sD ns
     refine⟨p2,p3,_,_,rfl,rfl,by rw[eN (eM eG n3),eG],eG,?_,λp4 n4=>?_⟩
     ·refine bE (fR ?_)
      show 1+(pf (ns.map V.int) none (some (-1))).length<=1000
      rw[ec,aa,cM]
      omega
     refine⟨by show 2<=sizeLine;decide,λp5 n5=>?_⟩
     have S5:eQ H3 _:=(eE n1).trans ((eE n2).trans ((eE n3).trans ((eE n4).trans (eE (o:=.tup [.ref p1,.ref p4]) n5))))
     have lv:vs.length<=120:=by
      rw[D.length,aa,ah,aa,aa]
      have:=bN (λt=> !decide (t/2∈ns.map (· / 2))) ((jn l.2 (ns.headD 0)).take i)
      rw[aN]at this
      omega
     refine⟨t,vs,_,rfl,rfl,S5 _ _ ht3,fR (by omega),?_⟩
     have g1:eQ (upd H3 p1 (.tup [.str "back",.int e])) _:=(eE n2).trans ((eE n3).trans ((eE n4).trans (eE (o:=.tup [.ref p1,.ref p4]) n5)))
     obtain⟨r1,r2,r3⟩:=nL (w:= "back") (e:=e) (xs:=oth e::ns.dropLast) S3 ht ht3 D S5 (g1 _ _ eG) (eQ.free ((eE n1).trans ((eE n2).trans (eE n3))) n4) (by
      rw[eN (eM eG n5),eG]
      show some (HO.lst ([V.int (oth e)]++pf (ns.map V.int) none (some (-1))))=_
      rw[ec];rfl) eG
     refine kN _ _ ⟨_,_,rfl,r1,?_,r2,?_⟩
     ·rw[eN nt'];exact S5 _ _ hp3
     ·rw[st,aJ hc,ar (f:=sI ns),<-List.append_assoc];exact r3
    ·refine kN _ _ ⟨vs,_,rfl,S3,hp3,ht3,?_⟩
     rw[st,aF hc,cY];exact D
  rintro σ H3 ⟨vs,x,rfl,S3,hp3,ht3,D⟩
  rw[aa,aW]at D
  exact⟨_,rfl,k t vs H3 (s0.trans S3) (eQ.free s0 ht) ht3 (Dgs.mono (λa us ⟨h1,h2,h3⟩=>⟨h1,eQ.free s0 h2,h3⟩) (λ_ _ h=>h) D)⟩
end
theorem jQ {n:Nat}(h:n<=1000):n<sizeLine:=bQ h (by decide)
def xA (K:PySem.W.Frag):Sp:=λvs H Q _=>∃ n m:Int,vs = [.int n,.int m]/\0<=m/\m<=300/\∀ (p:Addr) (ns:List Int) (H':Hp),eQ H H'->H p=none->H' p=some (.lst (ns.map V.int))->(ns.length:Int)=m->(∀ x∈ns,0<=x/\x<m)->ns.Nodup->Q (.ref p) H'
def rk (K:PySem.W.Frag):Sp:=λvs H Q _=>∃ (v:V) (l:Ln) (c:Int),vs = [v,.int c]/\Da K H (dL l) v/\pF l/\∀ (v':V) (js':List (Int×Int)) (nm es:List Int) (H':Hp),eQ H H'->Da K H' (dL (l.1,js')) v'->Ren l.1 nm es->js'.Perm (l.2.map (rj es))->Q v' H'
abbrev ij:Stmt:=top 32
theorem iO:fu ["_law_number","_law_many","_law_told","_law_k"] ["_law_number","_law_many"] (eS ij):=⟨rfl,rfl,rfl,by decide +kernel,rfl,by decide +kernel,by decide +kernel⟩
abbrev jR:Stmt:=top 36
theorem fF:fu ["_law_line_here","_law_cell","_law_many","_law_joints","_law_names","_law_ends","_law_piece","_law_flip","_law_made","_law_k","_law_a","_law_b","_law_joint"] ["_law_line_here","_law_cell"] (eS jR):=⟨rfl,rfl,rfl,by decide +kernel,rfl,by decide +kernel,by decide +kernel⟩
section
variable {P:Program}{w:World}{K:PySem.W.Frag}{mg:Str->Option Value}{base:Heap}{f:Addr}{fd:FuncData}
theorem lA (F:Fn K mg "_law_turned_row" ij ["_law_number","_law_many"] f fd)(B:Bl mg):fh P w K mg base CX0 1 f fd ["_law_number","_law_many"] (xA K):=by
 refine F.F.ok iO (λvs H Q E h=>?_) (λcdv A outer s H vs Q E hr h=>?_)
 ·obtain⟨n,m,rfl,_⟩:=h;rfl
 ·obtain⟨n,m,rfl,h0,h1,k⟩:=h
  refine⟨_,(eJ (eY (i:=2) iO.nd rfl (Or.inl rfl) (fP eI))
 (eJ (gY aS rfl (kD rfl B.range (eD (pv 1) eI)) (eT (i:=3) iO.nd rfl (Or.inl rfl))
 (eJ (gH (ki aK ef PySem.F.type_list_insert t7 (pv 2) (eD (eV fI (pv 0) (eV gO (pv 3) eK)) (eD (pv 3) eI))))
 (eL (eY (i:=0) iO.nd rfl (Or.inl rfl) (eV gu (pv 0) (eV gO (pv 3) eK))))))
 (eL (fm (pv 2))))),?_⟩
  refine⟨aH _,λt ht=>?_⟩
  refine⟨_,rfl,m,rfl,by omega,by omega,nQ (λi σ H3=>∃ (n:Int) (ns:List Int) (x:Option V),σ = [some (.int n),some (.int m),some (.ref t),x]/\H3=upd H t (.lst (ns.map V.int))/\ns.length=i/\(∀ x∈ns,0<=x/\x<(i:Int))/\ns.Nodup)
   ⟨n,[],none,rfl,rfl,rfl,λx hx=>(nomatch hx),b6⟩ ?_ ?_⟩
  ·rintro i σ H3 hi ⟨n,ns,x,rfl,rfl,hlen,hb,hnd⟩
   have i0:(0:Int)+(i:Nat)=(i:Int):=by omega
   rw[i0]
   have r0:0<=n%((i:Int)+1):=cf _ (by omega)
   have r1:n%((i:Int)+1)<(i:Int)+1:=bR _ (by omega)
   refine⟨_,rfl,.inl ⟨rfl,_,SqL.of eG⟩,_,rfl,_,rfl,_,_,rfl,rfl,_,_,rfl,rfl,(by show(0:Int)<(i:Int)+1;omega),_,rfl,t,_,_,_,rfl,rfl,eG,r0,?_,?_,?_⟩
   ·show n%((i:Int)+1)<=((ns.map V.int).length:Int)
    rw[aa,hlen];omega
   ·rw[aa,hlen];exact jQ (by omega)
   refine⟨_,rfl,_,rfl,_,_,rfl,rfl,_,_,rfl,rfl,⟨by show(0:Int)<(i:Int)+1;omega,by show(i:Int)+1<1073741824;omega⟩,?_⟩
   have pm:=v9 ns (n%((i:Int)+1)).toNat (i:Int)
   refine⟨_,ns.take (n%((i:Int)+1)).toNat++(i:Int)::ns.drop (n%((i:Int)+1)).toNat,_,rfl,?_,?_,?_,?_⟩
   ·rw[oK,ar,aR,List.map_take,dB]
   ·rw[pm.length_eq,aO,hlen]
   ·intro x hx
    rcases aG.mp (pm.mem_iff.mp hx)with z |z
    ·omega
    ·have:=hb x z;omega
   ·refine pm.nodup_iff.mpr (bq.mpr ⟨λz=>?_,hnd⟩)
    have:=(hb _ z).2
    omega
  ·rintro σ H3 ⟨n,ns,x,rfl,rfl,hlen,hb,hnd⟩
   exact⟨_,rfl,k t ns _ (eE ht) ht eG (by omega) (λx hx=>by have:=hb x hx;omega) hnd⟩
end
section
variable {P:Program}{w:World}{K:PySem.W.Frag}{mg:Str->Option Value}{base:Heap}{f:Addr}{fd:FuncData}
theorem rP {f1 f2:Addr}{fd1 fd2:FuncData}(F:Fn K mg "_law_renamed" jR ["_law_line_here","_law_cell"] f fd)(eR:Fn K mg "_law_mix" je ["_law_cell","_law_k"] f1 fd1)(fz:Fn K mg "_law_turned_row" ij ["_law_number","_law_many"] f2 fd2)
  (B:Bl mg):fh P w K mg base CX0 2 f fd ["_law_line_here","_law_cell"] (rk K):=by
 have fJ:fh P w K mg base CX0 1 f1 fd1 ["_law_cell","_law_k"] pL:=kY eR B
 have jK:fh P w K mg base CX0 1 f2 fd2 ["_law_number","_law_many"] (xA K):=lA fz B
 refine F.F.ok fF (λvs H Q E h=>?_) (λcdv A outer s H vs Q E hr h=>?_)
 ·obtain⟨v,l,c,rfl,_⟩:=h;rfl
 ·obtain⟨v,⟨m,js⟩,c,rfl,hv,G,k⟩:=h
  have h1:1<=m:=G.one
  have h14:m<=14:=G.most
  have h40:m<=40:=by omega
  have hjl:js.length<=24:=G.len
  obtain⟨a,b,rfl,ht,us,hl,hq⟩:=kA hv
  dsimp only at ht hq k
  refine⟨_,(eJ (kU (pv 0) (gN (n:=2) rfl (eW (eT (i:=2) fF.nd rfl (Or.inl rfl)) (eW (eT (i:=3) fF.nd rfl (Or.inl rfl)) fZ))))
 (eJ (eY (i:=4) fF.nd rfl (Or.inl rfl) (eU jK (hr.mono (by decide)) rfl fz.m fz.F.kp fz.b .nil fi (eD (eU fJ (hr.mono (by decide)) rfl eR.m eR.F.kp eR.b .nil fi (eD (pv 1) (eD eK eI))) (eD (pv 2) eI))))
 (eJ (eY (i:=5) fF.nd rfl (Or.inl rfl) (fP eI))
 (eJ (gY aS rfl (kD rfl B.range (eD (pv 2) eI)) (eT (i:=6) fF.nd rfl (Or.inl rfl))
 (eJ (eY (i:=7) fF.nd rfl (Or.inl rfl) (eV fI (eU fJ (hr.mono (by decide)) rfl eR.m eR.F.kp eR.b .nil fi (eD (pv 1) (eD (eV gO eK (pv 6)) eI))) eK))
 (eL (eY (i:=5) fF.nd rfl (Or.inl rfl) (eV kX (pv 5) (fP (eD (eV gO (eV ix eK (fE fK (pv 4) (pv 6) (λ_ _=>rfl))) (pv 7)) (eD (eV mx (eV gO (eV ix eK (fE fK (pv 4) (pv 6) (λ_ _=>rfl))) eK) (pv 7)) eI))))))))
 (eJ (eY (i:=8) fF.nd rfl (Or.inl rfl) (fP eI))
 (eJ (gY aS rfl (CB rfl B.enumerate (eD (pv 3) eI)) (gN (n:=2) rfl (eW (eT (i:=9) fF.nd rfl (Or.inl rfl)) (eW (gN (n:=2) rfl (eW (eT (i:=10) fF.nd rfl (Or.inl rfl)) (eW (eT (i:=11) fF.nd rfl (Or.inl rfl)) fZ))) fZ)))
 (eJ (eY (i:=12) fF.nd rfl (Or.inl rfl) (fw (eD (fc (p8 rfl) rfl B.min boot_min (eD (fE fK (pv 5) (pv 10) (λ_ _=>rfl)) (eD (fE fK (pv 5) (pv 11) (λ_ _=>rfl)) eI))) (eD (fc (qc rfl) rfl B.max boot_max (eD (fE fK (pv 5) (pv 10) (λ_ _=>rfl)) (eD (fE fK (pv 5) (pv 11) (λ_ _=>rfl)) eI))) eI))))
 (eL (gH (ki aK ef PySem.F.type_list_insert t7 (pv 8) (eD (eV fI (eU fJ (hr.mono (by decide)) rfl eR.m eR.F.kp eR.b .nil fi (eD (pv 1) (eD (eV gO eK (pv 9)) eI))) (eV gO (pv 9) eK)) (eD (pv 12) eI)))))))
 (eL (fm (fw (eD (pv 2) (eD (pv 8) eI))))))))))),nm3 λR1 hR1=>?_⟩
  refine⟨_,rfl,a,_,rfl,ht,rfl,_,_,rfl,_,_,rfl,rfl,?_⟩
  refine⟨_,rfl,c,0,rfl,by decide,by decide,λn n0 n1=>⟨_,rfl,n,m,rfl,by omega,by omega,λpn nm H1 s1 hn1 hn2 J9 nb nnd=>?_⟩⟩
  refine⟨aH _,λq0 nq0=>?_⟩
  refine hR1 _ _ _ (nm2 λR2 hR2=>?_)
  refine⟨_,rfl,m,rfl,by omega,by omega,my (λi σ H3=>∃ (q:Addr) (es:List Int) (x6 x7:Option V),σ = [some (.ref a),some (.int c),some (.int m),some (.ref b),some (.ref pn),some (.ref q),x6,x7,none,none,none,none,none]/\eQ H1 H3/\H3 q=some (.lst (es.map V.int))/\es.length=2*i/\(∀ j,j<i->∃ f:Int,(f=0\/f=1)/\es[2*j]? = some (2*nm.getD j 0+f)/\es[2*j+1]? = some (2*nm.getD j 0+1-f)))
   ⟨q0,[],none,none,rfl,eE nq0,eG,rfl,λj hj=>absurd hj (Nat.not_lt_zero j)⟩ ?_ ?_⟩
  ·rintro i σ H3 N R B kN _ hi ⟨q,es,x6,x7,rfl,S3,hq3,Aj,eb⟩
   have i0:(0:Int)+(i:Nat)=(i:Int):=by omega
   rw[i0]
   obtain⟨nx,hnx,pZ,hat⟩:=vH (ns:=nm) (i:=(i:Int)) (by omega) (by omega)
   have nbx:=nb nx pZ
   have hSn:SqL K H3 pn (nm.map V.int):=SqL.of (S3 _ _ hn2)
   refine⟨_,rfl,_,rfl,_,_,rfl,rfl,c,_,rfl,by show(0:Int)<=20+i;omega,by show 20+(i:Int)<=1000;omega,λn n0 n1=>⟨_,_,rfl,rfl,(by show(0:Int)<_;decide),?_⟩⟩
   refine⟨_,rfl,_,rfl,_,rfl,pn,_,_,_,rfl,rfl,hSn,hat,_,_,rfl,rfl,.inl ⟨by decide,by decide⟩,_,rfl,_,_,rfl,rfl,_,rfl,_,rfl,pn,_,_,_,rfl,rfl,hSn,hat,_,_,rfl,rfl,.inl ⟨by decide,by decide⟩,_,_,rfl,rfl,_,rfl,_,_,rfl,rfl,by show 2<=sizeLine;decide,λq1 nq1=>?_⟩
   refine⟨q,q1,_,_,rfl,rfl,by rw[eN (eM hq3 nq1)];exact hq3,eG,?_,λq2 nq2=>?_⟩
   ·refine bE (jQ ?_)
    rw[aa,Aj]
    show 2*i+2<=1000
    omega
   refine kN _ _ ⟨q2,es ++ [2*nx+n%2,2*nx+1-n%2],_,_,rfl,S3.trans ((eE nq1).trans (eE nq2)),?_,?_,?_⟩
   ·rw[eG,ar];rfl
   ·rw[ah,Aj];show 2*i+2=_;omega
   ·intro j hj
    have Gz:nm.getD i 0=nx:=by rw[aE,show i=((i:Int)).toNat by omega,hnx];rfl
    rcases eh.mp hj with z |z
    ·obtain⟨f,hf,e1,e2⟩:=eb j z
     exact⟨f,hf,by rw[aq (by omega)];exact e1,by rw[aq (by omega)];exact e2⟩
    ·subst z
     refine⟨n%2,by omega,?_,?_⟩
     ·rw[az (by omega),Aj,br,Gz];rfl
     ·rw[az (by omega),Aj,show 2*j+1-2*j=1 by omega,Gz];rfl
  rintro σ H3 ⟨q,es,x6,x7,rfl,S3,hq3,Aj,eb⟩
  have R:Ren m nm es:=⟨J9,nb,nnd,by omega,λj hj=>eb j (by omega)⟩
  refine⟨aH _,λt nt=>?_⟩
  have hl3:SqL K H3 b us:=(s1.trans S3).seq hl
  have hq4:Das K H3 (js.map dP) us:=Das.same (s1.trans S3) hq
  have hul:us.length=js.length:=by rw[Dgs.length hq,aa]
  refine hR2 _ _ _ ?_
  refine⟨_,rfl,b,rfl,⟨us,(eE nt).seq hl3⟩,Ag (K:=K) (a:=b) (xs:=us) (λi σ H4=>∃ (vs:List V) (js':List (Int×Int)) (x9 x10 x11 x12:Option V),σ = [some (.ref a),some (.int c),some (.int m),some (.ref b),some (.ref pn),some (.ref q),x6,x7,some (.ref t),x9,x10,x11,x12]/\eQ H3 H4/\H4 t=some (.lst vs)/\Ps K H4 js' vs/\js'.length=i/\js'.Perm ((js.take i).map (rj es)))
   ⟨[],[],none,none,none,none,rfl,eE nt,eG,gh.mpr rfl,rfl,.refl _⟩ (λi σ H4 _ ⟨_,_,_,_,_,_,_,S4,_⟩=>S4.seq hl3) ?_ ?_⟩
  ·rintro i x σ H4 p0 N R B kN _ hi ⟨vs,js',x9,x10,x11,x12,rfl,S4,ht4,D,EA,jb⟩ n0
   have hil:i<us.length:=(ag.mp hi).1
   have S5:eQ H3 (upd H4 p0 (.tup [.int i,x])):=S4.trans (eE n0)
   obtain⟨ad,⟨ea,eb'⟩,e1,rfl,hpr⟩:=mZ (Das.same S5 hq4) hi
   dsimp only at hpr
   have hbd:=G.ok (ea,eb') (aw e1)
   unfold okJ at hbd
   dsimp only at hbd
   obtain⟨xa,ga,ma,GS⟩:=vH (ns:=es) (i:=ea) hbd.1.1 (by omega)
   obtain⟨xb,gb,mb,GR⟩:=vH (ns:=es) (i:=eb') hbd.2.1.1 (by omega)
   have hrj:rj es (ea,eb')=(min xa xb,max xa xb):=by
    unfold rj rho
    dsimp only
    rw[aE,aE,ga,gb];rfl
   refine⟨p0,_,rfl,SqT.of eG,rfl,_,_,rfl,_,_,rfl,ad,_,rfl,hpr,rfl,_,_,rfl,_,_,rfl,rfl,rfl,?_⟩
   have hSe:SqL K (upd H4 p0 (.tup [.int i,.ref ad])) q (es.map V.int):=SqL.of (S5 _ _ hq3)
   refine⟨_,rfl,_,rfl,q,_,_,_,rfl,rfl,hSe,GS,_,rfl,_,rfl,q,_,_,_,rfl,rfl,hSe,GR,_,_,rfl,?_⟩
   refine⟨_,rfl,_,rfl,q,_,_,_,rfl,rfl,hSe,GS,_,rfl,_,rfl,q,_,_,_,rfl,rfl,hSe,GR,_,_,rfl,by show 2<=sizeLine;decide,λp1 n1=>?_⟩
   rw[xQ,xR]
   have ht5:(upd (upd H4 p0 (.tup [.int i,.ref ad])) p1 (.tup [.int (min xa xb),.int (max xa xb)])) t=some (.lst vs):=((eE n0).trans (eE n1)) _ _ ht4
   have vl:vs.length=i:=by rw[D.len,EA]
   refine⟨_,rfl,.inl ⟨rfl,_,SqL.of ht5⟩,_,rfl,_,rfl,_,_,rfl,rfl,c,_,rfl,by show(0:Int)<=40+i;omega,by show 40+(i:Int)<=1000;omega,λn n0' n1'=>⟨_,rfl,_,_,rfl,rfl,_,_,rfl,rfl,(by show(0:Int)<(i:Int)+1;omega),_,rfl,t,vs,_,_,rfl,rfl,ht5,?_,?_,jQ (by omega),?_⟩⟩
   ·exact cf _ (by omega)
   ·have:=bR n (show(0:Int)<(i:Int)+1 by omega)
    show n%((i:Int)+1)<=(vs.length:Int)
    omega
   have pm:=v9 js' (n%((i:Int)+1)).toNat (min xa xb,max xa xb)
   refine kN _ _ ⟨_,js'.take (n%((i:Int)+1)).toNat++(min xa xb,max xa xb)::js'.drop (n%((i:Int)+1)).toNat,_,_,_,_,rfl,eQ.upd (S4.trans ((eE n0).trans (eE n1))) nt,eG,?_,?_,?_⟩
   ·exact Ps.ins (x:=(min xa xb,max xa xb)) _ (D.same ((eE n0).trans (eE n1))) ht5 eG
   ·rw[pm.length_eq,aO,EA]
   ·rw[aV,e1,ar]
    refine pm.trans ?_
    show((min xa xb,max xa xb)::js').Perm ((js.take i).map (rj es) ++ [rj es (ea,eb')])
    rw[hrj]
    exact(jb.cons _).trans (List.perm_append_singleton _ _).symm
  rintro σ H4 ⟨vs,js',x9,x10,x11,x12,rfl,S4,ht4,D,EA,jb⟩
  refine⟨_,rfl,_,rfl,by show 2<=sizeLine;decide,λp np=>?_⟩
  have S5:=(eE (o:=.tup [.int m,.ref t]) np)
  rw[hul,aW]at jb
  exact k _ js' nm es _ (s1.trans (S3.trans (S4.trans S5))) (um eG ((D.same S5).da (S5 _ _ ht4))) R jb
end
def yr (K:PySem.W.Frag):Sp:=λvs H Q _=>∃ (a:Addr) (ns:List Int),vs = [.ref a]/\SqL K H a (ns.map V.int)/\M6 K H Q
abbrev mm:Stmt:=top 35
theorem gR:fu ["_law_script","_law_cell","_law_many","_law_joints","_law_k","_law_number","_law_one","_law_other_here"] ["_law_script"] (eS mm):=⟨rfl,rfl,rfl,by decide +kernel,rfl,by decide +kernel,by decide +kernel⟩
section
variable {P:Program}{w:World}{K:PySem.W.Frag}{mg:Str->Option Value}{base:Heap}{f:Addr}{fd:FuncData}
theorem wj {f1 f2 f3 f4:Addr}{fd1 fd2 fd3 fd4:FuncData}(F:Fn K mg "_law_line" mm ["_law_script"] f fd)(eR:Fn K mg "_law_mix" je ["_law_cell","_law_k"] f1 fd1)(eO:Fn K mg "_law_cell_at" iI ["_law_script","_law_k"] f2 fd2)
  (eX:Fn K mg "_law_other" iq ["_law_end"] f3 fd3) (iL:Fn K mg "_law_renamed" jR ["_law_line_here","_law_cell"] f4 fd4) (lN:fh P w K mg base CX0 2 f4 fd4 ["_law_line_here","_law_cell"] (rk K))
  (B:Bl mg):fh P w K mg base CX0 3 f fd ["_law_script"] (yr K):=by
 have fJ:fh P w K mg base CX0 1 f1 fd1 ["_law_cell","_law_k"] pL:=kY eR B
 have fH:fh P w K mg base CX0 1 f2 fd2 ["_law_script","_law_k"] (qL K):=kZ eO B
 have gU:fh P w K mg base CX0 1 f3 fd3 ["_law_end"] jq:=jA eX
 refine F.F.ok gR (λvs H Q E h=>?_) (λcdv A outer s H vs Q E hr h=>?_)
 ·obtain⟨a,ns,rfl,_⟩:=h;rfl
 ·obtain⟨a,ns,rfl,hS,k⟩:=h
  refine⟨_,(eJ (eY (i:=1) gR.nd rfl (Or.inl rfl) (eU fH (hr.mono (by decide)) rfl eO.m eO.F.kp eO.b .nil fi (eD (pv 0) (eD eK eI))))
 (eJ (eY (i:=2) gR.nd rfl (Or.inl rfl) (eV gO eK (eV fI (eU fJ (hr.mono (by decide)) rfl eR.m eR.F.kp eR.b .nil fi (eD (pv 1) (eD eK eI))) eK)))
 (eJ (fQ (ft (iT (eV fI (eU fJ (hr.mono (by decide)) rfl eR.m eR.F.kp eR.b .nil fi (eD (pv 1) (eD eK eI))) eK) eK))
 (eL (eY (i:=2) gR.nd rfl (Or.inl rfl) (eV gO eK (eV fI (eU fJ (hr.mono (by decide)) rfl eR.m eR.F.kp eR.b .nil fi (eD (pv 1) (eD eK eI))) eK)))) fk)
 (eJ (eY (i:=3) gR.nd rfl (Or.inl rfl) (fP eI))
 (eJ (gY aS rfl (kD rfl B.range (eD (eV fI (eU fJ (hr.mono (by decide)) rfl eR.m eR.F.kp eR.b .nil fi (eD (pv 1) (eD eK eI))) (eV gO (eV ix eK (pv 2)) eK)) eI)) (eT (i:=4) gR.nd rfl (Or.inl rfl))
 (eJ (eY (i:=5) gR.nd rfl (Or.inl rfl) (eU fJ (hr.mono (by decide)) rfl eR.m eR.F.kp eR.b .nil fi (eD (eU fH (hr.mono (by decide)) rfl eO.m eO.F.kp eO.b .nil fi (eD (pv 0) (eD (eV gO eK (eV fI (pv 4) eK)) eI))) (eD (eV gO eK (pv 4)) eI))))
 (eJ (eY (i:=6) gR.nd rfl (Or.inl rfl) (eV fI (pv 5) (eV ix eK (pv 2))))
 (eJ (eY (i:=7) gR.nd rfl (Or.inl rfl) (eV fI (eV gu (pv 5) eK) (eV ix eK (pv 2))))
 (eJ (fQ (PW.pt (mM (ft (iT (eV fI (eU fJ (hr.mono (by decide)) rfl eR.m eR.F.kp eR.b .nil fi (eD (pv 1) (eD eK eI))) eK) eK)) (mq (ft (iT (eV fI (pv 6) eK) (eV fI (pv 7) eK))))))
 (eL (eY (i:=7) gR.nd rfl (Or.inl rfl) (eU gU (hr.mono (by decide)) rfl eX.m eX.F.kp eX.b .nil fi (eD (pv 7) eI)))) fk)
 (eL (fQ (PW.pt (mM (ft (ox (eV gu (pv 6) eK) (eV gu (pv 7) eK))) (mM (g7 (kE hr.units) (fw (eD (fc (p8 rfl) rfl B.min boot_min (eD (pv 6) (eD (pv 7) eI))) (eD (fc (qc rfl) rfl B.max boot_max (eD (pv 6) (eD (pv 7) eI))) eI))) (pv 3) (by with_unfolding_all rfl)) (mq (ft (n8 (fc fe rfl B.len bz (eD (pv 3) eI)) eK))))))
 (eL (gH (ki aK aY aX gI (pv 3) (eD (fw (eD (fc (p8 rfl) rfl B.min boot_min (eD (pv 6) (eD (pv 7) eI))) (eD (fc (qc rfl) rfl B.max boot_max (eD (pv 6) (eD (pv 7) eI))) eI))) eI)))) fk)))))))
 (eL (fm (eU lN (hr.mono (by decide)) rfl iL.m iL.F.kp iL.b .nil fi (eD (fw (eD (pv 2) (eD (pv 3) eI))) (eD (eU fH (hr.mono (by decide)) rfl eO.m eO.F.kp eO.b .nil fi (eD (pv 0) (eD eK eI))) eI)))))))))),?_⟩
  refine⟨_,rfl,a,ns,0,rfl,hS,by decide,λcell=>?_⟩
  refine⟨_,rfl,cell,0,rfl,by decide,by decide,λn1 _ _=>⟨_,_,rfl,rfl,(by show(0:Int)<_;decide),_,_,rfl,rfl,?_⟩⟩
  dsimp only[mY]
  refine cut (λσ H'=>H'=H/\∃ m,1<=m/\m<=14/\σ = [some (.ref a),some (.int cell),some (.int m),none,none,none,none,none]) (λN R B C kN kR=>?_) ?_
  ·refine⟨_,rfl,cell,1,rfl,by decide,by decide,λn2 _ _=>⟨_,_,rfl,rfl,(by show(0:Int)<_;decide),_,_,rfl,rfl,_,rfl,fN (λ_=>?_) (λ_=>kN _ _ ⟨rfl,1+n1%8,by omega,by omega,rfl⟩)⟩⟩
   exact⟨_,rfl,cell,0,rfl,by decide,by decide,λn3 _ _=>⟨_,_,rfl,rfl,(by show(0:Int)<_;decide),_,_,rfl,rfl,kN _ _ ⟨rfl,9+n3%6,by omega,by omega,rfl⟩⟩⟩
  rintro σ H0 ⟨e,m,m1,m2,rfl⟩
  rw[e]
  clear e
  refine⟨aH _,λt nt=>?_⟩
  refine⟨_,rfl,cell,2,rfl,by decide,by decide,λn4 n40 _=>⟨_,rfl,_,_,rfl,rfl,.inl ⟨by decide,by decide⟩,_,_,rfl,rfl,_,_,rfl,rfl,(by show(0:Int)<2*m+4;omega),?_⟩⟩
  have q0:0<=n4%(2*m+4):=cf _ (by omega)
  have q1:n4%(2*m+4)<2*m+4:=bR _ (by omega)
  refine⟨_,rfl,by show -(2 ^ 62)<=n4%(2*m+4);omega,by show n4%(2*m+4)<2 ^ 62;omega,my (λi σ H3=>∃ (vs:List V) (js:List (Int×Int)) (x4 x5 x6 x7:Option V),σ = [some (.ref a),some (.int cell),some (.int m),some (.ref t),x4,x5,x6,x7]/\eQ H H3/\H3 t=some (.lst vs)/\Ps K H3 js vs/\pF (m,js))
   ⟨[],[],none,none,none,none,rfl,eE nt,eG,gh.mpr rfl,⟨m1,m2,aH _,λp hp=>(nomatch hp),b6⟩⟩ ?_ ?_⟩
  ·rintro i σ H3 N R B kN _ hi ⟨vs,js,x4,x5,x6,x7,rfl,S3,ht3,D,G⟩
   have i0:(0:Int)+(i:Nat)=(i:Int):=by omega
   rw[i0]
   have hi':(i:Int)<32:=by
    have:(i:Int)<n4%(2*m+4):=by
     have h:i<(n4%(2*m+4)).toNat:=hi
     omega
    omega
   refine⟨_,rfl,_,rfl,_,_,rfl,rfl,(by show(0:Int)<_;decide),_,_,rfl,rfl,a,ns,_,rfl,S3.seq hS,by show(0:Int)<=2+(i:Int)%8;omega,λc5=>⟨_,rfl,_,_,rfl,rfl,c5,_,rfl,by show(0:Int)<=10+(i:Int);omega,by show 10+(i:Int)<=1000;omega,λn5 n50 n51=>?_⟩⟩
   refine⟨_,rfl,_,rfl,_,_,rfl,rfl,.inl ⟨by decide,by decide⟩,_,_,rfl,rfl,(by show(0:Int)<2*m;omega),?_⟩
   refine⟨_,rfl,_,_,rfl,rfl,⟨by decide,by decide⟩,_,rfl,_,_,rfl,rfl,.inl ⟨by decide,by decide⟩,_,_,rfl,rfl,(by show(0:Int)<2*m;omega),?_⟩
   dsimp only
   have o0:0<=n5%(2*m):=cf _ (by omega)
   have o1:n5%(2*m)<2*m:=bR _ (by omega)
   have r0:0<=n5/64%(2*m):=cf _ (by omega)
   have r1:n5/64%(2*m)<2*m:=bR _ (by omega)
   generalize n5%(2*m)=one at o0 o1
   generalize n5/64%(2*m)=oh at r0 r1
   dsimp only[mY]
   refine cut (λσ H'=>H'=H3/\∃ oh',0<=oh'/\oh'<2*m/\σ = [some (.ref a),some (.int cell),some (.int m),some (.ref t),some (.int (i:Int)),some (.int n5),some (.int one),some (.int oh')]) (λN2 R2 B2 C2 k2 _=>?_) ?_
   ·refine⟨_,rfl,cell,3,rfl,by decide,by decide,λn6 _ _=>⟨_,_,rfl,rfl,(by show(0:Int)<_;decide),_,_,rfl,rfl,_,rfl,fN (λ_=>?_) (λ_=>oz (k2 _ _ ⟨rfl,oh,r0,r1,rfl⟩))⟩⟩
    refine⟨_,rfl,_,_,rfl,rfl,(by show(0:Int)<_;decide),_,rfl,_,_,rfl,rfl,(by show(0:Int)<_;decide),_,_,rfl,rfl,_,rfl,fN (λ_=>?_) (λ_=>k2 _ _ ⟨rfl,oh,r0,r1,rfl⟩)⟩
    exact⟨_,rfl,oh,rfl,k2 _ _ ⟨rfl,oth oh,xG r0,by unfold oth;omega,rfl⟩⟩
   rintro σ H0 ⟨e,oh',r0',r1',rfl⟩
   rw[e]
   clear e r0 r1
   refine⟨_,rfl,_,_,rfl,rfl,⟨by decide,by decide⟩,_,rfl,_,_,rfl,rfl,⟨by decide,by decide⟩,_,_,rfl,rfl,_,rfl,?_⟩
   refine fN (λhne=>?_) (λ_=>oz (kN _ _ ⟨vs,js,_,_,_,_,rfl,S3,ht3,D,G⟩))
   refine⟨_,rfl,_,rfl,_,_,rfl,_,rfl,_,rfl,_,_,rfl,by show 2<=sizeLine;decide,λp1 n1=>?_⟩
   rw[xQ,xR]
   have ht4:=(eE (o:=.tup [.int (min one oh'),.int (max one oh')]) n1) _ _ ht3
   have D4:=D.same (eE (o:=.tup [.int (min one oh'),.int (max one oh')]) n1)
   refine⟨_,rfl,_,_,D4.da ht4,gB.mpr ⟨p1,_,rfl,SqT.of eG,Dgs.two (gw.mpr rfl) (gw.mpr rfl)⟩,Ek js,mS (_,_),_,rfl,?_⟩
   refine fN (λhni=>?_) (λ_=>oz (kN _ _ ⟨vs,js,_,_,_,_,rfl,S3.trans (eE n1),ht4,D4,G⟩))
   refine⟨_,rfl,t,_,rfl,.inl (SqL.of ht4),_,_,rfl,rfl,_,rfl,?_⟩
   refine fN (λhlt=>?_) (λ_=>kN _ _ ⟨vs,js,_,_,_,_,rfl,S3.trans (eE n1),ht4,D4,G⟩)
   have hlt:(vs.length:Int)<24:=by simpa using hlt
   have vl:=D.len
   refine⟨_,rfl,.inl ⟨rfl,_,SqL.of ht4⟩,_,rfl,_,rfl,_,_,rfl,_,rfl,_,rfl,_,_,rfl,by show 2<=sizeLine;decide,λp2 n2=>?_⟩
   rw[xQ,xR]
   have S5:=(eE n1).trans (eE (o:=.tup [.int (min one oh'),.int (max one oh')]) n2)
   refine⟨t,vs,_,rfl,rfl,S5 _ _ ht3,jQ (by omega),?_⟩
   refine kN _ _ ⟨_,js ++ [(min one oh',max one oh')],_,_,_,_,rfl,eQ.upd (S3.trans S5) nt,eG,Ps.push (x:=(min one oh',max one oh')) (D.same S5) (S5 _ _ ht3) eG,?_⟩
   have KS:(min one oh',max one oh')∉js:=λz=>by
    have e:=Hk js (min one oh',max one oh')
    unfold dP at e
    dsimp only at e
    unfold dP at hni
    rw[e]at hni
    simp[z]at hni
   have Ac:one/2≠oh'/2:=by simpa using hne
   exact yd G Ac o0 o1 r0' r1' KS (by omega)
  ·rintro σ H3 ⟨vs,js,x4,x5,x6,x7,rfl,S3,ht3,D,G⟩
   refine⟨_,rfl,_,rfl,by show 2<=sizeLine;decide,λp np=>?_⟩
   have S4:=eE (o:=.tup [.int m,.ref t]) np
   refine⟨_,rfl,a,ns,1,rfl,(S3.trans S4).seq hS,by decide,λc7=>?_⟩
   refine⟨_,(m,js),c7,rfl,um eG ((D.same S4).da (S4 _ _ ht3)),G,λv' js' nm es H' s5 d5 R pm=>k v' (m,js') H' (S3.trans (S4.trans s5)) d5 (R.line G pm)⟩
end
structure Xr (K:PySem.W.Frag)(mg:Str->Option Value)(c2:Addr):Prop where
 jB:Xc K mg "NoTrain" c2
 cat:zo K c2 c2
def isT (l:Ln)(ns:List Int):Prop:=ns≠ []/\i6 l ns
def vS (K:PySem.W.Frag):Sp:=λvs H Q _=>∃ (v:V) (l:Int×List (Int×Int)) (e:Int),vs = [v,.int e]/\Da K H (dL l) v/\Q (.bl (decide (0<=e/\e<2*l.1))) H
def rn (K:PySem.W.Frag)(C:Addr):Sp:=λvs H Q E=>∃ (v u:V) (l:Int×List (Int×Int)) (ns:List Int),vs = [v,u]/\Da K H (dL l) v/\Da K H (dI ns) u/\fC l/\ns.length<=900/\
 (isT l ns->∀ H',eQ H H'->Q .non H')/\(¬isT l ns->∀ H',eQ H H'->∀ e,H' e=none->E (.ref C) (some e) H')
abbrev oT:Stmt:=top 7
theorem zD:fu ["line","end"] ["line","end"] (eS oT):=⟨rfl,rfl,rfl,by decide +kernel,rfl,by decide +kernel,by decide +kernel⟩
abbrev iJ:Stmt:=top 10
theorem jv:fu ["line","train","end","following"] ["line","train"] (eS iJ):=⟨rfl,rfl,rfl,by decide +kernel,rfl,by decide +kernel,by decide +kernel⟩
theorem me:fG (eS iJ) ["line","train","end","following"] {kind:=.function,names:=[(Str.ofString ".0",.local),(Str.ofString "end",.local),(Str.ofString "piece_of",.globalImplicit)],isGenerator:=false,isCoroutine:=false,more:=[]} ["end"] 1 [none]:=⟨rfl,by decide +kernel,by decide +kernel,by decide +kernel,rfl,by decide +kernel,rfl,by decide +kernel⟩
section
variable {P:Program}{w:World}{K:PySem.W.Frag}{mg:Str->Option Value}{base:Heap}{f:Addr}{fd:FuncData}{D c1 c2 c3 c4 c5 c6 c7:Addr}
theorem zK (F:Fn K mg "is_end" oT ["line","end"] f fd):fh P w K mg base CX0 1 f fd ["line","end"] (vS K):=by
 refine F.F.ok zD (λvs H Q E h=>?_) (λcdv A outer s H vs Q E hr h=>?_)
 ·obtain⟨v,l,e,rfl,_⟩:=h;rfl
 ·obtain⟨v,l,e,rfl,hv,k⟩:=h
  obtain⟨a,b,rfl,ht,us,hl,hq⟩:=kA hv
  refine⟨_,(eL (fm (we Dn Dl eK (pv 1) (eV ix eK (fE gZ (pv 0) eK (λ_ _=>rfl)))))),?_⟩
  refine⟨_,rfl,_,_,rfl,rfl,_,rfl,fN (λh=>?_) (λh=>?_)⟩
  ·have h:0<=e:=by simpa using h
   refine⟨_,rfl,a,_,_,_,rfl,rfl,ht,rfl,_,_,rfl,rfl,.inl ⟨by decide,by decide⟩,_,_,rfl,rfl,?_⟩
   have e1:decide (0<=e/\e<2*l.1)=decide (e<2*l.1):=by simp[h]
   rw[e1]at k
   exact k
  ·have h:¬0<=e:=by simpa using h
   have e1:decide (0<=e/\e<2*l.1)=false:=by simp[h]
   rw[e1]at k
   exact k
theorem rS {f1 f2 f3 f4:Addr}{fd1 fd2 fd3 fd4:FuncData}(F:Fn K mg "check_train" iJ ["line","train"] f fd)(XS:Xr K mg c2)(B:Bm mg)(mh:Fn K mg "is_end" oT ["line","end"] f1 fd1)
  (fX:Fn K mg "piece_of" kO ["end"] f2 fd2) (iF:Fn K mg "joined" kT ["line","end"] f3 fd3) (fO:Fn K mg "other_end" j4 ["end"] f4 fd4):fh P w K mg base (CXr P w base) 2 f fd ["line","train"] (rn K c2):=by
 have Ce:fh P w K mg base CX0 1 f1 fd1 ["line","end"] (vS K):=zK mh
 have mB:fh P w K mg base CX0 1 f2 fd2 ["end"] uF:=qw fX
 have sL:fh P w K mg base CX0 1 f3 fd3 ["line","end"] (jG K):=tX iF B.toBl
 have lG:fh P w K mg base CX0 1 f4 fd4 ["end"] jq:=oY fO
 refine F.F.okX jv (λvs H Q E h=>?_) (λcdv A outer s H vs Q E hr h=>?_)
 ·obtain⟨v,u,l,ns,rfl,_⟩:=h;rfl
 ·obtain⟨v,u,l,ns,rfl,hv,hu,ok,hz,k1,k2⟩:=h
  obtain⟨a,rfl,ha⟩:=gz.mp hu
  refine⟨_,(eJ (fQ (pO (v7 (pv 1) (λ_=>rfl)))
 (eL (lU kC rfl rfl XS.jB.m XS.jB.q bY (eD g8 eI))) fk)
 (eJ (gY PassesOwn.leaving rfl (fy (pv 1)) (eT (i:=2) jv.nd rfl (Or.inl rfl))
 (eL (fQ (pO (rG (eU Ce (hr.mono (by decide)) rfl mh.m mh.F.kp mh.b .nil fi (eD (pv 0) (eD (pv 2) eI)))))
 (eL (lU kC rfl rfl XS.jB.m XS.jB.q bY (eD g8 eI))) fk)))
 (eJ (fQ (ft (n8 (fc uq rfl B.len bz (eD (FP (fy (pv 1)) rfl me (.name (by decide)) (λ_ _ _ _=>(eT (i:=0) me.nd rfl (Or.inl rfl))) (λ_ _ _ _=>gj) (λ_ _ _ _=>(eU mB (hr.mono (by decide)) rfl fX.m fX.F.kp fX.b .nil fi (eD (pv 0) eI)))) eI)) (fc fe rfl B.len bz (eD (pv 1) eI))))
 (eL (lU kC rfl rfl XS.jB.m XS.jB.q bY (eD g8 eI))) fk)
 (eL (gY PassesOwn.leaving rfl (Ea rfl B.zip (eD (pv 1) (eD (kW ml (pv 1) (lz eK) mr) eI))) (gN (n:=2) rfl (eW (eT (i:=2) jv.nd rfl (Or.inl rfl)) (eW (eT (i:=3) jv.nd rfl (Or.inl rfl)) fZ)))
 (eL (fQ (g7 (kE hr.units) (pv 3) (eU sL (hr.mono (by decide)) rfl iF.m iF.F.kp iF.b .nil fi (eD (pv 0) (eD (eU lG (hr.mono (by decide)) rfl fO.m fO.F.kp fO.b .nil fi (eD (pv 2) eI)) eI))) (by with_unfolding_all rfl))
 (eL (lU kC rfl rfl XS.jB.m XS.jB.q bY (eD g8 eI))) fk))))))),?_⟩
  refine⟨_,rfl,_,.inl ⟨_,ha,rfl⟩,fN (λh=>?_) (λh=>?_)⟩
  ·have h:ns = []:=by simpa using h
   exact⟨by decide,λe he=>k2 (λz=>z.1 h) H (eQ.refl _) e he⟩
  have hne:ns≠ []:=by simpa using h
  refine⟨_,rfl,a,rfl,⟨_,ha⟩,su (K:=K) (a:=a) (xs:=ns.map V.int) (λi σ H3=>∃ (x2 x3:Option V),σ = [some v,some (.ref a),x2,x3]/\H3=H/\∀ e∈ns.take i,0<=e/\e<2*l.1)
   ⟨none,none,rfl,rfl,λe he=>by simp at he⟩ (λi σ H3 _ ⟨_,_,_,e,_⟩=>e ▸ ha) ?_ ?_⟩
  ·rintro i y σ H3 hi ⟨x2,x3,rfl,rfl,al⟩
   rw[ai]at hi
   obtain⟨e,he,rfl⟩:∃ e,ns[i]? = some e/\y = .int e:=by
    cases q:ns[i]? with
    |none=>rw[q]at hi;cases hi
    |some e=>rw[q]at hi;cases hi;exact⟨e,rfl,rfl⟩
   refine⟨_,rfl,_,rfl,v,l,e,rfl,hv,_,rfl,fN (λh=>?_) (λh=>?_)⟩
   ·have h:¬(0<=e/\e<2*l.1):=λz=>by simp[z]at h
    exact⟨by decide,λx hx=>k2 (λz=>h (z.2.ends e (aw he))) H3 (eQ.refl _) x hx⟩
   ·have h:0<=e/\e<2*l.1:=by simpa using h
    refine⟨_,_,rfl,rfl,λx hx=>?_⟩
    rw[aV,he]at hx
    rcases aC.mp hx with z |z
    ·exact al x z
    ·have z:x=e:=by simpa using z
     rw[z];exact h
  rintro σ H3 ⟨x2,x3,rfl,rfl,al⟩
  rw[aa,aW]at al
  refine⟨_,rfl,a,rfl,⟨_,ha⟩,λq nq=>AJ (gd ha) ns (λe=>e/2) nq (by rw[aa]) (by rw[aa];show ns.length+1<4096;omega) ?_ ?_⟩
  ·intro i x d H' hx hd sm P1 P0 p1
   rw[ai,hd]at hx
   cases hx
   refine h9 ?_
   exact⟨_,rfl,d,rfl,p1⟩
  have hq3:=eG (H:=H3) (a:=q) (o:=.set (λk=>decide (k∈ns.map λe=>e/2)) (dn (ns.map λe=>e/2) (ns.map V.int).length))
  have s4:=eE (o:=.set (λk=>decide (k∈ns.map λe=>e/2)) (dn (ns.map λe=>e/2) (ns.map V.int).length)) nq
  generalize upd H3 q _=H4 at hq3 s4 ⊢
  refine⟨q,_,_,rfl,hq3,_,rfl,a,_,rfl,.inl (s4.seq ha),_,_,rfl,rfl,_,rfl,fN (λh=>?_) (λh=>?_)⟩
  ·have h:dn (ns.map λe=>e/2) (ns.map V.int).length<(ns.map V.int).length:=by simpa using h
   rw[aa]at h
   have h2:=(za (ns.map λe=>e/2)).mp (by rw[aa];exact h)
   exact⟨by decide,λx hx=>k2 (λz=>h2 z.2.nd) H4 s4 x hx⟩
  have h:¬dn (ns.map λe=>e/2) (ns.map V.int).length<(ns.map V.int).length:=by simpa using h
  rw[aa]at h
  have nd:(ns.map λe=>e/2).Nodup:=by
   have h3:=(za (ns.map λe=>e/2))
   rw[aa]at h3
   exact cS λz=>h (h3.mpr z)
  refine⟨_,rfl,_,rfl,_,rfl,a,_,rfl,s4.seq ha,λt nt=>?_⟩
  rw[o9]
  have ht:=eG (H:=H4) (a:=t) (o:=.lst ((ns.drop 1).map V.int))
  have s5:=eE (o:=.lst ((ns.drop 1).map V.int)) nt
  generalize upd H4 t _=H5 at ht s5 ⊢
  have S5:=s4.trans s5
  refine⟨a,t,rfl,⟨_,S5.seq ha⟩,⟨_,SqL.of ht⟩,CZ (K:=K) (a:=a) (b:=t) (xs:=ns.map V.int) (ys:=(ns.drop 1).map V.int) (ns.length-1) (by simp)
   (λi σ H6=>∃ (x2 x3:Option V),σ = [some v,some (.ref a),x2,x3]/\eQ H5 H6/\∀ j,j<i->∀ x y,ns[j]? = some x->ns[j+1]? = some y->y∈jn l.2 (oth x))
   ⟨_,_,rfl,eQ.refl _,λj hj=>absurd hj (Nat.not_lt_zero j)⟩ (λi σ H6 _ ⟨_,_,_,s,_⟩=>⟨(S5.trans s).seq ha,SqL.of (s _ _ ht)⟩) ?_ ?_⟩
  ·rintro i x y σ H6 p hx hy ⟨x2,x3,rfl,s6,al2⟩ np
   rw[ai]at hx hy
   rw[cz,Nat.add_comm]at hy
   obtain⟨d,hd,rfl⟩:∃ e,ns[i]? = some e/\x = .int e:=by
    cases q:ns[i]? with
    |none=>rw[q]at hx;cases hx
    |some e=>rw[q]at hx;cases hx;exact⟨e,rfl,rfl⟩
   obtain⟨e,he,rfl⟩:∃ e,ns[i+1]? = some e/\y = .int e:=by
    cases q:ns[i+1]? with
    |none=>rw[q]at hy;cases hy
    |some e=>rw[q]at hy;cases hy;exact⟨e,rfl,rfl⟩
   have S7:=(S5.trans s6).trans (eE (o:=.tup [.int d,.int e]) np)
   have s7:=s6.trans (eE (o:=.tup [.int d,.int e]) np)
   refine⟨p,_,rfl,SqT.of eG,rfl,_,_,rfl,_,_,rfl,rfl,?_⟩
   refine⟨_,rfl,_,rfl,_,rfl,d,rfl,v,l,_,rfl,Da.same S7 hv,ok,λr H8 s8 nr hr8=>?_⟩
   refine⟨(jn l.2 (oth d)).map PyData.int,.int e,gP hr8,gw.mpr rfl,pU _,nN _,_,rfl,?_⟩
   rw[uz]
   refine fN (λh=>?_) (λh=>?_)
   ·have h:e∉jn l.2 (oth d):=by simpa using h
    exact⟨by decide,λx hx=>k2 (λz=>h (z.2.ch i d e hd he)) H8 (S7.trans s8) x hx⟩
   ·have h:e∈jn l.2 (oth d):=by simpa using h
    refine⟨_,_,rfl,s7.trans s8,λj hj x2 y2 hx2 hy2=>?_⟩
    rcases eh.mp hj with z |z
    ·exact al2 j z x2 y2 hx2 hy2
    ·subst z
     rw[hd]at hx2;rw[he]at hy2
     cases hx2;cases hy2
     exact h
  rintro σ H6 ⟨x2,x3,rfl,s6,al2⟩
  refine k1 ⟨hne,al,nd,λi x y hx hy=>al2 i ?_ x y hx hy⟩ H6 (S5.trans s6)
  have:=(ag.mp hy).1
  omega
end
structure Cm (mg:Str->Option Value)(tk:Tok):Prop where
 ny:mg "MOST_STANDINGS" = some (.int 300 tk)
structure Xt (K:PySem.W.Frag)(mg:Str->Option Value)(c:Addr):Prop where
 zl:Xc K mg "TooMany" c
def vR (K:PySem.W.Frag)(C:Addr):Sp:=λvs H Q E=>∃ (v u:V) (l:Ln) (ns:List Int),vs = [v,u]/\Da K H (dL l) v/\Da K H (dI ns) u/\fC l/\ns≠ []/\ns.length<=900/\i6 l ns/\
 (∀ i d vs H',(fb l ns i).length=i->i<=300->eQ H H'->H d=none->oq K H' d (fb l ns i) vs->Q (.ref d) H')/\
 ((∃ i,300<(fb l ns i).length)->∀ H',eQ H H'->∀ e,H' e=none->E (.ref C) (some e) H')
def at5 (σ:L2.St)(_:Hp):Nat:=match (σ[5]? :Option (Option V))with
 |some (some (V.int i))=>(301-i).toNat
 |_=>0
abbrev jT:Stmt:=top 16
theorem fT:fu ["line","train","start","steps","order","at","ahead","move","behind","standing"] ["line","train"] (eS jT):=⟨rfl,rfl,rfl,by decide +kernel,rfl,by decide +kernel,by decide +kernel⟩
abbrev kP:Stmt:=top 17
theorem vW:fu ["standings"] ["standings"] (eS kP):=⟨rfl,rfl,rfl,by decide +kernel,rfl,by decide +kernel,by decide +kernel⟩
theorem om:fG (eS kP) ["standings"] {kind:=.function,names:=[(Str.ofString ".0",.local),(Str.ofString "standing",.local),(Str.ofString "list",.globalImplicit)],isGenerator:=false,isCoroutine:=false,more:=[]} ["standing"] 1 [none]:=⟨rfl,by decide +kernel,by decide +kernel,by decide +kernel,rfl,by decide +kernel,rfl,by decide +kernel⟩
abbrev i9:Stmt:=top 18
theorem gW:fu ["steps","goal","run","step","ahead","move"] ["steps","goal"] (eS i9):=⟨rfl,rfl,rfl,by decide +kernel,rfl,by decide +kernel,by decide +kernel⟩
section
variable {P:Program}{w:World}{K:PySem.W.Frag}{mg:Str->Option Value}{base:Heap}{f:Addr}{fd:FuncData}{c5:Addr}{tk:Tok}
theorem rR {f1:Addr}{fd1:FuncData}(F:Fn K mg "first_steps" jT ["line","train"] f fd)(B:Bm mg)(C:Cm mg tk)(XS:Xt K mg c5)(fS:Fn K mg "moves_of" jI ["line","train"] f1 fd1)
  (iB:fh P w K mg base CX0 3 f1 fd1 ["line","train"] (kL K)):fh P w K mg base (CXr P w base) 4 f fd ["line","train"] (vR K c5):=by
 refine F.F.okX fT (λvs H Q E h=>?_) (λcdv A outer s H vs Q E hr h=>?_)
 ·obtain⟨v,u,l,ns,rfl,_⟩:=h;rfl
 ·obtain⟨v,u,l,ns,rfl,hv,hu,ok,hne,hz,T,k1,k2⟩:=h
  obtain⟨a,rfl,ha⟩:=gz.mp hu
  refine⟨_,(eJ (eY (i:=2) fT.nd rfl (Or.inl rfl) (fj fD rfl B.tuple b8 (eD (pv 1) eI)))
 (eJ (eY (i:=3) fT.nd rfl (Or.inl rfl) (wc (j8 hr) (pv 2) uP))
 (eJ (eY (i:=4) fT.nd rfl (Or.inl rfl) (fP (eD (pv 2) eI)))
 (eJ (eY (i:=5) fT.nd rfl (Or.inl rfl) eK)
 (eJ (mO PassesOwn.leaving (ft (n8 (pv 5) (fc fe rfl B.len bz (eD (pv 4) eI))))
 (eJ (eY (i:=6) fT.nd rfl (Or.inl rfl) (fE fK (pv 4) (pv 5) (λ_ _=>rfl)))
 (eJ (xE (i:=5) fT.nd rfl (Or.inl rfl) eK xY)
 (eL (gY PassesOwn.leaving rfl (fy (eU iB (hr.mono (by decide)) rfl fS.m fS.F.kp fS.b .nil fi (eD (pv 0) (eD (fj gQ rfl B.list df (eD (pv 6) eI)) eI)))) (gN (n:=2) rfl (eW (eT (i:=7) fT.nd rfl (Or.inl rfl)) (eW (eT (i:=8) fT.nd rfl (Or.inl rfl)) fZ)))
 (eJ (eY (i:=9) fT.nd rfl (Or.inl rfl) (fj fD rfl B.tuple b8 (eD (pv 8) eI)))
 (eL (fQ (ft (nM (j8 hr) (pv 9) (pv 3)))
 (eJ (fQ (ft (iT (fc fe rfl B.len bz (eD (pv 4) eI)) (yE (v:=.int 300) rfl C.ny ⟨_,rfl⟩)))
 (eL (lU kC rfl rfl XS.zl.m XS.zl.q bY (eD (AX (i:=300) rfl C.ny ⟨_,rfl⟩ (by decide) (by decide)) eI))) fk)
 (eJ (uO (j8 hr) (pv 3) (pv 9) (fw (eD (pv 6) (eD (pv 7) eI))) rfl)
 (eL (gH (ki aK aY aX gI (pv 4) (eD (pv 9) eI)))))) fk))))))))
 (eL (fm (pv 3)))))))),?_⟩
  refine⟨_,rfl,a,_,rfl,.inl ⟨ha,λt0 nt0=>?_⟩⟩
  have s1:=eE (o:=.tup (ns.map V.int)) nt0
  have h1:=eG (H:=H) (a:=t0) (o:=.tup (ns.map V.int))
  generalize upd H t0 _=H1 at s1 h1 ⊢
  refine λd nd=>⟨_,rfl,_,_,t0,kyI ns,rfl,rfl,by rw[iy];exact eE nd _ _ h1,eG,?_⟩
  rw[oK]
  have s2:=eE (o:=.dT [(kyI ns,V.non)]) nd
  have h2:=s2 _ _ h1
  have hd2:=eG (H:=H1) (a:=d) (o:=.dT [(kyI ns,V.non)])
  have nd0:=eQ.free s1 nd
  generalize upd H1 d _=H2 at s2 h2 hd2 ⊢
  refine⟨_,rfl,by show 1<=sizeLine;decide,λp np=>?_⟩
  have s3:=eE (o:=.lst [V.ref t0]) np
  have h3:=s3 _ _ h2
  have hd3:=s3 _ _ hd2
  have hp3:=eG (H:=H2) (a:=p) (o:=.lst [V.ref t0])
  have np0:=eQ.free (s1.trans s2) np
  have S3:=s1.trans (s2.trans s3)
  generalize upd H2 p _=H3 at s3 h3 hd3 hp3 S3 ⊢
  refine nA (λσ H4=>∃ (i:Nat) (as:List Addr) (vs:List V) (x6 x7 x8 x9:Option V),σ = [some v,some (.ref a),some (.ref t0),some (.ref d),some (.ref p),some (.int i),x6,x7,x8,x9]/\eQ H H4/\oq K H4 d (fb l ns i) vs/\Ord H4 p as (fb l ns i)/\i<=(fb l ns i).length/\(fb l ns i).length<=300)
   at5 ⟨0,[t0],[.non],none,none,none,none,rfl,S3,⟨hd3,rfl,λi e v' he hv'=>?_⟩,⟨hp3,rfl,λi b e hb he=>?_⟩,aH _,by simp[fb]⟩ ?_ ?_
  ·match i,he,hv' with
   | 0,he,hv'=>cases he;cases hv';rfl
  ·match i,hb,he with
   | 0,hb,he=>cases hb;cases he;exact h3
  ·rintro σ H4 N1 R1 B1 kN1 _ kB1 ⟨i,as,vs,x6,x7,x8,x9,rfl,S4,hs4,ho4,hi,GV⟩
   have E4:=jm ok T hne i
   refine⟨_,rfl,_,rfl,p,_,rfl,.inl (SqL.of ho4.at_),_,_,rfl,rfl,_,rfl,fN (λhlt=>?_) (λhlt=>?_)⟩
   ·have hlt:(i:Int)<((as.map V.ref).length:Int):=by simpa using hlt
    rw[aa,ho4.len]at hlt
    have hi2:i<(fb l ns i).length:=by omega
    have he:(fb l ns i)[i]? = some ((fb l ns i)[i]):=by simp
    generalize (fb l ns i)[i]=e at he
    obtain⟨b,hb⟩:∃ b,as[i]? = some b:=⟨as[i]'(by rw[ho4.len];exact hi2),af _⟩
    have hbt:=ho4.each i b e hb he
    obtain⟨T1,T2,T3⟩:=E4.tr e (aw he)
    refine⟨_,rfl,_,rfl,p,_,_,_,rfl,rfl,SqL.of ho4.at_,qe (v:=V.ref b) (by omega) (by rw[ai,show((i:Int)).toNat=i by omega,hb];rfl),?_⟩
    refine⟨_,rfl,_,_,rfl,rfl,?_⟩
    refine⟨_,rfl,_,rfl,b,_,rfl,.inr (SqT.of hbt),λq nq=>?_⟩
    have s5:=eE (o:=.lst (e.1.map V.int)) nq
    have hq5:=eG (H:=H4) (a:=q) (o:=.lst (e.1.map V.int))
    generalize upd H4 q _=H5 at s5 hq5 ⊢
    refine⟨_,_,l,e.1,rfl,Da.same (S4.trans s5) hv,gP hq5,ok,T3,by omega,λpm vm H6 s6 hpm wG Dm=>?_⟩
    have s46:=s5.trans s6
    have S6:=S4.trans s46
    have hs6:=hs4.same s46
    have ho6:=ho4.same s46
    have Bj:(mvs l e.1).length=vm.length:=by have:=Dm.length;rw[aa]at this;exact this.symm
    have ya:=s46 _ _ hbt
    have pmp:pm≠p:=bK (eM (s5 _ _ ho4.at_) hpm)
    have pmd:pm≠d:=bK (eM (s5 _ _ hs4.at_) hpm)
    refine⟨pm,rfl,⟨_,SqL.of wG⟩,hE (K:=K) (a:=pm) (xs:=vm) (λj σ H7=>∃ (as':List Addr) (vs':List V) (x7 x8 x9:Option V),σ = [some v,some (.ref a),some (.ref t0),some (.ref d),some (.ref p),some (.int ((i:Int)+1)),some (.ref b),x7,x8,x9]/\
      eQ H H7/\eQ (wH d p H6) H7/\oq K H7 d (fW e.1 ((mvs l e.1).take j) (fb l ns i)) vs'/\Ord H7 p as' (fW e.1 ((mvs l e.1).take j) (fb l ns i))/\(fW e.1 ((mvs l e.1).take j) (fb l ns i)).length<=300)
     ⟨as,vs,x7,x8,x9,rfl,S6,λb u h=>gv (p:=d) b u (gv (p:=p) b u h),hs6,ho6,GV⟩ (λj σ H7 _ ⟨_,_,_,_,_,_,_,sm,_⟩=>SqL.of (sm _ _ (by rw[lB pmd pmp];exact wG))) ?_ ?_⟩
    ·rintro j y σ H7 N R B kN _ hj ⟨as',vs',y7,y8,y9,rfl,S7,sm,hs7,ho7,yY⟩
     obtain⟨m,ad,p1,bb,hm,rfl,ht,dm,hbb,nbb,_⟩:=yK Dm hj
     obtain⟨a1,ea1,htm⟩:=C5 dm
     cases ea1
     have bbp:bb≠p:=bK (eM (s5 _ _ ho4.at_) nbb)
     have bbd:bb≠d:=bK (eM (s5 _ _ hs4.at_) nbb)
     have ht7:=fq sm (sq hs6.at_ ho6.at_ ht)
     have EE:=fq sm (sq hs6.at_ ho6.at_ htm)
     have Ae:H7 bb=some (.lst (m.2.map V.int)):=sm _ _ (by rw[lB bbd bbp];exact hbb)
     have hb7:H7 b=some (.tup (e.1.map V.int)):=sm _ _ (by rw[lB (fA ya hs6.at_ (by intro z;cases z)) (fA ya ho6.at_ (by intro z;cases z))];exact ya)
     refine⟨ad,_,rfl,ht7,rfl,_,_,rfl,_,_,rfl,rfl,?_⟩
     refine⟨_,rfl,bb,_,rfl,.inl ⟨SqL.of Ae,λst nst=>?_⟩⟩
     have s8:=eE (o:=.tup (m.2.map V.int)) nst
     have hst:=eG (H:=H7) (a:=st) (o:=.tup (m.2.map V.int))
     have hs8:=hs7.same s8
     have ho8:=ho7.same s8
     have S8:=S7.trans s8
     have sm8:=sm.trans s8
     have hb8:=s8 _ _ hb7
     have zZ:=fq s8 EE
     generalize upd H7 st _=H8 at s8 hst hs8 ho8 S8 sm8 hb8 zZ ⊢
     refine⟨_,rfl,_,rfl,d,_,rfl,pH.t (k:=kyI m.2) hs8.at_ (by rw[iy];exact hst),_,rfl,?_⟩
     rw[hs8.mem m.2]
     have mJ:fW e.1 ((mvs l e.1).take (j+1)) (fb l ns i)=mG e.1 (fW e.1 ((mvs l e.1).take j) (fb l ns i)) m:=rA hm
     refine fN (λhn=>?_) (λhn=>?_)
     ·have hn:m.2∉(fW e.1 ((mvs l e.1).take j) (fb l ns i)).map (·.1):=by simpa using hn
      have lR:fW e.1 ((mvs l e.1).take (j+1)) (fb l ns i)=fW e.1 ((mvs l e.1).take j) (fb l ns i) ++ [(m.2,some (e.1,m.1))]:=by
       rw[mJ];unfold mG;rw[aF hn]
      refine⟨_,rfl,p,_,rfl,.inl (SqL.of ho8.at_),_,_,rfl,rfl,_,rfl,fN (λh3=>?_) (λh3=>?_)⟩
      ·have h3:((as'.map V.ref).length:Int)=300:=by simpa using h3
       rw[aa,ho8.len]at h3
       refine λz=>⟨by show 1<=sizeLine;decide,λx hx=>k2 ⟨i+1,?_⟩ H8 S8 x hx⟩
       rw[lQ he]
       have:=(mK (t:=e.1) (mvs l e.1) (fb l ns i) (j+1)).length_le
       rw[lR,ah,aQ]at this
       omega
      ·have h3:¬((as'.map V.ref).length:Int)=300:=by simpa using h3
       rw[aa,ho8.len]at h3
       refine⟨_,rfl,_,rfl,by show 2<=sizeLine;decide,λtp ntp=>?_⟩
       have s9:=eE (o:=.tup [.ref b,.ref p1]) ntp
       have htp:=eG (H:=H8) (a:=tp) (o:=.tup [.ref b,.ref p1])
       have hs9:=hs8.same s9
       have ho9:=ho8.same s9
       have EG:=s9 _ _ hst
       have hb9:=s9 _ _ hb8
       have BE:=fq s9 zZ
       have S9:=S8.trans s9
       have sm9:=sm8.trans s9
       generalize upd H8 tp _=H9 at s9 htp hs9 ho9 EG hb9 BE S9 sm9 ⊢
       have dl:((List.zip (fW e.1 ((mvs l e.1).take j) (fb l ns i)) vs').map λp=>(kyI p.1.1,p.2)).length<=300:=by rw[aa,cB];omega
       refine⟨_,rfl,_,rfl,d,_,rfl,ym.t (k:=kyI m.2) hs9.at_ (by rw[iy];exact EG) (iE (by omega)),?_⟩
       obtain⟨g1,g2⟩:=zG hs9 ho9 EG htp hb9 BE hn
       have pd:p≠d:=fA ho9.at_ hs9.at_ (by intro z;cases z)
       have hp9:upd H9 d (.dT (putK ((List.zip (fW e.1 ((mvs l e.1).take j) (fb l ns i)) vs').map λp=>(kyI p.1.1,p.2)) (kyI m.2) (.ref tp))) p=some (.lst (as'.map V.ref)):=by rw[eN pd];exact ho9.at_
       refine⟨_,rfl,.inl ⟨rfl,_,SqL.of hp9⟩,_,rfl,p,_,_,rfl,rfl,hp9,iE (by rw[aa,ho9.len];omega),?_⟩
       refine kN _ _ ⟨as' ++ [st],vs' ++ [.ref tp],_,_,_,rfl,eQ.upd (eQ.upd S9 nd0) np0,sk sm9,by rw[lR];exact g1,by rw[lR];exact g2,?_⟩
       rw[lR,ah,aQ]
       omega
     ·have hn:m.2∈(fW e.1 ((mvs l e.1).take j) (fb l ns i)).map (·.1):=by simpa using hn
      have qp:fW e.1 ((mvs l e.1).take (j+1)) (fb l ns i)=fW e.1 ((mvs l e.1).take j) (fb l ns i):=by
       rw[mJ];unfold mG;rw[aJ hn]
      exact kN _ _ ⟨as',vs',_,_,_,rfl,S8,sm8,by rw[qp];exact hs8,by rw[qp];exact ho8,by rw[qp];exact yY⟩
    ·rintro σ H7 ⟨as',vs',y7,y8,y9,rfl,S7,sm,hs7,ho7,yY⟩
     rw[<-Bj,aW,<-lQ he]at hs7 ho7 yY
     have wF:=(nE l ns i).length_le
     refine kN1 _ _ ⟨i+1,as',vs',_,_,_,_,rfl,S7,hs7,ho7,by omega,yY⟩ ?_
     show(301-((i:Int)+1)).toNat<(301-(i:Int)).toNat
     omega
   ·have hlt:¬(i:Int)<((as.map V.ref).length:Int):=by simpa using hlt
    rw[aa,ho4.len]at hlt
    have e1:(fb l ns i).length=i:=by omega
    exact kB1 _ _ ⟨_,rfl,k1 i d vs H4 e1 (by omega) S4 nd0 hs4⟩
  ·rintro σ H Q Q' hq ⟨x,e1,y,e2,p',ys,e3,h4,i',j',e5,e6,c,e7,q⟩
   exact⟨x,e1,y,e2,p',ys,e3,h4,i',j',e5,e6,c,e7,hq _ _ q⟩
end
theorem pG.post {H H' H'':Hp}{p:Addr}{bs:List Addr}{ts:List (List Int)}(s:eQ H' H'')(h:pG H H' p bs ts):pG H H'' p bs ts:=
 ⟨h.same.trans s,h.new,s _ _ h.at_,h.len,λi b t h1 h2=>⟨(h.each i b t h1 h2).1,(h.each i b t h1 h2).2.1,s _ _ (h.each i b t h1 h2).2.2⟩,h.nd⟩
def gOk (l:Ln)(ns gs:List Int):Prop:=isT l gs/\gs.length=ns.length
def yv (K:PySem.W.Frag)(c2:Addr):Sp:=λvs H Q E=>∃ (v u g:V) (l:Ln) (ns gs:List Int),vs = [v,u,g]/\Da K H (dL l) v/\Da K H (dI ns) u/\Da K H (dI gs) g/\fC l/\gs.length<=900/\
 (gOk l ns gs->∀ H',eQ H H'->Q .non H')/\(¬gOk l ns gs->∀ H',eQ H H'->∀ e,H' e=none->E (.ref c2) (some e) H')
abbrev ko:Stmt:=top 15
theorem sS:fu ["line","train","goal"] ["line","train","goal"] (eS ko):=⟨rfl,rfl,rfl,by decide +kernel,rfl,by decide +kernel,by decide +kernel⟩
section
variable {P:Program}{w:World}{K:PySem.W.Frag}{mg:Str->Option Value}{base:Heap}{f:Addr}{fd:FuncData}{c2 c5:Addr}
theorem sV {f1:Addr}{fd1:FuncData}(F:Fn K mg "check_goal" ko ["line","train","goal"] f fd)(XS:Xr K mg c2)(B:Bm mg)
  (fV:Fn K mg "check_train" iJ ["line","train"] f1 fd1) (iK:fh P w K mg base (CXr P w base) 2 f1 fd1 ["line","train"] (rn K c2)):fh P w K mg base (CXr P w base) 3 f fd ["line","train","goal"] (yv K c2):=by
 refine F.F.okX sS (λvs H Q E h=>?_) (λcdv A outer s H vs Q E hr h=>?_)
 ·obtain⟨v,u,g,l,ns,gs,rfl,_⟩:=h;rfl
 ·obtain⟨v,u,g,l,ns,gs,rfl,hv,hu,hg,ok,gl,k1,k2⟩:=h
  obtain⟨a,rfl,ha⟩:=gz.mp hu
  obtain⟨b,rfl,hb⟩:=gz.mp hg
  refine⟨_,(eJ (gH (eU iK (hr.mono (by decide)) rfl fV.m fV.F.kp fV.b .nil pQ (eD (pv 0) (eD (pv 2) eI))))
 (eL (fQ (ft (ox (fc fe rfl B.len bz (eD (pv 2) eI)) (fc fe rfl B.len bz (eD (pv 1) eI))))
 (eL (lU kC rfl rfl XS.jB.m XS.jB.q bY (eD g8 eI))) fk))),?_⟩
  refine⟨_,rfl,_,rfl,_,_,l,gs,rfl,hv,hg,ok,gl,λit H1 s1=>?_,λz H1 s1 e he=>k2 (λy=>z y.1) H1 s1 e he⟩
  refine⟨_,rfl,b,_,rfl,.inl (s1.seq hb),_,rfl,a,_,rfl,.inl (s1.seq ha),_,_,rfl,rfl,_,rfl,fN (λh=>?_) (λh=>?_)⟩
  ·have h:((gs.map V.int).length:Int)≠((ns.map V.int).length:Int):=by simpa using h
   rw[aa,aa]at h
   exact⟨by decide,λe he=>k2 (λz=>h (by rw[z.2])) H1 s1 e he⟩
  ·have h:((gs.map V.int).length:Int)=((ns.map V.int).length:Int):=by simpa using h
   rw[aa,aa]at h
   exact k1 ⟨it,by omega⟩ _ s1
end
def vN (l:Ln)(s:Sta):Prop:=i6 l s.1/\s.1≠ []/\s.1.length<=900
theorem vN.step {l:Ln}(ok:fC l){s:Sta}{m:Mv}(h:vN l s)(hm:m∈mvs l s.1):vN l (m.2,s.2):=by
 obtain⟨h1,h2,h3⟩:=Bg ok h.1 h.2.1 hm
 exact⟨h1,h3,by rw[h2];exact h.2.2⟩
theorem AG {P:Program}{w:World}{K:PySem.W.Frag}{H:Hp}{d b:Addr}{kvs:KvN}{xs:List V}(hd:H d=some (nD P w d kvs))(h:SqL K H b xs):SqL K (hid d H) b xs:=by
 rcases h with(h |⟨o,h⟩)|h
 ·exact .inl (.inl (by rw[fU (fA h hd (λz=>nomatch z))];exact h))
 ·exact .inl (.inr ⟨o,by rw[fU (fA h hd (λz=>nomatch z))];exact h⟩)
 ·exact .inr h
theorem vQ {P:Program}{w:World}{K:PySem.W.Frag}{H:Hp}{d b:Addr}{kvs:KvN}{xs:List V}(hd:H d=some (nD P w d kvs))(h:SqT K H b xs):SqT K (hid d H) b xs:=by
 rcases h with(h |⟨o,h⟩)|h
 ·exact .inl (.inl (by rw[fU (fA h hd (λz=>nomatch z))];exact h))
 ·exact .inl (.inr ⟨o,by rw[fU (fA h hd (λz=>nomatch z))];exact h⟩)
 ·exact .inr h
theorem C4 {P:Program}{w:World}{K:PySem.W.Frag}{H:Hp}{d:Addr}{kvs:KvN}{x:PyData}{v:V}(hd:H d=some (nD P w d kvs))(h:Da K H x v):Da K (hid d H) x v:=Dg.mono (λ_ _ q=>AG hd q) (λ_ _ q=>vQ hd q) h
theorem zN {P:Program}{w:World}{H:Hp}{d c:Addr}{kvs:KvN}{k:SK}(hd:H d=some (nD P w d kvs))(h:iW H c k):iW (hid d H) c k:=h.jF λb ys q=>by rw[fU (fA q hd (λz=>nomatch z))];exact q
theorem StN.list {P:Program}{w:World}{K:PySem.W.Frag}{H:Hp}{d p:Addr}{es:List EnS}{cs:List Addr}{us xs ys:List V}(h:StN P w K H d es cs us)(hp:H p=some (.lst xs)):StN P w K (upd H p (.lst ys)) d es cs us:=by
 have pd:d≠p:=fA h.dn.at_ hp (λz=>nomatch z)
 have f:∀ b zs,H b=some (.tup zs)->(upd H p (.lst ys)) b=some (.tup zs):=λb zs q=>by rw[eN (fA q hp (λz=>nomatch z))];exact q
 refine⟨⟨by rw[eN pd];exact h.dn.at_,λq hq=>(h.dn.keys q hq).jF f⟩,h.lc,h.lv,λi e v h1 h2=>(h.each i e v h1 h2).to f λb zs q=>kn hp q⟩
def yu (P:Program)(w:World)(K:PySem.W.Frag):Sp:=λvs H Q _=>∃ (v:V) (p d:Addr) (l:Ln) (es:List EnS) (cs:List Addr) (us:List V) (ss:List Sta) (as:List Addr),vs = [v,.ref p,.ref d]/\Da K H (dL l) v/\StL H p as ss/\StN P w K H d es cs us/\fC l/\
 (∀ s∈ss,vN l s)/\(∀ i,(goS l (es,ss) i).2.length<=1000/\(goS l (es,ss) i).1.length<=1000)/\
 ∀ i q as' cs' us' H',(goS l (es,ss) i).2.length=i->eQ (hid d H) H'->H q=none->StL H' q as' (goS l (es,ss) i).2->StN P w K H' d (goS l (es,ss) i).1 cs' us'->Q (.ref q) H'
def at4 (σ:L2.St)(_:Hp):Nat:=match (σ[4]? :Option (Option V))with
 |some (some (V.int i))=>(1001-i).toNat
 |_=>0
abbrev nH:Stmt:=top 23
theorem iu:fu ["line","states","steps","found","at","standing","word","move","behind","state"] ["line","states","steps"] (eS nH):=⟨rfl,rfl,rfl,by decide +kernel,rfl,by decide +kernel,by decide +kernel⟩
section
variable {P:Program}{w:World}{K:PySem.W.Frag}{mg:Str->Option Value}{base:Heap}{f:Addr}{fd:FuncData}
theorem xJ {f1:Addr}{fd1:FuncData}(F:Fn K mg "gone_on" nH ["line","states","steps"] f fd)(B:Bm mg)(fS:Fn K mg "moves_of" jI ["line","train"] f1 fd1)
  (iB:fh P w K mg base CX0 3 f1 fd1 ["line","train"] (kL K)):fh P w K mg base CX0 4 f fd ["line","states","steps"] (yu P w K):=by
 refine F.F.ok iu (λvs H Q E h=>?_) (λcdv A outer s H vs Q E hr h=>?_)
 ·obtain⟨v,p,d,l,es,cs,us,ss,as,rfl,_⟩:=h;rfl
 ·obtain⟨v,p0,d,l,es,cs,us,ss,as0,rfl,hv,hL,hN,ok,hss,hb,k⟩:=h
  have DE:=qQ (l:=l) (P:=vN l) (λs m h hm=>h.step ok hm) (x:=(es,ss)) hss
  generalize hgo:goS l (es,ss)=go at hb k DE
  have go0:go 0=(es,ss):=by rw[<-hgo];rfl
  have yb:∀ {i s},(go i).2[i]? = some s->go (i+1)=fY s.1 s.2 (mvs l s.1) (go i):=λ{i s} h=>by rw[<-hgo]at h ⊢;exact wM h
  refine⟨_,(eJ (eY (i:=3) iu.nd rfl (Or.inl rfl) (fj gQ rfl B.list df (eD (pv 1) eI)))
 (eJ (eY (i:=4) iu.nd rfl (Or.inl rfl) eK)
 (eJ (mO aS (ft (n8 (pv 4) (fc fe rfl B.len bz (eD (pv 3) eI))))
 (eJ (kU (fE fK (pv 3) (pv 4) (λ_ _=>rfl)) (gN (n:=2) rfl (eW (eT (i:=5) iu.nd rfl (Or.inl rfl)) (eW (eT (i:=6) iu.nd rfl (Or.inl rfl)) fZ))))
 (eJ (xE (i:=4) iu.nd rfl (Or.inl rfl) eK xY)
 (eL (gY aS rfl (fy (eU iB (hr.mono (by decide)) rfl fS.m fS.F.kp fS.b .nil fi (eD (pv 0) (eD (fj gQ rfl B.list df (eD (pv 5) eI)) eI)))) (gN (n:=2) rfl (eW (eT (i:=7) iu.nd rfl (Or.inl rfl)) (eW (eT (i:=8) iu.nd rfl (Or.inl rfl)) fZ)))
 (eJ (eY (i:=9) iu.nd rfl (Or.inl rfl) (fw (eD (fj fD rfl B.tuple b8 (eD (pv 8) eI)) (eD (pv 6) eI))))
 (eL (fQ (PW.pt (mM (g7 yI (fE gZ (pv 7) eK (λ_ _=>rfl)) (pv 6) (ka _)) (mq (ft (tV (lh hr) (pv 9) (pv 2))))))
 (eJ (uN (lh hr) (pv 2) (pv 9) (fw (eD (fw (eD (pv 5) (eD (pv 6) eI))) (eD (pv 7) eI))) rfl)
 (eL (gH (ki aK aY aX gI (pv 3) (eD (pv 9) eI))))) fk))))))))
 (eL (fm (pv 3)))))),?_⟩
  refine⟨_,rfl,p0,_,rfl,.inl (SqL.of hL.at_),λp np=>?_⟩
  have s1:=eE (o:=.lst (as0.map V.ref)) np
  have hp1:=eG (H:=H) (a:=p) (o:=.lst (as0.map V.ref))
  have hN1:=hN.same s1
  have hL1:StL (upd H p (.lst (as0.map V.ref))) p as0 ss:=⟨hp1,hL.len,λi a t h1 h2=>(hL.each i a t h1 h2).same s1⟩
  have S1:eQ (hid d H) (upd H p (.lst (as0.map V.ref))):=gv.trans s1
  generalize upd H p _=H1 at s1 hp1 hN1 hL1 S1 ⊢
  refine nA (λσ H4=>∃ (i:Nat) (as cs:List Addr) (us:List V) (x5 x6 x7 x8 x9:Option V),σ = [some v,some (.ref p0),some (.ref d),some (.ref p),some (.int i),x5,x6,x7,x8,x9]/\eQ (hid d H) H4/\StN P w K H4 d (go i).1 cs us/\StL H4 p as (go i).2/\i<=(go i).2.length)
   at4 ⟨0,as0,cs,us,none,none,none,none,none,rfl,S1,by rw[go0];exact hN1,by rw[go0];exact hL1,aH _⟩ ?_ ?_
  ·rintro σ H4 N1 R1 B1 kN1 _ kB1 ⟨i,as,cs,us,x5,x6,x7,x8,x9,rfl,S4,hN4,hL4,hi⟩
   have hbi:=hb i
   refine⟨_,rfl,_,rfl,p,_,rfl,.inl (SqL.of hL4.at_),_,_,rfl,rfl,_,rfl,fN (λhlt=>?_) (λhlt=>?_)⟩
   ·have hlt:(i:Int)<((as.map V.ref).length:Int):=by simpa using hlt
    rw[aa,hL4.len]at hlt
    have hi2:i<(go i).2.length:=by omega
    have he:(go i).2[i]? = some ((go i).2[i]):=by simp
    generalize (go i).2[i]=st at he
    have hst:=DE i st (aw he)
    obtain⟨b,hbi⟩:∃ b,as[i]? = some b:=⟨as[i]'(by rw[hL4.len];exact hi2),af _⟩
    obtain⟨bt,hk1,hk2⟩:=hL4.each i b st hbi he
    have hk1:H4 b=some (.tup [.ref bt,.str st.2]):=hk1
    have hk2:H4 bt=some (.tup (st.1.map V.int)):=by have:=hk2;rw[show(kS st).1=kyI st.1 from rfl,iy]at this;exact this
    refine⟨_,rfl,_,rfl,p,_,_,_,rfl,rfl,SqL.of hL4.at_,qe (v:=V.ref b) (by omega) (by rw[ai,show((i:Int)).toNat=i by omega,hbi];rfl),?_⟩
    refine⟨b,_,rfl,SqT.of hk1,rfl,_,_,rfl,_,_,rfl,rfl,?_⟩
    refine⟨_,rfl,_,_,rfl,rfl,?_⟩
    refine⟨_,rfl,_,rfl,bt,_,rfl,.inr (SqT.of hk2),λq nq=>?_⟩
    have s5:=eE (o:=.lst (st.1.map V.int)) nq
    have hq5:=eG (H:=H4) (a:=q) (o:=.lst (st.1.map V.int))
    generalize upd H4 q _=H5 at s5 hq5 ⊢
    refine⟨_,_,l,st.1,rfl,Da.same (S4.trans s5) (C4 hN.dn.at_ hv),gP hq5,ok,hst.2.1,hst.2.2,λpm vm H6 s6 hpm wG Dm=>?_⟩
    have s46:=s5.trans s6
    have S6:=S4.trans s46
    have hN6:=hN4.same s46
    have hL6:=hL4.same s46
    have Bj:(mvs l st.1).length=vm.length:=by have:=Dm.length;rw[aa]at this;exact this.symm
    have ya:=s46 _ _ hk2
    have pmp:pm≠p:=bK (eM (s5 _ _ hL4.at_) hpm)
    have pmd:pm≠d:=bK (eM (s5 _ _ hN4.dn.at_) hpm)
    have Ff:∀ {a xs},SqT K H6 a xs->SqT K (wH d p H6) a xs:=λ{a xs} h=>vn (p:=p) (H:=hid d H6) (by rw[fU (fA hL6.at_ hN6.dn.at_ (λz=>nomatch z))];exact hL6.at_) (vQ hN6.dn.at_ h)
    refine⟨pm,rfl,⟨_,SqL.of wG⟩,hE (K:=K) (a:=pm) (xs:=vm) (λj σ H7=>∃ (as' cs':List Addr) (us':List V) (x7 x8 x9:Option V),σ = [some v,some (.ref p0),some (.ref d),some (.ref p),some (.int ((i:Int)+1)),some (.ref bt),some (.str st.2),x7,x8,x9]/\
      eQ (hid d H) H7/\eQ (wH d p H6) H7/\StN P w K H7 d (fY st.1 st.2 ((mvs l st.1).take j) (go i)).1 cs' us'/\StL H7 p as' (fY st.1 st.2 ((mvs l st.1).take j) (go i)).2)
     ⟨as,cs,us,x7,x8,x9,rfl,S6,λb u h=>gv (p:=d) b u (gv (p:=p) b u h),hN6,hL6⟩ (λj σ H7 _ ⟨_,_,_,_,_,_,_,_,sm,_⟩=>SqL.of (sm _ _ (by rw[lB pmd pmp];exact wG))) ?_ ?_⟩
    ·rintro j y σ H7 N R B kN _ hj ⟨as',cs',us',y7,y8,y9,rfl,S7,sm,hN7,hL7⟩
     obtain⟨m,ad,p1,bb,hm,rfl,ht,dm,hbb,nbb,_⟩:=yK Dm hj
     obtain⟨a1,ea1,htm⟩:=C5 dm
     cases ea1
     have bbp:bb≠p:=bK (eM (s5 _ _ hL4.at_) nbb)
     have bbd:bb≠d:=bK (eM (s5 _ _ hN4.dn.at_) nbb)
     have ht7:=fq sm (Ff ht)
     have EE:=fq sm (Ff htm)
     have Ae:H7 bb=some (.lst (m.2.map V.int)):=sm _ _ (by rw[lB bbd bbp];exact hbb)
     have hb7:H7 bt=some (.tup (st.1.map V.int)):=sm _ _ (by rw[lB (fA ya hN6.dn.at_ (λz=>nomatch z)) (fA ya hL6.at_ (λz=>nomatch z))];exact ya)
     refine⟨ad,_,rfl,ht7,rfl,_,_,rfl,_,_,rfl,rfl,?_⟩
     refine⟨_,rfl,bb,_,rfl,.inl ⟨SqL.of Ae,λt nt=>⟨_,rfl,by show 2<=sizeLine;decide,λc nc=>?_⟩⟩⟩
     have s8:=(eE (o:=.tup (m.2.map V.int)) nt).trans (eE (o:=.tup [.ref t,.str st.2]) nc)
     have hc8:=eG (H:=upd H7 t (.tup (m.2.map V.int))) (a:=c) (o:=.tup [.ref t,.str st.2])
     have ht8:=(eE (o:=.tup [.ref t,.str st.2]) nc) _ _ (eG (H:=H7) (a:=t) (o:=.tup (m.2.map V.int)))
     have hN8:=hN7.same s8
     have hL8:=hL7.same s8
     have S8:=S7.trans s8
     have sm8:=sm.trans s8
     have hb8:=s8 _ _ hb7
     have zZ:=fq s8 EE
     generalize upd (upd H7 t _) c _=H8 at s8 hc8 ht8 hN8 hL8 S8 sm8 hb8 zZ ⊢
     have BA:iW H8 c (kS (m.2,st.2)):=⟨t,hc8,by rw[show(kS (m.2,st.2)).1=kyI m.2 from rfl,iy];exact ht8⟩
     have mJ:fY st.1 st.2 ((mvs l st.1).take (j+1)) (go i)=ke st.1 st.2 (fY st.1 st.2 ((mvs l st.1).take j) (go i)) m:=xB hm
     have sl:(fY st.1 st.2 ((mvs l st.1).take j) (go i)).2.length<=1000/\(fY st.1 st.2 ((mvs l st.1).take j) (go i)).1.length<=1000:=by
      have h1:=rB st.1 st.2 (mvs l st.1) (go i) j
      have h2:=hb (i+1)
      rw[yb he]at h2
      exact⟨bj h1.1.length_le h2.1,bj h1.2.length_le h2.2⟩
     have old:¬(m.1.1=st.2/\(m.2,st.2)∉(fY st.1 st.2 ((mvs l st.1).take j) (go i)).1.map (·.1))->N [some v,some (V.ref p0),some (.ref d),some (.ref p),some (.int ((i:Int)+1)),some (.ref bt),some (.str st.2),some (.ref p1),some (.ref bb),some (.ref c)] H8:=λh=>kN _ _ (by
      have e:fY st.1 st.2 ((mvs l st.1).take (j+1)) (go i)=fY st.1 st.2 ((mvs l st.1).take j) (go i):=by
       rw[mJ];unfold ke;rw[aF h]
      rw[e]
      exact⟨as',cs',us',_,_,_,rfl,S8,sm8,hN8,hL8⟩)
     refine⟨_,rfl,p1,_,_,_,rfl,rfl,zZ,rfl,_,rfl,rfl,_,rfl,fN (λhw=>?_) (λhw=>?_)⟩
     ·have hw:m.1.1=st.2:=by simpa using hw
      refine⟨_,rfl,_,rfl,d,_,c,_,rfl,rfl,hN8.dn,BA,_,rfl,fN (λhn=>?_) (λhn=>?_)⟩
      ·have hn:(m.2,st.2)∉(fY st.1 st.2 ((mvs l st.1).take j) (go i)).1.map (·.1):=λz=>by
        rw[(hN8.mem (m.2,st.2)).mpr z]at hn;cases hn
       have lR:fY st.1 st.2 ((mvs l st.1).take (j+1)) (go i)=((fY st.1 st.2 ((mvs l st.1).take j) (go i)).1 ++ [((m.2,st.2),some ((st.1,st.2),some m.1))],(fY st.1 st.2 ((mvs l st.1).take j) (go i)).2 ++ [(m.2,st.2)]):=by
        rw[mJ];unfold ke;rw[aJ ⟨hw,hn⟩]
       refine⟨_,rfl,_,rfl,by show 2<=sizeLine;decide,λc2 nc2=>⟨_,rfl,by show 2<=sizeLine;decide,λa2 na2=>?_⟩⟩
       have s9:=(eE (o:=.tup [.ref bt,.str st.2]) nc2).trans (eE (o:=.tup [.ref c2,.ref p1]) na2)
       have ha9:=eG (H:=upd H8 c2 (.tup [.ref bt,.str st.2])) (a:=a2) (o:=.tup [.ref c2,.ref p1])
       have hc9:=(eE (o:=.tup [.ref c2,.ref p1]) na2) _ _ (eG (H:=H8) (a:=c2) (o:=.tup [.ref bt,.str st.2]))
       have hN9:=hN8.same s9
       have hL9:=hL8.same s9
       have S9:=S8.trans s9
       have sm9:=sm8.trans s9
       have vg:=BA.same s9
       have hb9:=s9 _ _ hb8
       have BE:=fq s9 zZ
       generalize upd (upd H8 c2 _) a2 _=H9 at s9 ha9 hc9 hN9 hL9 S9 sm9 vg hb9 BE ⊢
       have bk9:yn K H9 (some ((st.1,st.2),some m.1)) (.ref a2):=⟨a2,c2,p1,rfl,ha9,⟨bt,hc9,by rw[show(kS (st.1,st.2)).1=kyI st.1 from rfl,iy];exact hb9⟩,BE⟩
       refine⟨_,rfl,_,rfl,d,_,c,_,rfl,rfl,hN9.dn,vg,iE (by rw[yU hN9.lc hN9.lv];omega),?_⟩
       have g1:=hN9.push (e:=((m.2,st.2),some ((st.1,st.2),some m.1))) hn vg bk9
       have pd:p≠d:=fA hL9.at_ hN9.dn.at_ (λz=>nomatch z)
       have hp9:(upd H9 d (nD P w d (putN (kvN (fY st.1 st.2 ((mvs l st.1).take j) (go i)).1 cs' us') (kS ((m.2,st.2):Sta)) c (.ref a2)))) p=some (.lst (as'.map V.ref)):=by rw[eN pd];exact hL9.at_
       refine⟨_,rfl,.inl ⟨rfl,_,SqL.of hp9⟩,_,rfl,p,_,_,rfl,rfl,hp9,iE (by rw[aa,hL9.len];omega),?_⟩
       have tp:∀ b ys,(upd H9 d (nD P w d (putN (kvN (fY st.1 st.2 ((mvs l st.1).take j) (go i)).1 cs' us') (kS ((m.2,st.2):Sta)) c (.ref a2)))) b=some (.tup ys)->(upd (upd H9 d (nD P w d (putN (kvN (fY st.1 st.2 ((mvs l st.1).take j) (go i)).1 cs' us') (kS ((m.2,st.2):Sta)) c (.ref a2)))) p (.lst (as'.map V.ref ++ [.ref c]))) b=some (.tup ys):=λb ys q=>by rw[eN (fA q hp9 (λz=>nomatch z))];exact q
       have tq:∀ b ys,H9 b=some (.tup ys)->(upd (upd H9 d (nD P w d (putN (kvN (fY st.1 st.2 ((mvs l st.1).take j) (go i)).1 cs' us') (kS ((m.2,st.2):Sta)) c (.ref a2)))) p (.lst (as'.map V.ref ++ [.ref c]))) b=some (.tup ys):=λb ys q=>tp b ys (by rw[eN (fA q hN9.dn.at_ (λz=>nomatch z))];exact q)
       refine kN _ _ ⟨as' ++ [c],cs' ++ [c],us' ++ [.ref a2],_,_,_,rfl,?_,sk sm9,?_,?_⟩
       ·intro b o hb'
        have hbd:b≠d:=λz=>by rw[z,j9]at hb';cases hb'
        have hbp:b≠p:=λz=>by
         rw[z,fU (λz=>pd z),np]at hb';cases hb'
        rw[eN hbp,eN hbd];exact S9 _ _ hb'
       ·rw[lR];exact StN.list g1 hp9
       ·rw[lR];exact hL9.push tq eG (vg.jF tq)
      ·refine old λz=>?_
       have:(valN (kvN (fY st.1 st.2 ((mvs l st.1).take j) (go i)).1 cs' us') (kS (m.2,st.2))).isSome=true:=aM λy=>hn (by rw[Bool.not_eq_true]at y;rw[y];rfl)
       exact z.2 ((hN8.mem _).mp this)
     ·exact oz (old λz=>hw (by simp[z.1]))
    ·rintro σ H7 ⟨as',cs',us',y7,y8,y9,rfl,S7,sm,hN7,hL7⟩
     rw[<-Bj,aW,<-yb he]at hN7 hL7
     have wF:=(kB st.1 st.2 (mvs l st.1) (go i)).1.length_le
     rw[<-yb he]at wF
     refine kN1 _ _ ⟨i+1,as',cs',us',_,_,_,_,_,rfl,S7,hN7,hL7,by omega⟩ ?_
     show(1001-((i:Int)+1)).toNat<(1001-(i:Int)).toNat
     omega
   ·have hlt:¬(i:Int)<((as.map V.ref).length:Int):=by simpa using hlt
    rw[aa,hL4.len]at hlt
    exact kB1 _ _ ⟨_,rfl,k i p as cs us H4 (by omega) S4 np hL4 hN4⟩
  ·rintro σ H Q Q' hq ⟨x,e1,y,e2,p',ys,e3,h4,i',j',e5,e6,c,e7,q⟩
   exact⟨x,e1,y,e2,p',ys,e3,h4,i',j',e5,e6,c,e7,hq _ _ q⟩
end
def tF (P:Program)(w:World)(K:PySem.W.Frag):Sp:=λvs H Q _=>∃ (p d:Addr) (es:List EnS) (cs:List Addr) (us:List V) (ss:List Sta) (as:List Addr),vs = [.ref p,.ref d]/\StL H p as ss/\StN P w K H d es cs us/\
 (∀ s∈ss,isW s.2)/\ss.length<=1000/\es.length<=1000/\
 ∀ q as' cs' us' H',eQ (hid d H) H'->H q=none->StL H' q as' (chN ss es).2->StN P w K H' d (chN ss es).1 cs' us'->Q (.ref q) H'
abbrev jy:Stmt:=top 24
theorem iC:fu ["states","steps","found","standing","word","state"] ["states","steps"] (eS jy):=⟨rfl,rfl,rfl,by decide +kernel,rfl,by decide +kernel,by decide +kernel⟩
section
variable {P:Program}{w:World}{K:PySem.W.Frag}{mg:Str->Option Value}{base:Heap}{f od:Addr}{fd:FuncData}
theorem qE (F:Fn K mg "changed_over" jy ["states","steps"] f fd)(O:Dd P w K mg od):fh P w K mg base CX0 1 f fd ["states","steps"] (tF P w K):=by
 refine F.F.ok iC (λvs H Q E h=>?_) (λcdv A outer s H vs Q E hr h=>?_)
 ·obtain⟨p,d,es,cs,us,ss,as,rfl,_⟩:=h;rfl
 ·obtain⟨p0,d,es,cs,us,ss,as0,rfl,hL,hN,hw,hsl,hel,k⟩:=h
  refine⟨_,(eJ (eY (i:=2) iC.nd rfl (Or.inl rfl) (fP eI))
 (eJ (gY aS rfl (fy (pv 0)) (gN (n:=2) rfl (eW (eT (i:=3) iC.nd rfl (Or.inl rfl)) (eW (eT (i:=4) iC.nd rfl (Or.inl rfl)) fZ)))
 (eJ (eY (i:=5) iC.nd rfl (Or.inl rfl) (fw (eD (pv 3) (eD (FQ O rfl (pv 4) (λ_ _=>rfl)) eI))))
 (eL (fQ (ft (tV (lh hr) (pv 5) (pv 1)))
 (eJ (uN (lh hr) (pv 1) (pv 5) (fw (eD (fw (eD (pv 3) (eD (pv 4) eI))) (eD uP eI))) rfl)
 (eL (gH (ki aK aY aX gI (pv 2) (eD (pv 5) eI))))) fk))))
 (eL (fm (pv 2))))),?_⟩
  refine⟨by show 0<=sizeLine;decide,λp np=>?_⟩
  have s1:=eE (o:=.lst []) np
  have hp1:=eG (H:=H) (a:=p) (o:=.lst [])
  have hN1:=hN.same s1
  have S1:eQ (hid d H) (upd H p (.lst [])):=gv.trans s1
  generalize upd H p _=H1 at s1 hp1 hN1 S1 ⊢
  have p0d:p0≠d:=fA hL.at_ hN.dn.at_ (λz=>nomatch z)
  have hp0:∀ {H7},eQ (hid d H) H7->H7 p0=some (.lst (as0.map V.ref)):=λ{H7} s=>s _ _ (by rw[fU p0d];exact hL.at_)
  refine⟨_,rfl,p0,rfl,⟨_,SqL.of (hp0 S1)⟩,su (K:=K) (a:=p0) (xs:=as0.map V.ref) (λj σ H7=>∃ (as' cs':List Addr) (us':List V) (x3 x4 x5:Option V),σ = [some (.ref p0),some (.ref d),some (.ref p),x3,x4,x5]/\eQ (hid d H) H7/\StN P w K H7 d (chN (ss.take j) es).1 cs' us'/\StL H7 p as' (chN (ss.take j) es).2)
   ⟨[],cs,us,none,none,none,rfl,S1,hN1,⟨hp1,rfl,λi a s h=>by simp at h⟩⟩ (λj σ H7 _ ⟨_,_,_,_,_,_,_,h,_⟩=>SqL.of (hp0 h)) ?_ ?_⟩
  ·rintro j y σ H7 hj ⟨as',cs',us',x3,x4,x5,rfl,S7,hN7,hL7⟩
   have hjl:j<ss.length:=by
    have:=(ag.mp hj).1
    rwa [aa,hL.len]at this
   have he:ss[j]? = some ss[j]:=af hjl
   generalize ss[j]=st at he
   obtain⟨b,hb⟩:∃ b,as0[j]? = some b:=⟨as0[j]'(by rw[hL.len];exact hjl),af _⟩
   have ey:y=V.ref b:=by rw[ai,hb]at hj;simpa using hj.symm
   subst ey
   obtain⟨bt,hk1,hk2⟩:=(zN hN.dn.at_ (hL.each j b st hb he)).same S7
   have hk1:H7 b=some (.tup [.ref bt,.str st.2]):=hk1
   have hws:=hw st (aw he)
   refine⟨b,_,rfl,SqT.of hk1,rfl,_,_,rfl,_,_,rfl,rfl,?_⟩
   refine⟨_,rfl,_,rfl,st.2,rfl,hws,by show 2<=sizeLine;decide,λc nc=>?_⟩
   have s8:=eE (o:=.tup [.ref bt,.str (ow st.2)]) nc
   have hc8:=eG (H:=H7) (a:=c) (o:=.tup [.ref bt,.str (ow st.2)])
   have hN8:=hN7.same s8
   have hL8:=hL7.same s8
   have S8:=S7.trans s8
   have hb8:=s8 _ _ hk2
   generalize upd H7 c _=H8 at s8 hc8 hN8 hL8 S8 hb8 ⊢
   have BA:iW H8 c (kS (st.1,ow st.2)):=⟨bt,hc8,hb8⟩
   have mJ:chN (ss.take (j+1)) es=iD (chN (ss.take j) es) st:=B0 he
   have sl:(chN (ss.take j) es).1.length<=2000/\(chN (ss.take j) es).2.length<=1000:=by
    have:=zi es (ss.take j) (es,[])
    have h2:(ss.take j).length<=1000:=by rw[aN];omega
    unfold chN
    simp only[List.length_nil]at this
    omega
   refine⟨_,rfl,_,rfl,d,_,c,_,rfl,rfl,hN8.dn,BA,_,rfl,fN (λhn=>?_) (λhn=>?_)⟩
   ·have hn:(st.1,ow st.2)∉(chN (ss.take j) es).1.map (·.1):=λz=>by
     rw[(hN8.mem (st.1,ow st.2)).mpr z]at hn;cases hn
    have lR:chN (ss.take (j+1)) es=((chN (ss.take j) es).1 ++ [((st.1,ow st.2),some (st,none))],(chN (ss.take j) es).2 ++ [(st.1,ow st.2)]):=by
     rw[mJ];unfold iD;rw[aJ hn]
    refine⟨_,rfl,_,rfl,by show 2<=sizeLine;decide,λc2 nc2=>⟨by show 2<=sizeLine;decide,λa2 na2=>?_⟩⟩
    have s9:=(eE (o:=.tup [.ref bt,.str st.2]) nc2).trans (eE (o:=.tup [.ref c2,.non]) na2)
    have ha9:=eG (H:=upd H8 c2 (.tup [.ref bt,.str st.2])) (a:=a2) (o:=.tup [.ref c2,.non])
    have hc9:=(eE (o:=.tup [.ref c2,.non]) na2) _ _ (eG (H:=H8) (a:=c2) (o:=.tup [.ref bt,.str st.2]))
    have hN9:=hN8.same s9
    have hL9:=hL8.same s9
    have S9:=S8.trans s9
    have vg:=BA.same s9
    have hb9:=s9 _ _ hb8
    generalize upd (upd H8 c2 _) a2 _=H9 at s9 ha9 hc9 hN9 hL9 S9 vg hb9 ⊢
    have bk9:yn K H9 (some (st,none)) (.ref a2):=⟨a2,c2,rfl,ha9,⟨bt,hc9,hb9⟩⟩
    refine⟨_,rfl,_,rfl,d,_,c,_,rfl,rfl,hN9.dn,vg,iE (by rw[yU hN9.lc hN9.lv];omega),?_⟩
    have g1:=hN9.push (e:=((st.1,ow st.2),some (st,none))) hn vg bk9
    have pd:p≠d:=fA hL9.at_ hN9.dn.at_ (λz=>nomatch z)
    have hp9:(upd H9 d (nD P w d (putN (kvN (chN (ss.take j) es).1 cs' us') (kS ((st.1,ow st.2):Sta)) c (.ref a2)))) p=some (.lst (as'.map V.ref)):=by rw[eN pd];exact hL9.at_
    refine⟨_,rfl,.inl ⟨rfl,_,SqL.of hp9⟩,_,rfl,p,_,_,rfl,rfl,hp9,iE (by rw[aa,hL9.len];omega),?_⟩
    have tq:∀ b ys,H9 b=some (.tup ys)->(upd (upd H9 d (nD P w d (putN (kvN (chN (ss.take j) es).1 cs' us') (kS ((st.1,ow st.2):Sta)) c (.ref a2)))) p (.lst (as'.map V.ref ++ [.ref c]))) b=some (.tup ys):=λb ys q=>by
     have q2:(upd H9 d (nD P w d (putN (kvN (chN (ss.take j) es).1 cs' us') (kS ((st.1,ow st.2):Sta)) c (.ref a2)))) b=some (.tup ys):=by rw[eN (fA q hN9.dn.at_ (λz=>nomatch z))];exact q
     rw[eN (fA q2 hp9 (λz=>nomatch z))];exact q2
    refine⟨as' ++ [c],cs' ++ [c],us' ++ [.ref a2],_,_,_,rfl,?_,?_,?_⟩
    ·intro b o hb'
     have hbd:b≠d:=λz=>by rw[z,j9]at hb';cases hb'
     have hbp:b≠p:=λz=>by
      rw[z,fU (λz=>pd z),np]at hb';cases hb'
     rw[eN hbp,eN hbd];exact S9 _ _ hb'
    ·rw[lR];exact StN.list g1 hp9
    ·rw[lR];exact hL9.push tq eG (vg.jF tq)
   ·have hy:(valN (kvN (chN (ss.take j) es).1 cs' us') (kS (st.1,ow st.2))).isSome=true:=aM λy=>hn (by rw[Bool.not_eq_true]at y;rw[y];rfl)
    have qp:chN (ss.take (j+1)) es=chN (ss.take j) es:=by
     rw[mJ];unfold iD;rw[aF (λz=>z ((hN8.mem _).mp hy))]
    rw[qp]
    exact⟨as',cs',us',_,_,_,rfl,S8,hN8,hL8⟩
  ·rintro σ H7 ⟨as',cs',us',x3,x4,x5,rfl,S7,hN7,hL7⟩
   rw[aa,hL.len,aW]at hN7 hL7
   exact⟨_,rfl,k p as' cs' us' H7 S7 np hL7 hN7⟩
end
theorem BV {P:Program}{w:World}{K:PySem.W.Frag}{p l:Addr}{xs:List V}{g:TG}{tt:TT}{te tv:TE}{cap:List (Option Nat)}{σ:L2.St}{Q:VK}{H1:Hp}(Pv:Nat->Hp->Prop)(h0:Pv 0 (upd H1 l (nD P w l [])))(hl:∀ i H,i<=xs.length->Pv i H->SqL K H p xs)
  (hs:∀ i x H,xs[i]? = some x->Pv i H->g x (gJ cap σ) H λσ2 H2=>tt σ2 H2 λb H3=>
    if b=true then te σ2 H3 λy H4=>tv σ2 H4 λv H5=>∃ (kvs:KvN) (k:SK) (b:Addr),y = .ref b/\DN P w H5 l kvs/\iW H5 b k/\kvs.length<sizeLine/\Pv (i+1) (upd H5 l (nD P w l (putN kvs k b v)))
    else Pv (i+1) H3)
  (hd:∀ H,Pv xs.length H->Q (.ref l) H):Fb P w (Itl K p) g tt te tv cap σ Q l H1:=by
 refine⟨λi m H=>m=xs.length-i/\i<=xs.length/\Pv i H,⟨xs.length,by simp,aH _,h0⟩,?_⟩
 rintro i m H ⟨rfl,hi,p⟩
 have q:=hl i H hi p
 by_cases hlt:i<xs.length
 ·refine .inr ⟨⟨xs,xs[i],q,by simp[hlt]⟩,Pv (i+1),λH' p'=>⟨xs.length-(i+1),by omega,rfl,hlt,p'⟩,λx H' y=>?_⟩
  obtain⟨rfl,hy⟩:=y
  exact hs i x H' (hy xs q) p
 ·have:i=xs.length:=by omega
  subst this
  exact .inl ⟨⟨xs,q,ao _⟩,hd H p⟩
def vI (n:Nat):V:=V.int n
def rm (P:Program)(w:World)(K:PySem.W.Frag):Sp:=λvs H Q _=>∃ (v u:V) (l:Ln) (tr:List Int) (i:Nat),vs = [v,u]/\Da K H (dL l) v/\Da K H (dI tr) u/\fC l/\tr≠ []/\tr.length<=900/\i6 l tr/\(fb l tr i).length=i/\i<=300/\
 ∀ r t cd sd kvs cs us H',(rnd l tr r).2 = []->eQ H H'->H' t=some (.tup [.ref cd,.ref sd])->StN P w K H' sd (rnd l tr r).1 cs us->DN P w H' cd kvs->(∀ s,valN kvs (kS s)=(cnt l tr r s).map vI)->Q (.ref t) H'
def at7 (σ:L2.St)(_:Hp):Nat:=match (σ[7]? :Option (Option V))with
 |some (some (V.int i))=>(2000-i).toNat
 |_=>0
abbrev lT:Stmt:=top 25
theorem ig:fu ["line","train","start","states","state","steps","counts","many"] ["line","train"] (eS lT):=⟨rfl,rfl,rfl,by decide +kernel,rfl,by decide +kernel,by decide +kernel⟩
theorem pA:fG (eS lT) ["line","train","start","states","state","steps","counts","many"] {kind:=.function,names:=[(Str.ofString ".0",.local),(Str.ofString "state",.local)],isGenerator:=false,isCoroutine:=false,more:=[]} ["state"] 1 [none]:=⟨rfl,by decide +kernel,by decide +kernel,by decide +kernel,rfl,by decide +kernel,rfl,by decide +kernel⟩
section
variable {P:Program}{w:World}{K:PySem.W.Frag}{mg:Str->Option Value}{base:Heap}{f od:Addr}{fd:FuncData}
theorem xK {f1 f2:Addr}{fd1 fd2:FuncData}(F:Fn K mg "counted" lT ["line","train"] f fd)(B:Bm mg)(kJ:Fn K mg "gone_on" nH ["line","states","steps"] f1 fd1)(qj:fh P w K mg base CX0 4 f1 fd1 ["line","states","steps"] (yu P w K))
  (ip:Fn K mg "changed_over" jy ["states","steps"] f2 fd2) (lu:fh P w K mg base CX0 1 f2 fd2 ["states","steps"] (tF P w K)):fh P w K mg base CX0 5 f fd ["line","train"] (rm P w K):=by
 refine F.F.ok ig (λvs H Q E h=>?_) (λcdv A outer s H vs Q E hr h=>?_)
 ·obtain⟨v,u,l,tr,i,rfl,_⟩:=h;rfl
 ·obtain⟨v,u,l,tr,iw,rfl,hv,hu,ok,hne,K2,T,hiw,GV,k⟩:=h
  obtain⟨a,rfl,ha⟩:=gz.mp hu
  obtain⟨_,htr,hsh⟩:=qT ok T hne hiw
  have jl:∀ t∈(fb l tr iw).map (·.1),∀ m∈mvs l t,m.2∈(fb l tr iw).map (·.1):=λt ht=>(hsh t ht).2
  have Wl:((fb l tr iw).map (·.1)).length<=300:=by rw[aa];omega
  have EI:=jm ok T hne iw
  have trW:∀ t∈(fb l tr iw).map (·.1),i6 l t/\t≠ []/\t.length<=900:=λt ht=>by
   obtain⟨e,he,rfl⟩:=ak.mp ht
   have:=EI.tr e he
   exact⟨this.1,this.2.2,by rw[this.2.1];exact K2⟩
  have RR:=RO.rnd jl htr
  generalize (fb l tr iw).map (·.1)=W at jl Wl trW RR htr hsh
  refine⟨_,(eJ (eY (i:=2) ig.nd rfl (Or.inl rfl) (fj fD rfl B.tuple b8 (eD (pv 1) eI)))
 (eJ (eY (i:=3) ig.nd rfl (Or.inl rfl) (fP (eD (fw (eD (pv 2) (eD g8 eI))) (eD (fw (eD (pv 2) (eD g8 eI))) eI))))
 (eJ (D9 (i:=5) (j8 hr) ig.nd rfl rfl (fy (pv 3)) rfl pA (.name (by decide)) (λ_ _ _ _=>(eT (i:=0) pA.nd rfl (Or.inl rfl))) (λ_ _ _ _=>gj) (λ_ _ _ _=>(pv 0)) (λ_ _ _ _=>uP))
 (eJ (eY (i:=6) ig.nd rfl (Or.inl rfl) CC)
 (eJ (eY (i:=7) ig.nd rfl (Or.inl rfl) eK)
 (eJ (mO aS (v7 (pv 3) (λ_=>rfl))
 (eJ (eY (i:=3) ig.nd rfl (Or.inl rfl) (eU qj (hr.mono (by decide)) rfl kJ.m kJ.F.kp kJ.b .nil fi (eD (pv 0) (eD (pv 3) (eD (pv 5) eI)))))
 (eJ (gY aS rfl (fy (pv 3)) (eT (i:=4) ig.nd rfl (Or.inl rfl))
 (eL (uN (lh hr) (pv 6) (pv 4) (pv 7) rfl)))
 (eJ (eY (i:=3) ig.nd rfl (Or.inl rfl) (eU lu (hr.mono (by decide)) rfl ip.m ip.F.kp ip.b .nil fi (eD (pv 3) (eD (pv 5) eI))))
 (eL (xE (i:=7) ig.nd rfl (Or.inl rfl) eK xY))))))
 (eL (fm (fw (eD (pv 6) (eD (pv 5) eI))))))))))),?_⟩
  refine⟨_,rfl,a,_,rfl,.inl ⟨ha,λt0 nt0=>?_⟩⟩
  have s1:=eE (o:=.tup (tr.map V.int)) nt0
  have h1:=eG (H:=H) (a:=t0) (o:=.tup (tr.map V.int))
  generalize upd H t0 _=H1 at s1 h1 ⊢
  refine⟨_,rfl,by show 2<=sizeLine;decide,λc1 nc1=>⟨_,rfl,by show 2<=sizeLine;decide,λc2 nc2=>⟨by show 2<=sizeLine;decide,λp np=>?_⟩⟩⟩
  have s2:=(eE (o:=.tup [.ref t0,.str "on"]) nc1).trans ((eE (o:=.tup [.ref t0,.str "back"]) nc2).trans (eE (o:=.lst [.ref c1,.ref c2]) np))
  have hp2:=eG (H:=upd (upd H1 c1 (.tup [.ref t0,.str "on"])) c2 (.tup [.ref t0,.str "back"])) (a:=p) (o:=.lst [.ref c1,.ref c2])
  have hc2:=(eE (o:=.lst [.ref c1,.ref c2]) np) _ _ (eG (H:=upd H1 c1 (.tup [.ref t0,.str "on"])) (a:=c2) (o:=.tup [.ref t0,.str "back"]))
  have hc1:=((eE (o:=.tup [.ref t0,.str "back"]) nc2).trans (eE (o:=.lst [.ref c1,.ref c2]) np)) _ _ (eG (H:=H1) (a:=c1) (o:=.tup [.ref t0,.str "on"]))
  generalize upd (upd (upd H1 c1 _) c2 _) p _=H2 at s2 hp2 hc2 hc1 ⊢
  have ht2:=s2 _ _ h1
  have k1:iW H2 c1 (kS (tr,onW)):=⟨t0,hc1,by rw[show(kS (tr,onW)).1=kyI tr from rfl,iy];exact ht2⟩
  have k2:iW H2 c2 (kS (tr,ir)):=⟨t0,hc2,by rw[show(kS (tr,ir)).1=kyI tr from rfl,iy];exact ht2⟩
  refine⟨_,rfl,p,rfl,⟨_,SqL.of hp2⟩,λsd nsd=>?_⟩
  have S2:=s1.trans s2
  have hn:onW≠ir:=by unfold onW ir;decide +kernel
  refine BV (K:=K) (p:=p) (xs:=[.ref c1,.ref c2]) (λj G=>eQ H2 G/\StN P w K G sd ((r0 tr).1.take j) ([c1,c2].take j) ([V.non,V.non].take j))
   ⟨eE nsd,⟨⟨eG,λq hq=>(by cases hq)⟩,rfl,rfl,λi e v he=>(by simp at he)⟩⟩ (λj G _ h=>SqL.of (h.1 _ _ hp2)) (λj x G hx h=>?_) (λG h=>?_)
  ·have Em:H2 sd=none:=nsd
   match j,hx with
   | 0,hx=>
    cases hx
    refine⟨_,rfl,_,(kS (tr,onW)),c1,rfl,h.2.dn,k1.same h.1,by show 0<sizeLine;decide,eQ.upd h.1 nsd,?_⟩
    exact StN.push (e:=((tr,onW),none)) h.2 (by simp) (k1.same h.1) rfl
   | 1,hx=>
    cases hx
    refine⟨_,rfl,_,(kS (tr,ir)),c2,rfl,h.2.dn,k2.same h.1,by show 1<sizeLine;decide,eQ.upd h.1 nsd,?_⟩
    exact StN.push (e:=((tr,ir),none)) h.2 (by show(tr,ir)∉ [(tr,onW)];simp;exact λz=>hn z.symm) (k2.same h.1) rfl
  obtain⟨S3,N3⟩:=h
  have N3:StN P w K G sd (r0 tr).1 [c1,c2] [V.non,V.non]:=N3
  have L3:StL G p [c1,c2] (r0 tr).2:=⟨S3 _ _ hp2,rfl,λi a s h1 h2=>by
   match i,h1,h2 with
   | 0,h1,h2=>cases h1;cases h2;exact k1.same S3
   | 1,h1,h2=>cases h1;cases h2;exact k2.same S3⟩
  have S03:=S2.trans S3
  have Em:H sd=none:=eQ.free S2 nsd
  clear hp2 hc1 hc2 k1 k2 s2 ht2
  refine λcd ncd=>?_
  have s4:=eE (o:=nD P w cd []) ncd
  have hcd:=eG (H:=G) (a:=cd) (o:=nD P w cd [])
  have scd:sd≠cd:=λz=>by rw[<-z,N3.dn.at_]at ncd;cases ncd
  have D4:DN P w (upd G cd (nD P w cd [])) cd []:=⟨hcd,λq hq=>(by cases hq)⟩
  have Ka:H cd=none:=eQ.free S03 ncd
  dsimp only[nT,AD,tC,mY]
  show qY _ _ _ _ _
  refine nA (λσ H4=>∃ (r:Nat) (p':Addr) (as cs:List Addr) (us:List V) (kvs:KvN) (x4:Option V),σ = [some v,some (.ref a),some (.ref t0),some (.ref p'),x4,some (.ref sd),some (.ref cd),some (.int r)]/\eQ H H4/\StL H4 p' as (rnd l tr r).2/\StN P w K H4 sd (rnd l tr r).1 cs us/\DN P w H4 cd kvs/\(∀ s,valN kvs (kS s)=(cnt l tr r s).map vI)/\kvs.length<=r*1000/\((rnd l tr r).2≠ []->r<=(rnd l tr r).1.length)/\r<=1001)
   at7 ⟨0,p,[c1,c2],[c1,c2],[V.non,V.non],[],none,rfl,S03.trans s4,L3.same s4,N3.same s4,D4,λs=>rfl,aH _,λ_=>aH _,aH _⟩ ?_ ?_
  ·rintro σ H4 N1 R1 B1 kN1 _ kB1 ⟨r,p',as,cs,us,kvs,x4,rfl,S4,L4,N4,D4,BD,hkl,hr1,hr2⟩
   have R:=RR r
   refine⟨_,rfl,_,.inl ⟨_,SqL.of L4.at_,rfl⟩,fN (λAc=>?_) (λhe=>?_)⟩
   ·have Ac:(rnd l tr r).2≠ []:=λz=>by
     have:=L4.len
     rw[z]at this
     have:as = []:=List.length_eq_zero_iff.mp this
     rw[this]at Ac
     cases Ac
    have hr3:=hr1 Ac
    have Rl:=R.len
    have bnd:∀ i,(goS l ((rnd l tr r).1,(rnd l tr r).2) i).2.length<=1000/\(goS l ((rnd l tr r).1,(rnd l tr r).2) i).1.length<=1000:=λi=>by
     have:=(RO.go jl R i).len
     exact⟨by show(goS l (rnd l tr r) i).2.length<=1000;omega,by show(goS l (rnd l tr r) i).1.length<=1000;omega⟩
    refine⟨_,rfl,_,rfl,_,rfl,v,p',sd,l,_,cs,us,_,as,rfl,Da.same S4 hv,L4,N4,ok,λs hs=>trW s.1 (R.inW s (R.sub s hs)).1,bnd,λi q as' cs' us' H5 hi S5 nq L5 N5=>?_⟩
    have hi:(goS l (rnd l tr r) i).2.length=i:=hi
    have eF:goS l ((rnd l tr r).1,(rnd l tr r).2) i=goF l (rnd l tr r):=(ET hi (by have:=(bnd i).1;have h2:(goS l ((rnd l tr r).1,(rnd l tr r).2) i).2.length=i:=hi;omega)).symm
    rw[eF]at L5 N5
    have R5:RO W (goF l (rnd l tr r)):=RO.go jl R 1000
    have Rl5:=R5.len
    have D5:DN P w H5 cd kvs:=(D4.hid N4.dn.at_ scd.symm).same S5
    have S05:eQ H H5:=(tM S4 Em).trans S5
    have gp:(rnd l tr r).1.length<=(goF l (rnd l tr r)).1.length:=(vt l (rnd l tr r) 1000).length_le
    have er:rnd l tr (r+1)=chN (goF l (rnd l tr r)).2 (goF l (rnd l tr r)).1:=rfl
    have ec:∀ s,cnt l tr (r+1) s=open Classical in if s∈(goF l (rnd l tr r)).2 then some r else cnt l tr r s:=λs=>rfl
    generalize goF l (rnd l tr r)=gg at L5 N5 R5 Rl5 gp er ec
    refine⟨_,rfl,q,rfl,⟨_,SqL.of L5.at_⟩,hE (K:=K) (a:=q) (xs:=as'.map V.ref) (λj σ G=>∃ (qG:KvN) (x4:Option V),σ = [some v,some (.ref a),some (.ref t0),some (.ref q),x4,some (.ref sd),some (.ref cd),some (.int r)]/\eQ H G/\StL G q as' gg.2/\StN P w K G sd gg.1 cs' us'/\DN P w G cd qG/\(∀ s,(s∈gg.2.take j->valN qG (kS s)=some (vI r))/\(s∉gg.2.take j->valN qG (kS s)=valN kvs (kS s)))/\qG.length<=kvs.length+j)
     ⟨kvs,x4,rfl,S05,L5,N5,D5,λs=>⟨λz=>(by simp at z),λ_=>rfl⟩,ao _⟩ (λj σ G _ ⟨_,_,_,_,h,_⟩=>SqL.of h.at_) ?_ ?_⟩
    ·rintro j y σ G N2 R2 B2 kN2 _ hj ⟨qG,x4',rfl,SG,LG,NG,DG,hv',hl'⟩
     have hjl:j<gg.2.length:=by
      have:=(ag.mp hj).1
      rwa [aa,LG.len]at this
     have he:gg.2[j]? = some gg.2[j]:=af hjl
     generalize gg.2[j]=st at he
     obtain⟨b,hb⟩:∃ b,as'[j]? = some b:=⟨as'[j]'(by rw[LG.len];exact hjl),af _⟩
     have ey:y=V.ref b:=by rw[ai,hb]at hj;simpa using hj.symm
     subst ey
     have key:=LG.each j b st hb he
     refine⟨_,rfl,_,rfl,_,rfl,cd,qG,b,kS st,rfl,rfl,DG,key,iE (by have:r*1000<=1001*1000:=Nat.mul_le_mul_right _ hr2;omega),?_⟩
     refine kN2 _ _ ⟨_,_,rfl,eQ.upd SG Ka,LG.other DG.at_,NG.other DG.at_ scd,DG.put key,λs'=>⟨λhm=>?_,λhm=>?_⟩,?_⟩
     ·rw[vK]
      by_cases e:s'=st
      ·rw[aJ (by rw[e])];rfl
      ·rw[aF (λz=>e (vh z))]
       rw[aV,he]at hm
       rcases aC.mp hm with z |z
       ·exact(hv' s').1 z
       ·exact absurd (by simpa using z) e
     ·rw[aV,he]at hm
      have e:s'≠st:=λz=>hm (au _ (by rw[z];simp))
      rw[vK,aF (λz=>e (vh z))]
      exact(hv' s').2 λz=>hm (bo _ z)
     ·have:=rF qG (kS st) b (.int r)
      show(putN qG (kS st) b (.int r)).length<=kvs.length+(j+1)
      omega
    rintro σ G ⟨qG,x4',rfl,SG,LG,NG,DG,hv',hl'⟩
    rw[aa,LG.len]at hl'
    rw[aa,LG.len,aW]at hv'
    refine⟨_,rfl,_,rfl,q,sd,gg.1,cs',us',gg.2,as',rfl,LG,NG,λs hs=>(R5.inW s (R5.sub s hs)).2,by omega,by omega,λq2 as2 cs2 us2 H7 S7 nq2 L7 N7=>?_⟩
    refine⟨_,rfl,_,_,rfl,rfl,?_⟩
    rw[<-er]at L7 N7
    have gr:=B3 gg.2 gg.1
    rw[<-er]at gr
    refine kN1 _ _ ⟨r+1,q2,as2,cs2,us2,qG,_,rfl,(tM SG Em).trans S7,L7,N7,(DG.hid NG.dn.at_ scd.symm).same S7,λs=>?_,by have:=Nat.succ_mul r 1000;omega,λhn'=>?_,by omega⟩ ?_
    ·rw[ec s]
     by_cases hm:s∈gg.2
     ·rw[aJ hm,(hv' s).1 hm];rfl
     ·rw[aF hm,(hv' s).2 hm];exact BD s
    ·have:1<=(rnd l tr (r+1)).2.length:=by
      cases h:(rnd l tr (r+1)).2 with
      |nil=>exact absurd h hn'
      |cons x y=>simp
     omega
    ·show(2000-((r:Int)+1)).toNat<(2000-(r:Int)).toNat
     omega
   ·have he:(rnd l tr r).2 = []:=by
     have:=L4.len
     have h0:as = []:=by
      have:(as.map V.ref).isEmpty=true:=by simpa using he
      simpa using this
     rw[h0]at this
     exact List.length_eq_zero_iff.mp this.symm
    refine kB1 _ _ ⟨_,rfl,_,rfl,by show 2<=sizeLine;decide,λt nt=>?_⟩
    have s9:=eE (o:=.tup [.ref cd,.ref sd]) nt
    exact k r t cd sd kvs cs us _ he (S4.trans s9) eG (N4.same s9) (D4.same s9) BD
  ·rintro σ H Q Q' hq ⟨x,e1,c,h2,q⟩
   exact⟨x,e1,c,h2,hq _ _ q⟩
end
def vT (P:Program)(w:World)(K:PySem.W.Frag):Sp:=λvs H Q _=>∃ (d g:Addr) (es:List EnS) (cs:List Addr) (us:List V) (s:Sta),vs = [.ref d,.ref g]/\StN P w K H d es cs us/\iW H g (kS s)/\s∈es.map (·.1)/\gM es/\(es.map (·.1)).Nodup/\es.length<=5000000/\
 ∀ q run H',eQ H H'->H q=none->xq K H' q run->pE es s run->Q (.ref q) H'
section
variable {P:Program}{w:World}{K:PySem.W.Frag}{mg:Str->Option Value}{base:Heap}{f:Addr}{fd:FuncData}
theorem oX (F:Fn K mg "run_back_from" i9 ["steps","goal"] f fd):fh P w K mg base CX0 1 f fd ["steps","goal"] (vT P w K):=by
 refine F.F.ok gW (λvs H Q E h=>?_) (λcdv A outer s H vs Q E hr h=>?_)
 ·obtain⟨d,g,es,cs,us,t,rfl,_⟩:=h;rfl
 ·obtain⟨d,g,es,cs,us,t,rfl,hs,hg,ht,bk,nd,hl,k⟩:=h
  refine⟨_,(eJ (eY (i:=2) gW.nd rfl (Or.inl rfl) (fP eI))
 (eJ (eY (i:=3) gW.nd rfl (Or.inl rfl) (oW (lh hr) (pv 0) (pv 1) (λ_ _=>rfl)))
 (eJ (mO aS (ft (yF (pv 3)))
 (eJ (kU (pv 3) (gN (n:=2) rfl (eW (eT (i:=4) gW.nd rfl (Or.inl rfl)) (eW (eT (i:=5) gW.nd rfl (Or.inl rfl)) fZ))))
 (eJ (fQ (ft (yF (pv 5)))
 (eL (gH (ki aK aY aX gI (pv 2) (eD (pv 5) eI)))) fk)
 (eL (eY (i:=3) gW.nd rfl (Or.inl rfl) (oW (lh hr) (pv 0) (pv 4) (λ_ _=>rfl)))))))
 (eJ (gH (Ef aK PySem.F.slot_list_reverse PySem.F.type_list_reverse xP (pv 2)))
 (eL (fm (pv 2))))))),?_⟩
  refine⟨aH _,λp np=>?_⟩
  have s1:=eE (o:=.lst []) np
  have hp1:=eG (H:=H) (a:=p) (o:=.lst [])
  generalize upd H p _=H1 at s1 hp1 ⊢
  obtain⟨e0,he0,rfl⟩:=ak.mp ht
  obtain⟨j0,hj0,ej0⟩:=bU.mp he0
  have GJ:es[j0]? = some e0:=by rw[af hj0,ej0]
  have uat:∀ j,j<es.length->∃ v,us[j]? = some v:=λj hj=>⟨us[j]'(by rw[hs.lv];exact hj),af _⟩
  obtain⟨v0,hv0⟩:=uat j0 hj0
  have hs1:=hs.same s1
  refine⟨_,rfl,_,rfl,d,_,g,_,v0,rfl,rfl,hs1.dn,hg.same s1,hs1.get nd GJ hv0,?_⟩
  refine Av (λn σ H3=>∃ (e:EnS) (sv:V) (rr:List (Str×Int)) (vs:List V) (x4 x5:Option V),σ = [some (.ref d),some (.ref g),some (.ref p),some sv,x4,x5]/\es[n]? = some e/\us[n]? = some sv/\eQ H H3/\H3 p=some (.lst vs)/\Das K (hid p H3) (rr.map dM) vs/\
    (∀ k∈rr,PyData.strOk k.1=true)/\rr.length+n<=es.length/\∀ r,pE es e.1 r->pE es e0.1 (r++rr.reverse))
   j0 ⟨e0,v0,[],[],none,none,rfl,GJ,hv0,s1,hp1,gh.mpr rfl,(λk hk=>by cases hk),by simp;omega,λr hr=>by simpa using hr⟩ ?_ ?_
  ·rintro n σ H3 ⟨e,sv,rr,vs,x4,x5,rfl,hn,hsv,S3,hp3,D3,okr,ln,PT⟩
   have hs3:=hs.same S3
   have sv3:=hs3.each n e sv hn hsv
   have vl:vs.length=rr.length:=by have:=Dgs.length D3;rw[aa]at this;exact this
   refine⟨_,rfl,_,rfl,fN (λhb=>?_) (λhb=>?_)⟩
   ·obtain⟨t',o'⟩:=e
    cases o' with
    |none=>
     have z:sv = .non:=sv3
     rw[z]at hb
     exact absurd hb (by decide)
    |some tk=>
     obtain⟨t1,mk⟩:=tk
     obtain⟨i,e1,hi,he1,rfl⟩:=bk.back n t' t1 mk hn
     have hlt:=(ag.mp he1).1
     obtain⟨v1,hv1⟩:=uat i hlt
     cases mk with
     |none=>
      obtain⟨a,b,rfl,ha,hb1⟩:=sv3
      refine⟨_,rfl,a,_,rfl,SqT.of ha,rfl,_,_,rfl,_,_,rfl,rfl,?_⟩
      refine⟨_,rfl,_,rfl,oz ?_⟩
      refine⟨_,rfl,_,rfl,d,_,b,_,v1,rfl,rfl,hs3.dn,hb1,hs3.get nd he1 hv1,?_⟩
      exact⟨i,hi,e1,v1,rr,vs,_,_,rfl,he1,hv1,S3,hp3,D3,okr,by omega,λr hr=>PT r (.ch (aw hn) hr)⟩
     |some k1=>
      obtain⟨a,b,c,rfl,ha,hb1,hc⟩:=sv3
      refine⟨_,rfl,a,_,rfl,SqT.of ha,rfl,_,_,rfl,_,_,rfl,rfl,?_⟩
      refine⟨_,rfl,_,rfl,nU ?_⟩
      refine⟨_,rfl,.inl ⟨rfl,_,SqL.of hp3⟩,_,rfl,p,_,_,rfl,rfl,hp3,iE (by omega),?_⟩
      have S4:=eQ.upd (o:=.lst (vs ++ [V.ref c])) S3 np
      have hs4:=hs.same S4
      have hb4:iW (upd H3 p (.lst (vs ++ [V.ref c]))) b (kS e1.1):=hb1.jF λx ys q=>by rw[eN (fA q hp3 (λz=>nomatch z))];exact q
      refine⟨_,rfl,_,rfl,d,_,b,_,v1,rfl,rfl,hs4.dn,hb4,hs4.get nd he1 hv1,?_⟩
      refine⟨i,hi,e1,v1,rr ++ [k1],vs ++ [V.ref c],_,_,rfl,he1,hv1,S4,eG,?_,λk' hk'=>?_,by rw[ah,aQ];omega,λr hr=>?_⟩
      ·rw[jV,ar]
       exact Dgs.append D3 (Dgs.one (Hg (vn hp3 hc)))
      ·rcases aC.mp hk' with z |z
       ·exact okr k' z
       ·have z:k'=k1:=by simpa using z
        rw[z];exact bk.ok n t' e1.1 k1 hn
      ·have:=PT (r ++ [k1]) (.mv (aw hn) hr)
       rw[List.reverse_append,dw,List.reverse_nil,List.nil_append]
       rw[List.append_assoc]at this
       exact this
   ·obtain⟨t',o'⟩:=e
    cases o' with
    |some tk=>
     obtain⟨t1,mk⟩:=tk
     cases mk with
     |none=>
      obtain⟨a,b,rfl,_⟩:=sv3
      exact absurd rfl hb
     |some k1=>
      obtain⟨a,b,c,rfl,_⟩:=sv3
      exact absurd rfl hb
    |none=>
     refine⟨_,rfl,.inl ⟨rfl,_,SqL.of hp3⟩,p,_,rfl,rfl,hp3,?_⟩
     refine⟨_,rfl,k p rr.reverse _ (eQ.upd S3 np) np ⟨⟨_,eG,?_⟩,λk' hk'=>okr k' (by simpa using hk')⟩ ?_⟩
     ·rw[jV,List.map_reverse]
      exact Dgs.rev D3
     ·have:=PT [] (.nil (aw hn))
      simpa using this
  ·rintro σ H Q Q' hq ⟨x,e1,c,e2,q⟩
   exact⟨x,e1,c,e2,hq _ _ q⟩
end
def dTu (t:List Int):PyData:=.tuple (t.map .int)
theorem BQ (a b:List Int):PyData.eqv (dTu a) (dTu b)=decide (a=b):=by
 unfold dTu
 rw[PyData.eqv,wQ]
theorem EZ (ss:List (List Int))(t:List Int):((ss.map dTu).any λz=>PyData.eqv z (dTu t))=decide (t∈ss):=by
 rw[List.any_map,bx,eA,cw]
 constructor
 ·rintro⟨y,hy,e⟩
  have e:PyData.eqv (dTu y) (dTu t)=true:=e
  rw[BQ,cw]at e
  exact e ▸ hy
 ·exact λh=>⟨t,h,by show PyData.eqv (dTu t) (dTu t)=true;rw[BQ];exact bG rfl⟩
theorem A8 (ns:List Int):OkD (dTu ns):=⟨by simp only[dTu,PyData.canLay0];exact gC (λ_=>rfl) ns,by
 simp only[dTu,PyData.depth]
 have:=fL (f:=PyData.int) (k:=0) (λ_=>by simp[PyData.depth]) ns
 omega⟩
theorem CH (ss:List (List Int)):Cb (ss.map dTu):=by
 refine⟨gC (λt=>(A8 t).1) ss,?_⟩
 have:=fL (f:=dTu) (k:=1) (λt=>by
  simp only[dTu,PyData.depth]
  have:=fL (f:=PyData.int) (k:=0) (λ_=>by simp[PyData.depth]) t
  omega) ss
 omega
theorem DB {K:PySem.W.Frag}{H:Hp}{b:Addr}{t:List Int}(h:H b=some (.tup (t.map V.int))):Da K H (dTu t) (.ref b):=by
 refine gB.mpr ⟨b,_,rfl,SqT.of h,?_⟩
 clear h
 induction t with
 |nil=>exact gh.mpr rfl
 |cons x r ih=>exact fx.mpr ⟨_,_,rfl,gw.mpr rfl,ih⟩
structure yk (H:Hp)(p:Addr)(bs:List Addr)(ts:List (List Int)):Prop where
 at_:H p=some (.lst (bs.map V.ref))
 len:bs.length=ts.length
 each:∀ (i:Nat) b t,bs[i]? = some b->ts[i]? = some t->H b=some (.tup (t.map V.int))
theorem yk.same {H H':Hp}{p:Addr}{bs:List Addr}{ts:List (List Int)}(h:yk H p bs ts)(s:eQ H H'):yk H' p bs ts:=⟨s _ _ h.at_,h.len,λi b t h1 h2=>s _ _ (h.each i b t h1 h2)⟩
theorem vL {K:PySem.W.Frag}{H:Hp} :∀ {bs:List Addr}{ts:List (List Int)},bs.length=ts.length->(∀ (i:Nat) b t,bs[i]? = some b->ts[i]? = some t->H b=some (.tup (t.map V.int)))->Das K H (ts.map dTu) (bs.map V.ref)
 |[],[],_,_=>gh.mpr rfl
 |[],_::_,h,_=>by simp at h
 |_::_,[],h,_=>by simp at h
 |b::bs,t::ts,h,e=>fx.mpr ⟨_,_,rfl,DB (e 0 b t rfl rfl),vL (by simpa using h) λi b' t' h1 h2=>e (i+1) b' t' (by simpa using h1) (by simpa using h2)⟩
theorem yk.da {K:PySem.W.Frag}{H:Hp}{p:Addr}{bs:List Addr}{ts:List (List Int)}(h:yk H p bs ts):Da K H (.list (ts.map dTu)) (.ref p):=ic.mpr ⟨p,_,rfl,SqL.of h.at_,vL h.len h.each⟩
def tD (K:PySem.W.Frag):Sp:=λvs H Q _=>∃ (p:Addr) (bs:List Addr) (ts:List (List Int)),vs = [.ref p]/\yk H p bs ts/\ts.length<=5000000/\∀ q bs' H',pG H H' q bs' ts->Q (.ref q) H'
section
variable {P:Program}{w:World}{K:PySem.W.Frag}{mg:Str->Option Value}{base:Heap}{f:Addr}{fd:FuncData}
theorem uT (F:Fn K mg "lists_of" kP ["standings"] f fd)(B:Bm mg):fh P w K mg base CX0 1 f fd ["standings"] (tD K):=by
 refine F.F.ok vW (λvs H Q E h=>?_) (λcdv A outer s H vs Q E hr h=>?_)
 ·obtain⟨p,bs,ts,rfl,_⟩:=h;rfl
 ·obtain⟨p,bs0,ts,rfl,hT,hl,k⟩:=h
  refine⟨_,(eL (fm (lW (fy (pv 0)) rfl om (.name (by decide)) (λ_ _ _ _=>(eT (i:=0) om.nd rfl (Or.inl rfl))) (λ_ _ _ _=>gj) (λ_ _ _ _=>(fj (lM (K:=K) rfl) rfl B.list df (eD (pv 0) eI)))))),?_⟩
  refine⟨_,rfl,p,rfl,⟨_,SqL.of hT.at_⟩,λq nq=>?_⟩
  refine vf ts.length (λi acc H'=>∃ bs:List Addr,acc=bs.map V.ref/\bs.length=i/\eQ H H'/\H' q=some (.lst acc)/\(∀ (j:Nat) b t,bs[j]? = some b->ts[j]? = some t->H b=none/\b≠q/\H' b=some (.lst (t.map V.int)))/\bs.Nodup)
   ⟨[],rfl,rfl,eE nq,eG,λj b t h=>by simp at h,by simp⟩ (λi acc H' hi ⟨_,_,_,sm,_⟩=>⟨_,(bs0.map V.ref)[i]'(by rw[aa,hT.len];exact hi),SqL.of (sm _ _ hT.at_),af _⟩) (λacc H' ⟨_,_,_,sm,_⟩=>⟨_,SqL.of (sm _ _ hT.at_),by rw[aa,hT.len];exact ao _⟩) ?_ ?_
  ·rintro i x acc H4 H5 hi ⟨bs,rfl,bl,sm,hq,ea,nd⟩ ⟨e5,hx⟩
   subst e5
   have hx:=hx _ (SqL.of (sm _ _ hT.at_))
   obtain⟨t,ht⟩:∃ t,ts[i]? = some t:=⟨ts[i],af hi⟩
   obtain⟨b,hb0⟩:∃ b,bs0[i]? = some b:=⟨bs0[i]'(by rw[hT.len];exact hi),af _⟩
   have ex:x=V.ref b:=by rw[ai,hb0]at hx;simpa using hx.symm
   subst ex
   have hb:=sm _ _ (hT.each i b t hb0 ht)
   refine h9 ?_
   refine⟨_,rfl,b,_,rfl,.inr (SqT.of hb),λnb nnb=>?_⟩
   have s6:=eE (o:=.lst (t.map V.int)) nnb
   have nbq:nb≠q:=bK (eM hq nnb)
   refine⟨s6 _ _ hq,iE (by rw[aa];omega),bs ++ [nb],by rw[ar];rfl,by rw[ah,bl];rfl,eQ.upd (sm.trans s6) nq,eG,λj c u hc hu=>?_,?_⟩
   ·by_cases hj:j<bs.length
    ·rw[aq hj]at hc
     obtain⟨z1,z2,z3⟩:=ea j c u hc hu
     exact⟨z1,z2,by rw[eN z2];exact s6 _ _ z3⟩
    ·have hj2:j=bs.length:=by
      have:=(ag.mp hc).1
      rw[ah,aQ]at this
      omega
     rw[hj2,az (ao _),br]at hc
     cases hc
     rw[hj2,bl,ht]at hu
     cases hu
     exact⟨eQ.free sm nnb,nbq,by rw[eN nbq];exact eG⟩
   ·rw[bC]
    refine⟨nd,by simp,λx hx y hy=>?_⟩
    have hy:y=nb:=by simpa using hy
    subst hy
    obtain⟨j,hj,e⟩:=bU.mp hx
    obtain⟨_,_,z3⟩:=ea j x (ts[j]'(by omega)) (by rw[af hj,e]) (af _)
    exact eM z3 nnb
  ·rintro acc H' ⟨bs,rfl,bl,sm,hq,ea,nd⟩
   exact k q bs _ ⟨sm,nq,hq,bl,ea,nd⟩
end
theorem Cr {t u:TS}{D:Ends}{σ:St}{H:Hp}(J:St->Hp->Prop)(first:∀ nx:St->Hp->Prop,(∀ σ' H',J σ' H'->nx σ' H')->t {D with nx:=nx} σ H)(rest:∀ σ' H',J σ' H'->u D σ' H'):nT t u D σ H:=
 first (u D) rest
abbrev R3:=List Int×Nat×Nat
def sJ (H0 H:Hp)(r:R3)(v:V):Prop:=∃ ad a,v = .ref ad/\H ad=some (.tup [.ref a,vI r.2.1,vI r.2.2])/\H a=some (.lst (r.1.map V.int))/\H0 a=none
theorem sJ.mono {H0 H H':Hp}(r:R3)(v:V)(s:eQ H H')(h:sJ H0 H r v):sJ H0 H' r v:=h.imp λ_ h=>h.imp λ_ h=>⟨h.1,s _ _ h.2.1,s _ _ h.2.2.1,h.2.2.2⟩
structure qh (H0 H:Hp)(q:Addr)(rows:List R3)(vs:List V):Prop where
 at_:H q=some (.lst vs)
 new:H0 q=none
 pw:Pw (sJ H0 (hid q H)) rows vs
theorem qh.same {H0 H H':Hp}{q:Addr}{rows:List R3}{vs:List V}(h:qh H0 H q rows vs)(s:eQ H H'):qh H0 H' q rows vs:=⟨s _ _ h.at_,h.new,h.pw.imp λr v=>sJ.mono r v (mW s)⟩
def cn (l:Ln)(tr:List Int)(r:Nat)(t:List Int)(w:Str):Nat:=(cnt l tr r (t,w)).getD 0
def oI (l:Ln)(tr:List Int)(r:Nat)(ts:List (List Int)):List R3:=ts.map λt=>(t,cn l tr r t onW,cn l tr r t ir)
def oH (l:Ln)(tr:List Int)(r:Nat)(gs:List Int):Str:=if cn l tr r gs onW<=cn l tr r gs ir then onW else ir
structure E9 (K:PySem.W.Frag)(c2 c5:Addr)(l:Ln)(ns gs:List Int)(H:Hp)(Q:VK)(E:XK):Prop where
 bad:¬gOk l ns gs->∀ H',eQ H H'->∀ e,H' e=none->E (.ref c2) (some e) H'
 many:gOk l ns gs->(∃ i,300<(fb l ns i).length)->∀ H',eQ H H'->∀ e,H' e=none->E (.ref c5) (some e) H'
 no:gOk l ns gs->∀ i,(fb l ns i).length=i->i<=300->gs∉(fb l ns i).map (·.1)->∀ r q bs H',pG H H' q bs ((fb l ns i).map (·.1))->H' r=some (.tup [.str "none",.ref q])->H r=none->Q (.ref r) H'
 yes:gOk l ns gs->∀ i,(fb l ns i).length=i->i<=300->gs∈(fb l ns i).map (·.1)->∀ r t q1 run q2 us H',(rnd l ns r).2 = []->eQ H H'->xq K H' q1 run->H q1=none->pE (rnd l ns r).1 (gs,oH l ns r gs) run->qh H H' q2 (oI l ns r ((fb l ns i).map (·.1))) us->q1≠q2->H' t=some (.tup [.str "run",.ref q1,.ref q2])->H t=none->Q (.ref t) H'
def tE (K:PySem.W.Frag)(c2 c5:Addr):Sp:=λvs H Q E=>∃ (v u g:V) (l:Ln) (ns gs:List Int),vs = [v,u,g]/\Da K H (dL l) v/\Da K H (dI ns) u/\Da K H (dI gs) g/\fC l/\ns≠ []/\ns.length<=900/\i6 l ns/\gs.length<=900/\E9 K c2 c5 l ns gs H Q E
abbrev mL:Stmt:=top 26
theorem jH:fu ["line","train","goal","standings","aim","counts","steps","word","ways"] ["line","train","goal"] (eS mL):=⟨rfl,rfl,rfl,by decide +kernel,rfl,by decide +kernel,by decide +kernel⟩
theorem qy:fG (eS mL) ["line","train","goal","standings","aim","counts","steps","word","ways"] {kind:=.function,names:=[(Str.ofString ".0",.local),(Str.ofString "standing",.local),(Str.ofString "list",.globalImplicit),(Str.ofString "counts",.free)],isGenerator:=false,isCoroutine:=false,more:=[]} ["standing","counts"] 1 [none,some 5]:=⟨rfl,by decide +kernel,by decide +kernel,by decide +kernel,rfl,by decide +kernel,rfl,by decide +kernel⟩
section
variable {P:Program}{w:World}{K:PySem.W.Frag}{mg:Str->Option Value}{base:Heap}{f:Addr}{fd:FuncData}{c2 c5:Addr}
theorem zL {f1 f2 f3 f4 f5:Addr}{fd1 fd2 fd3 fd4 fd5:FuncData}(F:Fn K mg "fewest" mL ["line","train","goal"] f fd)(B:Bm mg)
  (iZ:Fn K mg "check_goal" ko ["line","train","goal"] f1 fd1) (mD:fh P w K mg base (CXr P w base) 3 f1 fd1 ["line","train","goal"] (yv K c2))
  (iN:Fn K mg "first_steps" jT ["line","train"] f2 fd2) (lP:fh P w K mg base (CXr P w base) 4 f2 fd2 ["line","train"] (vR K c5))
  (jM:Fn K mg "lists_of" kP ["standings"] f3 fd3) (hG:Fn K mg "run_back_from" i9 ["steps","goal"] f4 fd4) (kK:Fn K mg "counted" lT ["line","train"] f5 fd5) (qk:fh P w K mg base CX0 5 f5 fd5 ["line","train"] (rm P w K)):
  fh P w K mg base (CXr P w base) 6 f fd ["line","train","goal"] (tE K c2 c5):=by
 have yl:fh P w K mg base CX0 1 f3 fd3 ["standings"] (tD K):=uT jM B
 have qJ:fh P w K mg base CX0 1 f4 fd4 ["steps","goal"] (vT P w K):=oX hG
 refine F.F.okX jH (λvs H Q E h=>?_) (λcdv A outer s H vs Q E hr h=>?_)
 ·obtain⟨v,u,g,l,ns,gs,rfl,_⟩:=h;rfl
 ·obtain⟨v,u,g,l,ns,gs,rfl,hv,hu,hg,ok,hne,hz,T,gl,k⟩:=h
  obtain⟨b,rfl,hb⟩:=gz.mp hg
  refine⟨_,(eJ (gH (eU mD (hr.mono (by decide)) rfl iZ.m iZ.F.kp iZ.b .nil pQ (eD (pv 0) (eD (pv 1) (eD (pv 2) eI)))))
 (eJ (eY (i:=3) jH.nd rfl (Or.inl rfl) (fj (vF rfl) rfl B.list df (eD (eU lP (hr.mono (by decide)) rfl iN.m iN.F.kp iN.b .nil pQ (eD (pv 0) (eD (pv 1) eI))) eI)))
 (eJ (eY (i:=4) jH.nd rfl (Or.inl rfl) (fj fD rfl B.tuple b8 (eD (pv 2) eI)))
 (eJ (fQ (g7 (kE hr.units) (pv 4) (pv 3) (by with_unfolding_all rfl))
 (eL (fm (fw (eD g8 (eD (eU yl (hr.mono (by decide)) rfl jM.m jM.F.kp jM.b .nil fi (eD (pv 3) eI)) eI))))) fk)
 (eJ (kU (eU qk (hr.mono (by decide)) rfl kK.m kK.F.kp kK.b .nil fi (eD (pv 0) (eD (pv 1) eI))) (gN (n:=2) rfl (eW (eT (i:=5) jH.nd rfl (Or.inr rfl)) (eW (eT (i:=6) jH.nd rfl (Or.inl rfl)) fZ))))
 (eJ (eY (i:=7) jH.nd rfl (Or.inl rfl) (AW (ft (FT (oW (lh hr) (pv 5) (fw (eD (pv 4) (eD g8 eI))) (λ_ _=>rfl)) (oW (lh hr) (pv 5) (fw (eD (pv 4) (eD g8 eI))) (λ_ _=>rfl)))) g8 g8))
 (eJ (qv (i:=8) jH.nd rfl rfl (fy (pv 3)) rfl qy (.name (by decide)) (λ_ _ _ _=>(eT (i:=0) qy.nd rfl (Or.inl rfl))) (λ_ _ _ _=>gj) (λ_ _ _ _=>(fw (eD (fj (lM (K:=K) rfl) rfl B.list df (eD (pv 0) eI)) (eD (wb (P:=P) (w:=w) rfl rfl (lh hr) (pv 1) (fw (eD (pv 0) (eD g8 eI))) (λ_ _=>rfl)) (eD (wb (P:=P) (w:=w) rfl rfl (lh hr) (pv 1) (fw (eD (pv 0) (eD g8 eI))) (λ_ _=>rfl)) eI))))))
 (eL (fm (fw (eD g8 (eD (eU qJ (hr.mono (by decide)) rfl hG.m hG.F.kp hG.b .nil fi (eD (pv 6) (eD (fw (eD (pv 4) (eD (pv 7) eI))) eI))) (eD (pv 8) eI))))))))))))),?_⟩
  refine⟨_,rfl,_,rfl,_,rfl,_,_,_,l,ns,gs,rfl,hv,hu,hg,ok,gl,λgo H1 s1=>?_,λgo H1 s1 e he=>k.bad go H1 s1 e he⟩
  refine⟨_,rfl,_,rfl,_,_,l,ns,rfl,Da.same s1 hv,Da.same s1 hu,ok,hne,hz,T,λi d us H2 hi EC s2 nd hs2=>?_,λz H2 s2 e he=>k.many go z H2 (s1.trans s2) e he⟩
  have E2:=jm ok T hne i
  have S2:=s1.trans s2
  have kl:(((fb l ns i).zip us).map λp=>(kyI p.1.1,p.2)).length=(fb l ns i).length:=by rw[aa,cB,hs2.len];omega
  refine⟨d,_,rfl,hs2.at_,λp bs np bl be=>?_⟩
  have TL2:yk (upd H2 p (.lst (bs.map V.ref))) p bs ((fb l ns i).map (·.1)):=by
   refine⟨eG,by rw[bl,kl,aa],λj c t hc ht=>eE np _ _ ?_⟩
   rw[ai]at ht
   cases q:(fb l ns i)[j]? with
   |none=>rw[q]at ht;cases ht
   |some e=>
    rw[q]at ht
    cases ht
    have hj:j<us.length:=by rw[hs2.len];exact(ag.mp q).1
    have hz':((fb l ns i).zip us)[j]? = some (e,us[j]):=List.getElem?_zip_eq_some.mpr ⟨q,af hj⟩
    have:=be j c (kyI e.1,us[j]) hc (by rw[ai,hz'];rfl)
    rwa [iy]at this
  have s3:=eE (o:=.lst (bs.map V.ref)) np
  have S3:=S2.trans s3
  generalize upd H2 p _=H3 at s3 S3 TL2 ⊢
  refine⟨_,rfl,b,_,rfl,.inl ⟨S3.seq hb,λt nt=>?_⟩⟩
  have s4:=eE (o:=.tup (gs.map V.int)) nt
  have ht:=eG (H:=H3) (a:=t) (o:=.tup (gs.map V.int))
  have TL4:=TL2.same s4
  have S4:=S3.trans s4
  generalize upd H3 t _=H4 at s4 ht TL4 S4 ⊢
  refine⟨_,rfl,_,rfl,_,dTu gs,TL4.da,DB ht,CH _,A8 _,_,rfl,?_⟩
  rw[EZ]
  refine fN (λhn=>?_) (λhn=>?_)
  ·have hn:gs∉(fb l ns i).map (·.1):=by simpa using hn
   refine⟨_,rfl,p,bs,_,rfl,TL4,by rw[aa];omega,λq bs' H5 FR=>⟨by show 2<=sizeLine;decide,λr nr=>?_⟩⟩
   have s5:=eE (o:=.tup [.str "none",.ref q]) nr
   exact k.no go i hi EC hn r q bs' _ (pG.post s5 (FR.pre S4)) eG (eQ.free (S4.trans FR.same) nr)
  ·have hn:gs∈(fb l ns i).map (·.1):=by simpa using hn
   refine⟨_,rfl,_,rfl,v,u,l,ns,i,rfl,Da.same S4 hv,Da.same S4 hu,ok,hne,hz,T,hi,EC,λr t5 cd sd kvs cs us5 H5 he s5 ht5 N5 D5 BD=>?_⟩
   refine⟨t5,_,rfl,SqT.of ht5,rfl,_,_,rfl,_,_,rfl,rfl,?_⟩
   obtain⟨_,htr,hsh⟩:=qT ok T hne hi
   have jl:∀ t∈(fb l ns i).map (·.1),∀ m∈mvs l t,m.2∈(fb l ns i).map (·.1):=λt ht=>(hsh t ht).2
   have full:=RC.full ok (RC.of jl htr (by rw[aa];omega) r) he i
   have BN:=gM.rnd jl htr r
   have RN:=RO.rnd jl htr r
   have rl:=RN.len
   have both:∀ t∈(fb l ns i).map (·.1),∀ wd,isW wd->(t,wd)∈sts (rnd l ns r)/\valN kvs (kS (t,wd))=some (vI (cn l ns r t wd)):=λt ht wd hw=>by
    obtain⟨e,he',rfl⟩:=ak.mp ht
    obtain⟨h1,h2⟩:=full e he' wd hw
    refine⟨h1,?_⟩
    rw[BD]
    unfold cn
    obtain⟨n,hn'⟩:=eg.mp h2
    rw[hn'];rfl
   have S5:=S4.trans s5
   have TL5:=TL4.same s5
   have CT:=s5 _ _ ht
   have Bc:∀ {G:Hp}{c b:Addr}{t:List Int}{wd:Str},G c=some (.tup [.ref b,.str wd])->G b=some (.tup (t.map V.int))->iW G c (kS (t,wd)):=λ{G c b t wd} h1 h2=>⟨b,h1,by rw[show(kS (t,wd)).1=kyI t from rfl,iy];exact h2⟩
   have hWd:isW (oH l ns r gs):=by
    unfold oH
    split
    ·exact .inl rfl
    ·exact .inr rfl
   dsimp only
   refine Cr (λσ G=>σ = [some v,some u,some (.ref b),some (.ref p),some (.ref t),some (.ref cd),some (.ref sd),some (.str (oH l ns r gs)),none]/\eQ H5 G) (λnx hJ=>?_) (λσ' G hj=>?_)
   ·refine⟨_,rfl,_,rfl,by show 2<=sizeLine;decide,λc1 nc1=>?_⟩
    have z1:=eE (o:=.tup [.ref t,.str "on"]) nc1
    have y1:=eG (H:=H5) (a:=c1) (o:=.tup [.ref t,.str "on"])
    generalize upd H5 c1 _=G1 at z1 y1 ⊢
    refine⟨cd,kvs,c1,kS (gs,onW),_,rfl,rfl,D5.same z1,Bc y1 (z1 _ _ CT),(both gs hn onW (.inl rfl)).2,?_⟩
    refine⟨_,rfl,_,rfl,by show 2<=sizeLine;decide,λc2' nc2=>?_⟩
    have z2:=z1.trans (eE (o:=.tup [.ref t,.str "back"]) nc2)
    have y2:=eG (H:=G1) (a:=c2') (o:=.tup [.ref t,.str "back"])
    generalize upd G1 c2' _=G2 at z2 y2 ⊢
    refine⟨cd,kvs,c2',kS (gs,ir),_,rfl,rfl,D5.same z2,Bc y2 (z2 _ _ CT),(both gs hn ir (.inr rfl)).2,?_⟩
    refine⟨_,_,rfl,rfl,_,rfl,fN (λh=>?_) (λh=>?_)⟩
    ·have h:(cn l ns r gs onW:Int)<=(cn l ns r gs ir:Int):=by simpa using h
     refine hJ _ _ ⟨?_,z2⟩
     unfold oH
     rw[aJ (by omega)]
     rfl
    ·have h:¬(cn l ns r gs onW:Int)<=(cn l ns r gs ir:Int):=by simpa using h
     refine hJ _ _ ⟨?_,z2⟩
     unfold oH
     rw[aF (by omega)]
     rfl
   ·obtain⟨rfl,z5⟩:=hj
    have TL6:=TL5.same z5
    have D6:=D5.same z5
    have N6:=N5.same z5
    have ht6:=z5 _ _ CT
    have S6:=S5.trans z5
    clear BD D5 N5 TL5 TL4 CT
    refine⟨_,rfl,p,rfl,⟨_,SqL.of TL6.at_⟩,λq nq=>?_⟩
    refine Bu ((fb l ns i).map (·.1)).length (oI l ns r ((fb l ns i).map (·.1))) (sJ H) (λr v=>sJ.mono r v) nq (by simp[oI]) (iE (by rw[aa];omega)) (λj G' sm hj=>⟨_,(bs.map V.ref)[j]'(by rw[aa,TL6.len];exact hj),SqL.of (sm _ _ TL6.at_),af _⟩) (λG' sm=>⟨_,SqL.of (sm _ _ TL6.at_),by rw[aa,TL6.len];exact ao _⟩) ?_ ?_
    ·rintro j x rw3 G6 G7 sm ⟨acc,hq⟩ ⟨rfl,hx⟩ hr3 P1 P0 kk
     have hx:=hx _ (SqL.of (sm _ _ TL6.at_))
     unfold oI at hr3
     rw[ai]at hr3
     cases hts:((fb l ns i).map (·.1))[j]? with
     |none=>rw[hts]at hr3;cases hr3
     |some tt=>
      rw[hts]at hr3
      cases hr3
      have htm:=aw hts
      have hjb:j<bs.length:=by rw[TL6.len];exact(ag.mp hts).1
      have hb0:bs[j]? = some bs[j]:=af hjb
      generalize bs[j]=bb at hb0
      have ex:x=V.ref bb:=by rw[ai,hb0]at hx;simpa using hx.symm
      subst ex
      have hbb:=sm _ _ (TL6.each j bb tt hb0 hts)
      refine h9 ?_
      refine⟨_,rfl,bb,_,rfl,.inr (SqT.of hbb),λnb nnb=>?_⟩
      have w1:=eE (o:=.lst (tt.map V.int)) nnb
      have hnb:=eG (H:=G7) (a:=nb) (o:=.lst (tt.map V.int))
      generalize upd G7 nb _=G8 at w1 hnb ⊢
      refine⟨_,rfl,_,rfl,by show 2<=sizeLine;decide,λc1 nc1=>?_⟩
      have w2:=w1.trans (eE (o:=.tup [.ref bb,.str "on"]) nc1)
      have y1:=eG (H:=G8) (a:=c1) (o:=.tup [.ref bb,.str "on"])
      have GD:=eE (o:=.tup [.ref bb,.str "on"]) nc1 _ _ hnb
      generalize upd G8 c1 _=G9 at w2 y1 GD ⊢
      refine⟨cd,kvs,c1,kS (tt,onW),_,rfl,rfl,D6.same (sm.trans w2),Bc y1 (w2 _ _ hbb),(both tt htm onW (.inl rfl)).2,?_⟩
      refine⟨_,rfl,_,rfl,by show 2<=sizeLine;decide,λc2' nc2=>?_⟩
      have w3:=w2.trans (eE (o:=.tup [.ref bb,.str "back"]) nc2)
      have y2:=eG (H:=G9) (a:=c2') (o:=.tup [.ref bb,.str "back"])
      have GC:=eE (o:=.tup [.ref bb,.str "back"]) nc2 _ _ GD
      generalize upd G9 c2' _=G10 at w3 y2 GC ⊢
      refine⟨cd,kvs,c2',kS (tt,ir),_,rfl,rfl,D6.same (sm.trans w3),Bc y2 (w3 _ _ hbb),(both tt htm ir (.inr rfl)).2,?_⟩
      refine⟨by show 3<=sizeLine;decide,λnt nnt=>kk _ _ (w3.trans (eE nnt)) ?_⟩
      have nbq:nb≠q:=(eM hq nnb).symm
      have ntq:nt≠q:=(eM (w3 _ _ hq) nnt).symm
      exact⟨nt,nb,rfl,by rw[fU ntq,eG],by rw[fU nbq];exact eE nnt _ _ GC,eQ.free (S6.trans sm) nnb⟩
    ·intro vs8 G8 sm h8 D8
     refine⟨_,rfl,_,rfl,_,rfl,by show 2<=sizeLine;decide,λc3 nc3=>?_⟩
     have w1:=eE (o:=.tup [.ref t,.str (oH l ns r gs)]) nc3
     have y3:=eG (H:=G8) (a:=c3) (o:=.tup [.ref t,.str (oH l ns r gs)])
     generalize upd G8 c3 _=G9 at w1 y3 ⊢
     have w2:=sm.trans w1
     refine⟨sd,c3,_,cs,us5,(gs,oH l ns r gs),rfl,N6.same w2,Bc y3 (w2 _ _ ht6),(both gs hn _ hWd).1,BN,RN.nd,by rw[aa]at rl;omega,λq1 run G10 w3 nq1 ra pn=>⟨_,rfl,by show 3<=sizeLine;decide,λt9 nt9=>?_⟩⟩
     have w4:=eE (o:=.tup [.str "run",.ref q1,.ref q]) nt9
     have S8:=S6.trans w2
     have R8:qh H G9 q (oI l ns r ((fb l ns i).map (·.1))) vs8:=(qh.mk h8 (eQ.free S6 nq) D8).same w1
     have hqq:q1≠q:=bK (eM R8.at_ nq1)
     exact k.yes go i hi EC hn r t9 q1 run q vs8 _ he ((S8.trans w3).trans w4) (ra.same w4) (eQ.free S8 nq1) pn ((R8.same w3).same w4) hqq eG (eQ.free (S8.trans w3) nt9)
end
noncomputable def dec (p:Prop):Bool:=@decide p (Classical.propDecidable p)
theorem uk {p:Prop}(h:p):dec p=true:=by unfold dec;exact @decide_eq_true p (Classical.propDecidable p) h
theorem md {p:Prop}(h:¬p):dec p=false:=by unfold dec;exact @decide_eq_false p (Classical.propDecidable p) h
theorem kz {p:Prop} :dec p=true↔p:=by unfold dec;exact @decide_eq_true_iff p (Classical.propDecidable p)
def yt (K:PySem.W.Frag):Sp:=λvs H Q _=>∃ (v u x:V) (l:Ln) (tr s:List Int),vs = [v,u,x]/\Da K H (dL l) v/\Da K H (dI tr) u/\Da K H (dI s) x/\fC l/\s.length<=900/\∀ H',eQ H H'->Q (.bl (dec (sP l tr s))) H'
def vU (K:PySem.W.Frag):Sp:=λvs H Q _=>∃ (v u x:V) (l:Ln) (tr:List Int) (ss:List (List Int)),vs = [v,u,x]/\Da K H (dL l) v/\Da K H (dI tr) u/\Da K H (dLI ss) x/\fC l/\ss.length<=1500/\(∀ s∈ss,s.length<=900)/\∀ H',eQ H H'->Q (.bl (dec (pC l tr ss))) H'
abbrev jS:Stmt:=top 19
theorem rD:fu ["line","train","listed"] ["line","train","listed"] (eS jS):=⟨rfl,rfl,rfl,by decide +kernel,rfl,by decide +kernel,by decide +kernel⟩
abbrev g9:Stmt:=top 20
theorem pM:fu ["line","train","standings"] ["line","train","standings"] (eS g9):=⟨rfl,rfl,rfl,by decide +kernel,rfl,by decide +kernel,by decide +kernel⟩
theorem lp:fG (eS g9) ["line","train","standings"] {kind:=.function,names:=[(Str.ofString ".0",.local),(Str.ofString "standing",.local),(Str.ofString "tuple",.globalImplicit)],isGenerator:=false,isCoroutine:=false,more:=[]} ["standing"] 1 [none]:=⟨rfl,by decide +kernel,by decide +kernel,by decide +kernel,rfl,by decide +kernel,rfl,by decide +kernel⟩
theorem ll:fG (eS g9) ["line","train","standings"] {kind:=.function,names:=[(Str.ofString ".0",.local),(Str.ofString "standing",.local),(Str.ofString "is_standing",.globalImplicit),(Str.ofString "line",.free),(Str.ofString "train",.free)],isGenerator:=false,isCoroutine:=false,more:=[]} ["standing","line","train"] 1 [none,some 0,some 1]:=⟨rfl,by decide +kernel,by decide +kernel,by decide +kernel,rfl,by decide +kernel,rfl,by decide +kernel⟩
section
variable {P:Program}{w:World}{K:PySem.W.Frag}{mg:Str->Option Value}{base:Heap}{f:Addr}{fd:FuncData}{c2:Addr}
theorem rQ {f1:Addr}{fd1:FuncData}(F:Fn K mg "is_standing" jS ["line","train","listed"] f fd)(XS:Xr K mg c2)(B:Bm mg)(fV:Fn K mg "check_train" iJ ["line","train"] f1 fd1)(iK:fh P w K mg base (CXr P w base) 2 f1 fd1 ["line","train"] (rn K c2)):
  fh P w K mg base CX0 3 f fd ["line","train","listed"] (yt K):=by
 refine F.F.ok rD (λvs H Q E h=>?_) (λcdv A outer s H vs Q E hr h=>?_)
 ·obtain⟨v,u,x,l,tr,s,rfl,_⟩:=h;rfl
 ·obtain⟨v,u,x,l,tr,s,rfl,hv,hu,hx,ok,hz,k⟩:=h
  obtain⟨a,rfl,hA⟩:=gz.mp hu
  obtain⟨b,rfl,hB⟩:=gz.mp hx
  refine⟨_,(eJ (fQ (ft (ox (fc fe rfl B.len bz (eD (pv 2) eI)) (fc fe rfl B.len bz (eD (pv 1) eI))))
 (eL (fm i7)) fk)
 (eJ (Cy rfl rfl rfl rfl XS.jB.m (λpn W E hW=>(eL (gH (A4 iK (hr.mono (by decide)) rfl fV.m fV.F.kp fV.b .nil hW (eD (pv 0) (eD (pv 2) eI)))))) (λe=>(eL (fm i7))))
 (eL (fm i7)))),?_⟩
  refine⟨_,rfl,b,_,rfl,.inl hB,_,rfl,a,_,rfl,.inl hA,_,_,rfl,rfl,_,rfl,fN (λh=>?_) (λh=>?_)⟩
  ·have h:¬(s.length:Int)=tr.length:=by simpa using h
   have h:¬s.length=tr.length:=by omega
   have:=k H (eQ.refl _)
   rw[md λz:sP l tr s=>h z.1]at this
   exact this
  have h:(s.length:Int)=tr.length:=by simpa using h
  have h:s.length=tr.length:=by omega
  refine⟨_,rfl,_,rfl,_,_,l,s,rfl,hv,hx,ok,hz,λhT H1 s1=>?_,λhT H1 s1 e ne=>?_⟩
  ·have:=k H1 s1
   rw[uk (show sP l tr s from⟨h,hT⟩)]at this
   exact this
  ·refine⟨e,c2,rfl,rfl,XS.cat,?_⟩
   have:=k _ (s1.trans (eE (o:=Ai e c2) ne))
   rw[md λz:sP l tr s=>hT z.2]at this
   exact this
theorem pT {f1:Addr}{fd1:FuncData}(F:Fn K mg "are_standings" g9 ["line","train","standings"] f fd)(B:Bm mg)(iM:Fn K mg "is_standing" jS ["line","train","listed"] f1 fd1)(lO:fh P w K mg base CX0 3 f1 fd1 ["line","train","listed"] (yt K)):
  fh P w K mg base CX0 4 f fd ["line","train","standings"] (vU K):=by
 refine F.F.ok pM (λvs H Q E h=>?_) (λcdv A outer s H vs Q E hr h=>?_)
 ·obtain⟨v,u,x,l,tr,ss,rfl,_⟩:=h;rfl
 ·obtain⟨v,u,x,l,tr,ss,rfl,hv,hu,hx,ok,hz,hzs,k⟩:=h
  obtain⟨a,us,rfl,hA,D⟩:=ic.mp hx
  have ul:us.length=ss.length:=by have:=Dgs.length D;rw[aa]at this;exact this
  refine⟨_,(eJ (fQ (ft (n8 (fc Ar rfl B.len bz (eD (Ec (j8 hr) (fy (pv 2)) rfl lp (.name (by decide)) (λ_ _ _ _=>(eT (i:=0) lp.nd rfl (Or.inl rfl))) (λ_ _ _ _=>gj) (λ_ _ _ _=>(fj (nk (K:=K) rfl) rfl B.tuple b8 (eD (pv 0) eI)))) eI)) (fc fe rfl B.len bz (eD (pv 2) eI))))
 (eL (fm i7)) fk)
 (eL (fm (fc (pB rfl) rfl B.all boot_all (eD (lW (fy (pv 2)) rfl ll (.name (by decide)) (λ_ _ _ _=>(eT (i:=0) ll.nd rfl (Or.inl rfl))) (λ_ _ _ _=>gj) (λ_ _ _ _=>(eU lO (hr.mono (by decide)) rfl iM.m iM.F.kp iM.b .nil fi (eD (pv 1) (eD (pv 2) (eD (pv 0) eI)))))) eI))))),?_⟩
  refine⟨_,rfl,a,rfl,⟨_,hA⟩,λp np=>?_⟩
  refine⟨λi m G=>m=ss.length-i/\i<=ss.length/\eQ H G/\∃ xs:List (List Key×Addr),G p=some (nW P w p xs)/\nu K G xs/\xs.length<=i/\(keysOf xs).Nodup/\∀ kk,kk∈keysOf xs↔kk∈(ss.take i).map kyI,⟨ss.length,by simp,aH _,eE np,[],eG,λx hx=>(nomatch hx),ao _,b6,λkk=>by simp[keysOf]⟩,?_⟩
  ·rintro i m G ⟨rfl,hi,sG,xs,hp,hT,xl,xnd,xm⟩
   by_cases hlt:i<ss.length
   ·refine .inr ⟨(gd hA).go i G sG (by omega),λG'=>(i+1)<=ss.length/\eQ H G'/\∃ xs:List (List Key×Addr),G' p=some (nW P w p xs)/\nu K G' xs/\xs.length<=i+1/\(keysOf xs).Nodup/\∀ kk,kk∈keysOf xs↔kk∈(ss.take (i+1)).map kyI,λG' ⟨n1,n2,n3⟩=>⟨ss.length-(i+1),by omega,rfl,n1,n2,n3⟩,λy G' yy=>?_⟩
    obtain⟨rfl,hy⟩:=(gd hA).yld i G y G' sG (by omega) yy
    obtain⟨st,ad,hst,rfl,hL⟩:=Dp (Das.same sG D) hy
    have htk:∀ kk,kk∈(ss.take (i+1)).map kyI↔kk∈(ss.take i).map kyI\/kk=kyI st:=λkk=>by
     rw[aV,hst,ar,aC]
     simp
    unfold mY AB
    dsimp only
    rw[aJ rfl]
    refine⟨_,rfl,ad,_,rfl,.inl ⟨hL,λb nb=>?_⟩⟩
    have sb:=eE (o:=.tup (st.map V.int)) nb
    refine⟨xs,kyI st,b,rfl,sb _ _ hp,hT.same sb,by rw[iy];exact SqT.of eG,by omega,λhk=>?_,λhk xs' pm=>?_⟩
    ·refine⟨hlt,sG.trans sb,xs,sb _ _ hp,hT.same sb,by omega,xnd,λkk=>?_⟩
     rw[htk,xm]
     exact⟨λz=>.inl z,λz=>z.elim id λe=>by rw[e];exact(xm _).mp hk⟩
    ·have hbp:(upd G' b (.tup (st.map V.int))) p=some (nW P w p xs):=sb _ _ hp
     refine⟨hlt,eQ.upd (sG.trans sb) np,xs',eG,λz hz=>?_,by rw[pm.length_eq,ah];show xs.length+1<=_;omega,?_,λkk=>?_⟩
     ·have hz':SqT K (upd G' b (.tup (st.map V.int))) z.2 (z.1.map kV):=by
       rcases aC.mp (pm.mem_iff.mp hz)with q |q
       ·exact fq sb (hT z q)
       ·rw[bw.mp q,iy];exact SqT.of eG
      rcases hz' with(q |⟨o,q⟩)|q
      ·exact .inl (.inl (by rw[eN λe=>by rw[e,hbp]at q;cases q];exact q))
      ·exact .inl (.inr ⟨o,by rw[eN λe=>by rw[e,hbp]at q;cases q];exact q⟩)
      ·exact .inr q
     ·have:(keysOf (xs ++ [(kyI st,b)])).Nodup:=by
       unfold keysOf
       rw[ar,bC]
       refine⟨xnd,by simp,λa ha b' hb'=>?_⟩
       have:b'=kyI st:=by simpa using hb'
       rw[this]
       exact λe=>hk (by rw[<-e];exact ha)
      exact(pm.map _).nodup_iff.mpr this
     ·have:kk∈keysOf xs'↔kk∈keysOf (xs ++ [(kyI st,b)]):=(pm.map _).mem_iff
      rw[this,htk,<-xm]
      unfold keysOf
      rw[ar,aC]
      simp
   ·have e:i=ss.length:=by omega
    subst e
    refine .inl ⟨by have:=(gd hA).stop G sG;rw[ul]at this;exact this,?_⟩
    rw[aW]at xm
    have hlt:=Eu xnd xm
    have kl:(keysOf xs).length=xs.length:=by unfold keysOf;rw[aa]
    rw[kl]at hlt
    refine⟨p,xs,rfl,hp,_,rfl,a,_,rfl,.inl (sG.seq hA),_,_,rfl,rfl,_,rfl,fN (λh=>?_) (λh=>?_)⟩
    ·have h:(xs.length:Int)<us.length:=by simpa using h
     have:=k G sG
     rw[md λz:pC l tr ss=>hlt.mp (by omega) z.1]at this
     exact this
    have h:¬(xs.length:Int)<us.length:=by simpa using h
    have hnd:ss.Nodup:=aM λz=>by have:=hlt.mpr z;omega
    refine⟨_,rfl,a,rfl,⟨_,sG.seq hA⟩,λq nq=>ve ss.length ss (λ_=>true) (λst=>V.bl (dec (sP l tr st))) nq rfl (bQ hz (by rw[cF];decide)) (λi G2 s2 hi=>(gd hA).go i G2 (sG.trans s2) (by omega)) (λG2 s2=>by have:=(gd hA).stop G2 (sG.trans s2);rw[ul]at this;exact this) ?_ ?_⟩
    ·intro i y d G2 G2' s2 yy hd P1 P0 p1 p0
     obtain⟨rfl,hy⟩:=(gd hA).yld i G2 y G2' (sG.trans s2) (by have:=(ag.mp hd).1;omega) yy
     obtain⟨st,ad,hst,rfl,hL⟩:=Dp (Das.same (sG.trans s2) D) hy
     rw[hd]at hst
     cases hst
     refine h9 ?_
     exact⟨_,rfl,_,rfl,_,rfl,_,_,_,l,tr,d,rfl,Da.same (sG.trans s2) hv,Da.same (sG.trans s2) hu,gz.mpr ⟨ad,rfl,hL⟩,ok,hzs d (aw hd),λG3 s3=>p1 G3 rfl s3⟩
    intro G2 s2 hq
    rw[iV]at hq
    refine⟨q,ss.map λst=>dec (sP l tr st),rfl,SqL.of (by rw[hq,bu];rfl),?_⟩
    have e:(ss.map λst=>dec (sP l tr st)).all id=dec (pC l tr ss):=by
     rw[bx,cv,kz]
     constructor
     ·exact λz=>⟨hnd,λst hs=>kz.mp (z _ (ak.mpr ⟨st,hs,rfl⟩))⟩
     ·rintro z b hb
      obtain⟨st,hs,rfl⟩:=ak.mp hb
      exact kz.mpr (z.2 st hs)
    rw[e]
    exact k G2 (sG.trans s2)
end
def rg (K:PySem.W.Frag):Sp:=λvs H Q _=>∃ (v:V) (l:Int×List (Int×Int)) (c n:Int),vs = [v,.int c,.int n]/\Da K H (dL l) v/\fC l/\0<=n/\n<=40/\
 ∀ (p:Addr) (ns:List Int) (H':Hp),eQ H H'->H p=none->H' p=some (.lst (ns.map V.int))->ns≠ []->ns.length<=40->(ns.length:Int)<=max 1 n->i6 l ns->Q (.ref p) H'
abbrev iS:Stmt:=top 37
theorem jr:fu ["_law_line_here","_law_cell","_law_length","_law_train_here","_law_k","_law_pieces","_law_some"] ["_law_line_here","_law_cell","_law_length"] (eS iS):=⟨rfl,rfl,rfl,by decide +kernel,rfl,by decide +kernel,by decide +kernel⟩
theorem m6:fG (eS iS) ["_law_line_here","_law_cell","_law_length","_law_train_here","_law_k","_law_pieces","_law_some"] {kind:=.function,names:=[(Str.ofString ".0",.local),(Str.ofString "_law_end",.local)],isGenerator:=false,isCoroutine:=false,more:=[]} ["_law_end"] 1 [none]:=⟨rfl,by decide +kernel,by decide +kernel,by decide +kernel,rfl,by decide +kernel,rfl,by decide +kernel⟩
theorem m3:fG (eS iS) ["_law_line_here","_law_cell","_law_length","_law_train_here","_law_k","_law_pieces","_law_some"] {kind:=.function,names:=[(Str.ofString ".0",.local),(Str.ofString "_law_end",.local),(Str.ofString "_law_pieces",.free)],isGenerator:=false,isCoroutine:=false,more:=[]} ["_law_end","_law_pieces"] 1 [none,some 5]:=⟨rfl,by decide +kernel,by decide +kernel,by decide +kernel,rfl,by decide +kernel,rfl,by decide +kernel⟩
section
variable {P:Program}{w:World}{K:PySem.W.Frag}{mg:Str->Option Value}{base:Heap}{f:Addr}{fd:FuncData}{D c1 c2 c3 c4 c5 c6 c7:Addr}
theorem uU {f1 f2 f3:Addr}{fd1 fd2 fd3:FuncData}(F:Fn K mg "_law_train" iS ["_law_line_here","_law_cell","_law_length"] f fd)(eR:Fn K mg "_law_mix" je ["_law_cell","_law_k"] f1 fd1)(eX:Fn K mg "_law_other" iq ["_law_end"] f2 fd2)
  (fo:Fn K mg "_law_joined" hX ["_law_line_here","_law_end"] f3 fd3) (B:Bl mg):fh P w K mg base CX0 2 f fd ["_law_line_here","_law_cell","_law_length"] (rg K):=by
 have fJ:fh P w K mg base CX0 1 f1 fd1 ["_law_cell","_law_k"] pL:=kY eR B
 have gU:fh P w K mg base CX0 1 f2 fd2 ["_law_end"] jq:=jA eX
 have iX:fh P w K mg base CX0 1 f3 fd3 ["_law_line_here","_law_end"] (jG K):=lL fo B
 refine F.F.ok jr (λvs H Q E h=>?_) (λcdv A outer s H vs Q E hr h=>?_)
 ·obtain⟨v,l,c,n,rfl,_⟩:=h;rfl
 ·obtain⟨v,l,c,n,rfl,hv,ok,h1,h40,k⟩:=h
  obtain⟨a,b,rfl,ht,us,hl,hq⟩:=kA hv
  have o1:=ok.one
  refine⟨_,(eJ (eY (i:=3) jr.nd rfl (Or.inl rfl) (fP (eD (eV fI (eU fJ (hr.mono (by decide)) rfl eR.m eR.F.kp eR.b .nil fi (eD (pv 1) (eD eK eI))) (eV ix eK (fE gZ (pv 0) eK (λ_ _=>rfl)))) eI)))
 (eJ (gY aS rfl (tU rfl B.range (eD eK (eD (pv 2) eI))) (eT (i:=4) jr.nd rfl (Or.inl rfl))
 (eJ (eY (i:=5) jr.nd rfl (Or.inr rfl) (lW (fy (pv 3)) rfl m6 (.name (by decide)) (λ_ _ _ _=>(eT (i:=0) m6.nd rfl (Or.inl rfl))) (λ_ _ _ _=>gj) (λ_ _ _ _=>(eV gu (pv 0) eK))))
 (eJ (qv (i:=6) jr.nd rfl rfl (fy (eU iX (hr.mono (by decide)) rfl fo.m fo.F.kp fo.b .nil fi (eD (pv 0) (eD (eU gU (hr.mono (by decide)) rfl eX.m eX.F.kp eX.b .nil fi (eD (fE fK (pv 3) (nZ lI eK) (λ_ _=>rfl)) eI)) eI)))) rfl m3 (.name (by decide)) (λ_ _ _ _=>(eT (i:=0) m3.nd rfl (Or.inl rfl))) (λ_ _ _ _=>(lV (g7 (rO (K:=K) rfl hr.units) (eV gu (pv 0) eK) (pv 1) (by with_unfolding_all rfl)))) (λ_ _ _ _=>(pv 0)))
 (eJ (fQ (g7 (uS hr.units) (pv 6) (fP eI) (ka _))
 (eL (fm (pv 3))) fk)
 (eL (gH (ki aK aY aX gI (pv 3) (eD (fE fK (pv 6) (eV fI (eU fJ (hr.mono (by decide)) rfl eR.m eR.F.kp eR.b .nil fi (eD (pv 1) (eD (pv 4) eI))) (fc fe rfl B.len bz (eD (pv 6) eI))) (λ_ _=>rfl)) eI))))))))
 (eL (fm (pv 3))))),?_⟩
  refine⟨_,rfl,c,0,rfl,by decide,by decide,λm m0 m1=>⟨_,rfl,a,_,_,_,rfl,rfl,ht,rfl,_,_,rfl,rfl,.inl ⟨by decide,by decide⟩,_,_,rfl,rfl,(by show(0:Int)<2*l.1;omega),by show 1<=sizeLine;decide,λt nt=>?_⟩⟩
  have e0:0<=m%(2*l.1):=cf _ (by omega)
  have e1:m%(2*l.1)<2*l.1:=bR _ (by omega)
  refine⟨_,rfl,1,n,rfl,⟨by decide,by decide,by omega,by omega⟩,nQ (λi σ H3=>∃ (ns:List Int) (x4 x5 x6:Option V),σ = [some (.ref a),some (.int c),some (.int n),some (.ref t),x4,x5,x6]/\eQ H H3/\H3 t=some (.lst (ns.map V.int))/\ns≠ []/\ns.length=i+1/\i6 l ns)
   ⟨[m%(2*l.1)],none,none,none,rfl,eE nt,eG,by simp,rfl,⟨λe he=>(by rw[bw.mp he];exact⟨e0,e1⟩),by simp,λi x y hx hy=>by simp at hy⟩⟩ ?_ ?_⟩
  ·rintro i σ H3 hi ⟨ns,x4,x5,x6,rfl,S3,ht3,hne,nl,T⟩
   have hi':i+1<=39:=by
    have h:i<(n-1).toNat:=hi
    omega
   refine⟨_,rfl,t,rfl,⟨_,SqL.of ht3⟩,λpc npc=>jU ns (λ_=>true) (λe=>V.int (e/2)) npc (SqL.of ht3) (by rw[aa]) (by rw[aa];exact jQ (by omega)) ?_ ?_⟩
   ·intro j x d H' hx hd sm P1 P0 k1 k0
    rw[ai,hd]at hx
    cases hx
    refine h9 ?_
    exact⟨_,rfl,_,_,rfl,rfl,⟨by decide,by decide⟩,k1 rfl⟩
   rw[iV]
   have e1:(ns.map λe=>V.int (e/2))=(ns.map (· / 2)).map V.int:=by rw[bu];rfl
   rw[e1]
   have s4:eQ H3 (upd H3 pc (.lst ((ns.map (· / 2)).map V.int))):=eE npc
   refine⟨_,rfl,_,rfl,_,rfl,t,_,_,_,rfl,rfl,SqL.of (s4 _ _ ht3),vG hne,_,rfl,_,l,_,rfl,Da.same (S3.trans s4) hv,ok,λp H5 s5 hp hp2=>⟨p,rfl,⟨_,SqL.of hp2⟩,λq nq=>jU (jn l.2 (oth (ns.getLastD 0))) (λt=> !decide (t/2∈ns.map (· / 2))) (λt=>V.int t) nq (SqL.of hp2) (by rw[aa]) ?_ ?_ ?_⟩⟩
   ·rw[aa]
    refine jQ ?_
    unfold jn
    rw[mj,ah]
    have:=nR ok (oth (ns.getLastD 0))
    omega
   ·intro j x d H' hx hd sm P1 P0 k1 k0
    rw[ai,hd]at hx
    cases hx
    have hD:Da K H' (.list ((ns.map (· / 2)).map .int)) (.ref pc):=Da.same (s5.trans sm) (gP eG)
    refine⟨_,rfl,_,_,rfl,rfl,⟨by decide,by decide⟩,_,rfl,_,.int (d/2),hD,gw.mpr rfl,pU _,nN _,_,rfl,?_⟩
    rw[uz]
    exact fN (λh=>⟨_,rfl,k1 h⟩) (λh=>k0 (by simpa using h))
   have efr:((jn l.2 (oth (ns.getLastD 0))).filter λt=> !decide (t/2∈ns.map (· / 2)))=fr l ns (oth (ns.getLastD 0)):=rfl
   rw[efr]
   have S6:eQ H3 (upd H5 q (.lst ((fr l ns (oth (ns.getLastD 0))).map V.int))):=(s4.trans s5).trans (eE nq)
   refine⟨_,rfl,aH _,λe ne=>?_⟩
   have s7:=eE (o:=.lst []) ne
   have hq7:=s7 _ _ (eG (H:=H5) (a:=q) (o:=.lst ((fr l ns (oth (ns.getLastD 0))).map V.int)))
   refine⟨dI (fr l ns (oth (ns.getLastD 0))),.list [],gP hq7,gP (ns:=[]) eG,j7 _,qP,_,rfl,?_⟩
   have ee:PyData.eqv (dI (fr l ns (oth (ns.getLastD 0)))) (.list [])=((fr l ns (oth (ns.getLastD 0))).map PyData.int).isEmpty:=ky _
   rw[ee]
   refine fN (λ_=>?_) (λhem=>?_)
   ·exact⟨_,rfl,k t ns _ (S3.trans (S6.trans s7)) nt (s7 _ _ (S6 _ _ ht3)) hne (by omega) (by have h:i<(n-1).toNat:=hi;omega) T⟩
   ·have Aa:0<(fr l ns (oth (ns.getLastD 0))).length:=by
     cases hh:fr l ns (oth (ns.getLastD 0))with
     |nil=>rw[hh]at hem;exact absurd rfl hem
     |cons x r=>simp
    refine⟨_,rfl,.inl ⟨rfl,_,SqL.of (s7 _ _ (S6 _ _ ht3))⟩,_,rfl,_,rfl,_,rfl,c,_,rfl,by show(0:Int)<=1+(i:Int);omega,by show 1+(i:Int)<=1000;omega,λm m0 m1=>?_⟩
    have r0:0<=m%((fr l ns (oth (ns.getLastD 0))).length:Int):=cf _ (by omega)
    have r1:m%((fr l ns (oth (ns.getLastD 0))).length:Int)<((fr l ns (oth (ns.getLastD 0))).length:Int):=bR _ (by omega)
    obtain⟨x,_,pZ,hat⟩:=vH r0 r1
    refine⟨_,rfl,q,_,rfl,.inl (SqL.of hq7),_,_,rfl,rfl,?_,q,_,_,V.int x,rfl,rfl,SqL.of hq7,?_,t,_,_,rfl,rfl,s7 _ _ (S6 _ _ ht3),?_,?_⟩
    ·show(0:Int)<(((fr l ns (oth (ns.getLastD 0))).map V.int).length:Int)
     rw[aa];omega
    ·show atI _ (m%(((fr l ns (oth (ns.getLastD 0))).map V.int).length:Int))=_
     rw[aa];exact hat
    ·rw[aa];exact jQ (by omega)
    refine⟨ns ++ [x],_,_,_,rfl,eQ.upd (S3.trans (S6.trans s7)) nt,?_,by simp,by rw[ah,nl];rfl,T.snoc ok hne pZ⟩
    rw[eG,ar];rfl
  rintro σ H3 ⟨ns,x4,x5,x6,rfl,S3,ht3,hne,nl,T⟩
  refine⟨_,rfl,k t ns _ S3 nt ht3 hne ?_ (by rw[nl];omega) T⟩
  have h:ns.length=(n-1).toNat+1:=nl
  omega
end
structure WD (H:Hp)(d:Addr)(kvs:List (List Key×V))(lk:List Int->Option (Int×Int)):Prop where
 rd:Rd H d (.dT kvs)
 no:∀ s,lk s=none->jo kvs (kyI s)=none
 yes:∀ s a b,lk s=some (a,b)->∃ c,jo kvs (kyI s)=some (.ref c)/\H c=some (.tup [.int a,.int b])
theorem Ct {H H':Hp}{a:Addr}{u:HO}(h:Rd H a u)(s:eQ H H'):Rd H' a u:=h.elim (λz=>.inl (s _ _ z)) λ⟨o,z⟩=>.inr ⟨o,s _ _ z⟩
theorem WD.same {H H':Hp}{d:Addr}{kvs:List (List Key×V)}{lk:List Int->Option (Int×Int)}(h:WD H d kvs lk)(s:eQ H H'):WD H' d kvs lk:=⟨Ct h.rd s,h.no,λt a b e=>(h.yes t a b e).imp λc z=>⟨z.1,s _ _ z.2⟩⟩
theorem WD.get {H:Hp}{d b:Addr}{kvs:List (List Key×V)}{lk:List Int->Option (Int×Int)}(h:WD H d kvs lk){s:List Int}(hb:H b=some (.tup (s.map V.int))):pH H d (.ref b) (jo kvs (kyI s)):=.inr ⟨_,kyI s,b,h.rd,rfl,by rw[iy];exact hb,rfl⟩
def oJ (l:Ln)(lk:List Int->Option (Int×Int))(t:List Int)(on bk:Int):Prop:=(on<=bk+1/\bk<=on+1)/\∀ m∈mvs l t,∃ a b,lk m.2=some (a,b)/\(m.1.1=Str.ofString "on" ->a<=on)/\(m.1.1=Str.ofString "back" ->b<=bk)
def tH (K:PySem.W.Frag):Sp:=λvs H Q _=>∃ (v:V) (d b:Addr) (l:Ln) (kvs:List (List Key×V)) (lk:List Int->Option (Int×Int)) (t:List Int) (on bk:Int),vs = [v,.ref d,.ref b]/\Da K H (dL l) v/\WD H d kvs lk/\H b=some (.tup (t.map V.int))/\fC l/\t≠ []/\t.length<=900/\lk t=some (on,bk)/\∀ H',eQ H H'->Q (.bl (dec (oJ l lk t on bk))) H'
abbrev kq:Stmt:=top 27
theorem iH:fu ["line","ways","standing","on","back","move","behind","there"] ["line","ways","standing"] (eS kq):=⟨rfl,rfl,rfl,by decide +kernel,rfl,by decide +kernel,by decide +kernel⟩
section
variable {P:Program}{w:World}{K:PySem.W.Frag}{mg:Str->Option Value}{base:Heap}{f:Addr}{fd:FuncData}
theorem sW {f1:Addr}{fd1:FuncData}(F:Fn K mg "allow_ways" kq ["line","ways","standing"] f fd)(B:Bm mg)(fS:Fn K mg "moves_of" jI ["line","train"] f1 fd1)(iB:fh P w K mg base CX0 3 f1 fd1 ["line","train"] (kL K)):
  fh P w K mg base CX0 4 f fd ["line","ways","standing"] (tH K):=by
 refine F.F.ok iH (λvs H Q E h=>?_) (λcdv A outer s H vs Q E hr h=>?_)
 ·obtain⟨v,d,b,l,kvs,lk,t,on,bk,rfl,_⟩:=h;rfl
 ·obtain⟨v,d,b,l,kvs,lk,t,on,bk,rfl,hv,hd,hb,ok,rne,rl,hr0,k⟩:=h
  refine⟨_,(eJ (kU (qN (j8 hr) (pv 1) (pv 2) (λ_ _=>rfl)) (gN (n:=2) rfl (eW (eT (i:=3) iH.nd rfl (Or.inl rfl)) (eW (eT (i:=4) iH.nd rfl (Or.inl rfl)) fZ))))
 (eJ (fQ (ft (rL (fc xj rfl B.abs boot_abs (eD (eV mx (pv 3) (pv 4)) eI)) eK))
 (eL (fm i7)) fk)
 (eJ (gY aS rfl (fy (eU iB (hr.mono (by decide)) rfl fS.m fS.F.kp fS.b .nil fi (eD (pv 0) (eD (fj gQ rfl B.list df (eD (pv 2) eI)) eI)))) (gN (n:=2) rfl (eW (eT (i:=5) iH.nd rfl (Or.inl rfl)) (eW (eT (i:=6) iH.nd rfl (Or.inl rfl)) fZ)))
 (eJ (eY (i:=7) iH.nd rfl (Or.inl rfl) (fj fD rfl B.tuple b8 (eD (pv 6) eI)))
 (eJ (fQ (ft (nM (j8 hr) (pv 7) (pv 1)))
 (eL (fm i7)) fk)
 (eJ (fQ (PW.pt (mM (g7 yI (fE gZ (pv 5) eK (λ_ _=>rfl)) g8 (ka _)) (mq (ft (rL (fE gZ (qN (j8 hr) (pv 1) (pv 7) (λ_ _=>rfl)) eK (λ_ _=>rfl)) (pv 3))))))
 (eL (fm i7)) fk)
 (eL (fQ (PW.pt (mM (g7 yI (fE gZ (pv 5) eK (λ_ _=>rfl)) g8 (ka _)) (mq (ft (rL (fE gZ (qN (j8 hr) (pv 1) (pv 7) (λ_ _=>rfl)) eK (λ_ _=>rfl)) (pv 4))))))
 (eL (fm i7)) fk))))))
 (eL (fm i7))))),?_⟩
  obtain⟨c0,hc0,hc1⟩:=hd.yes t on bk hr0
  have g0:=hd.get hb
  rw[hc0]at g0
  refine⟨_,rfl,_,rfl,d,_,rfl,g0,c0,_,rfl,SqT.of hc1,rfl,_,_,rfl,_,_,rfl,rfl,?_⟩
  refine⟨_,rfl,_,rfl,_,_,rfl,rfl,_,rfl,_,_,rfl,rfl,_,rfl,fN (λh=>?_) (λh=>?_)⟩
  ·have h:1<(if on-bk<0 then -(on-bk)else on-bk):=by simpa using h
   have:=k H (eQ.refl _)
   rw[md λz:oJ l lk t on bk=>by have:=z.1;split at h<;>omega]at this
   exact this
  have h:¬1<(if on-bk<0 then -(on-bk)else on-bk):=by simpa using h
  have near:on<=bk+1/\bk<=on+1:=by split at h<;>omega
  refine⟨_,rfl,_,rfl,b,_,rfl,.inr (SqT.of hb),λq nq=>?_⟩
  have s1:=eE (o:=.lst (t.map V.int)) nq
  refine⟨_,_,l,t,rfl,Da.same s1 hv,gP eG,ok,rne,rl,λpm vm H2 s2 npm hpm Dm=>?_⟩
  obtain⟨bs,hb1,hb2,hb3⟩:=Bp Dm
  subst hb2
  have S2:=s1.trans s2
  generalize upd H q _=H1 at s1 s2 npm Dm hb3 nq
  have pZ:∀ m,m∈mvs l t↔∃ x∈bs,x.1=m:=λm=>by
   rw[<-hb1,ak]
  refine⟨pm,rfl,⟨_,SqL.of hpm⟩,hE (K:=K) (a:=pm) (xs:=bs.map λx=>V.ref x.2.1) (λi σ H3=>∃ (x5 x6 x7:Option V),σ = [some v,some (.ref d),some (.ref b),some (.int on),some (.int bk),x5,x6,x7]/\eQ H2 H3/\∀ x∈bs.take i,∃ a b,lk x.1.2=some (a,b)/\(x.1.1.1=Str.ofString "on" ->a<=on)/\(x.1.1.1=Str.ofString "back" ->b<=bk))
   ⟨none,none,none,rfl,eQ.refl _,λx hx=>by simp at hx⟩ (λi σ H3 _ ⟨_,_,_,_,s,_⟩=>SqL.of (s _ _ hpm)) ?_ ?_⟩
  ·rintro i y σ H3 N R B kN kR hi ⟨x5,x6,x7,rfl,s3,al⟩
   rw[ai]at hi
   obtain⟨x,hx⟩:∃ x,bs[i]? = some x:=by
    cases q:bs[i]? with
    |none=>rw[q]at hi;cases hi
    |some x=>exact⟨x,rfl⟩
   rw[hx]at hi
   cases hi
   obtain⟨⟨p1,ht,hdm⟩,hbb,_,_⟩:=hb3 x (aw hx)
   obtain⟨p1x,e1,htm⟩:=C5 hdm
   cases e1
   have xin:x.1∈mvs l t:=(pZ _).mpr ⟨x,aw hx,rfl⟩
   refine⟨x.2.1,_,rfl,fq s3 ht,rfl,_,_,rfl,_,_,rfl,rfl,?_⟩
   refine⟨_,rfl,x.2.2,_,rfl,.inl ⟨SqL.of (s3 _ _ hbb),λtp ntp=>?_⟩⟩
   have s4:=s3.trans (eE (o:=.tup (x.1.2.map V.int)) ntp)
   have htp:=eG (H:=H3) (a:=tp) (o:=.tup (x.1.2.map V.int))
   generalize upd H3 tp _=H4 at s4 htp ⊢
   have hd4:=hd.same (S2.trans s4)
   have EF:=fq s4 htm
   have g1:=hd4.get htp
   refine⟨_,rfl,_,rfl,d,_,rfl,g1,_,rfl,?_⟩
   cases q:lk x.1.2 with
   |none=>
    rw[hd4.no _ q]
    refine nU ?_
    have:=k H4 (S2.trans s4)
    rw[md λz:oJ l lk t on bk=>by
     obtain⟨a,b,h1,_⟩:=z.2 x.1 xin
     rw[q]at h1;cases h1]at this
    exact kR _ _ this
   |some ab=>
    obtain⟨a,b'⟩:=ab
    obtain⟨c,hv1,hc⟩:=hd4.yes _ a b' q
    rw[hv1]at g1 ⊢
    have bad:¬((x.1.1.1=Str.ofString "on" ->a<=on)/\(x.1.1.1=Str.ofString "back" ->b'<=bk))->R (.bl false) H4:=λhz=>kR _ _ (by
     have:=k H4 (S2.trans s4)
     rw[md λz:oJ l lk t on bk=>by
      obtain⟨a2,b2,h1,h2⟩:=z.2 x.1 xin
      rw[q]at h1;cases h1
      exact hz h2]at this
     exact this)
    have hn:¬Str.ofString "back" = Str.ofString "on" :=by decide +kernel
    have good:((x.1.1.1=Str.ofString "on" ->a<=on)/\(x.1.1.1=Str.ofString "back" ->b'<=bk))->N [some v,some (V.ref d),some (.ref b),some (.int on),some (.int bk),some (.ref p1),some (.ref x.2.2),some (.ref tp)] H4:=λhz=>kN _ _ ⟨_,_,_,rfl,s4,λz hz'=>by
     rw[aV,hx]at hz'
     rcases aC.mp hz' with w |w
     ·exact al z w
     ·have:z=x:=by simpa using w
      rw[this];exact⟨a,b',q,hz⟩⟩
    refine oz ?_
    refine⟨_,rfl,p1,_,_,_,rfl,rfl,EF,rfl,rfl,_,rfl,fN (λhon=>?_) (λhon=>?_)⟩
    ·have hon:x.1.1.1=Str.ofString "on" :=by simpa using hon
     refine⟨_,rfl,_,rfl,d,_,rfl,g1,c,_,_,_,rfl,rfl,SqT.of hc,rfl,_,rfl,_,_,rfl,rfl,_,rfl,fN (λhgt=>?_) (λhgt=>?_)⟩
     ·have hgt:on<a:=by simpa using hgt
      exact bad λz=>by have:=z.1 hon;omega
     ·have hgt:¬on<a:=by simpa using hgt
      refine⟨_,rfl,p1,_,_,_,rfl,rfl,EF,rfl,rfl,_,rfl,fN (λhbk=>?_) (λ_=>oz (good ⟨λ_=>by omega,λhbk=>absurd (by rw[<-hbk,hon]) hn⟩))⟩
      have hbk:x.1.1.1=Str.ofString "back" :=by simpa using hbk
      exact absurd (by rw[<-hbk,hon]) hn
    ·have hon:¬x.1.1.1=Str.ofString "on" :=by simpa using hon
     refine oz ?_
     refine⟨_,rfl,p1,_,_,_,rfl,rfl,EF,rfl,rfl,_,rfl,fN (λhbk=>?_) (λhbk=>?_)⟩
     ·have hbk:x.1.1.1=Str.ofString "back" :=by simpa using hbk
      refine⟨_,rfl,_,rfl,d,_,rfl,g1,c,_,_,_,rfl,rfl,SqT.of hc,rfl,_,rfl,_,_,rfl,rfl,_,rfl,fN (λhgt=>?_) (λhgt=>?_)⟩
      ·have hgt:bk<b':=by simpa using hgt
       exact bad λz=>by have:=z.2 hbk;omega
      ·have hgt:¬bk<b':=by simpa using hgt
       exact good ⟨λz=>absurd z hon,λ_=>by omega⟩
     ·have hbk:¬x.1.1.1=Str.ofString "back" :=by simpa using hbk
      exact oz (good ⟨λz=>absurd z hon,λz=>absurd z hbk⟩)
  ·rintro σ H3 ⟨x5,x6,x7,rfl,s3,al⟩
   rw[aa,aW]at al
   have:=k H3 (S2.trans s3)
   rw[uk (show oJ l lk t on bk from⟨near,λm hm=>by
    obtain⟨x,hx,rfl⟩:=(pZ m).mp hm
    exact al x hx⟩)]at this
   exact this
end
abbrev W3:=List Int×Int×Int
def dW (r:W3):PyData:=.tuple [dI r.1,.int r.2.1,.int r.2.2]
def dWs (rows:List W3):PyData:=.list (rows.map dW)
def ia (rows:List W3)(s:List Int):Option (Int×Int):=(rows.find? λr=>decide (r.1=s)).map (·.2)
def Au (l:Ln)(tr:List Int)(rows:List W3):Prop:=pC l tr (rows.map (·.1))/\ia rows tr=some (0,0)/\∀ r∈rows,oJ l (ia rows) r.1 r.2.1 r.2.2
theorem t8 {rows:List W3}(nd:(rows.map (·.1)).Nodup){r:W3}(h:r∈rows):ia rows r.1=some r.2:=by
 unfold ia
 induction rows with
 |nil=>cases h
 |cons q qs ih=>
  rw[aR,bq]at nd
  by_cases e:q.1=r.1
  ·rw[bZ (by simpa using e)]
   rcases aG.mp h with z |z
   ·rw[z];rfl
   ·exact absurd (ak.mpr ⟨r,z,e.symm⟩) nd.1
  ·rw[bM (by simpa using e)]
   rcases aG.mp h with z |z
   ·exact absurd (by rw[z]) e
   ·exact ih nd.2 z
theorem rV {rows:List W3}{s:List Int}{n:Int×Int}(h:ia rows s=some n):(s,n)∈rows:=by
 unfold ia at h
 cases q:rows.find? λr=>decide (r.1=s)with
 |none=>rw[q]at h;cases h
 |some r=>
  rw[q]at h
  have h1:=dZ q
  have h2:r.1=s:=by simpa using List.find?_some q
  have h3:r.2=n:=by simpa using h
  rw[<-h2,<-h3];exact h1
theorem Ay {K:PySem.W.Frag}{H:Hp}{rows:List W3}{vs:List V}{i:Nat}{y:V}(D:Das K H (rows.map dW) vs)(h:vs[i]? = some y):∃ (r:W3) (ad:Addr) (u:V),rows[i]? = some r/\y = .ref ad/\SqT K H ad [u,.int r.2.1,.int r.2.2]/\Da K H (dI r.1) u:=by
 obtain⟨d,e1,hd⟩:=Dgs.get D h
 rw[ai]at e1
 cases q:rows[i]? with
 |none=>rw[q]at e1;cases e1
 |some r=>
  rw[q]at e1
  cases e1
  unfold dW at hd
  obtain⟨ad,us,rfl,ht,q⟩:=gB.mp hd
  obtain⟨v1,r',rfl,h1,q⟩:=fx.mp q
  obtain⟨v2,r',rfl,h2,q⟩:=fx.mp q
  obtain⟨v3,r',rfl,h3,q⟩:=fx.mp q
  cases gh.mp q
  cases gw.mp h2
  cases gw.mp h3
  exact⟨r,ad,v1,rfl,rfl,ht,h1⟩
def WK (G:Hp):List W3->List (List Key×V)->Prop
 |[],[]=>True
 |r::rs,kv::ks=>(kv.1=kyI r.1/\∃ c,kv.2 = .ref c/\G c=some (.tup [.int r.2.1,.int r.2.2]))/\WK G rs ks
 |_,_=>False
theorem WK.snoc {G:Hp}{r:W3}{c:Addr}(hc:G c=some (.tup [.int r.2.1,.int r.2.2])):∀ {rs:List W3}{ks:List (List Key×V)},WK G rs ks->WK G (rs ++ [r]) (ks ++ [(kyI r.1,.ref c)])
 |[],[],_=>⟨⟨rfl,c,rfl,hc⟩,trivial⟩
 |_::_,_::_,h=>⟨h.1,WK.snoc hc h.2⟩
 |[],_::_,h=>h.elim
 |_::_,[],h=>h.elim
theorem WK.imp {G G':Hp}(f:∀ c a b,G c=some (.tup [.int a,.int b])->G' c=some (.tup [.int a,.int b])):∀ {rs:List W3}{ks:List (List Key×V)},WK G rs ks->WK G' rs ks
 |[],[],_=>trivial
 |_::_,_::_,h=>⟨⟨h.1.1,h.1.2.imp λc z=>⟨z.1,f _ _ _ z.2⟩⟩,WK.imp f h.2⟩
 |[],_::_,h=>h.elim
 |_::_,[],h=>h.elim
theorem WK.len {G:Hp} :∀ {rs:List W3}{ks:List (List Key×V)},WK G rs ks->ks.length=rs.length
 |[],[],_=>rfl
 |_::_,_::_,h=>by rw[aO,aO,WK.len h.2]
 |[],_::_,h=>h.elim
 |_::_,[],h=>h.elim
theorem WK.no {G:Hp}{s:List Int} :∀ {rs:List W3}{ks:List (List Key×V)},WK G rs ks->ia rs s=none->jo ks (kyI s)=none
 |[],[],_,_=>rfl
 |r::rs,kv::ks,h,e=>by
  by_cases z:r.1=s
  ·unfold ia at e;rw[bZ (by simpa using z)]at e;cases e
  ·unfold ia at e;rw[bM (by simpa using z)]at e
   unfold jo;rw[bM (by rw[h.1.1];simpa using λy=>z (nP y))]
   exact WK.no h.2 e
 |[],_::_,h,_=>h.elim
 |_::_,[],h,_=>h.elim
theorem WK.yes {G:Hp}{s:List Int}{a b:Int} :∀ {rs:List W3}{ks:List (List Key×V)},WK G rs ks->ia rs s=some (a,b)->∃ c,jo ks (kyI s)=some (.ref c)/\G c=some (.tup [.int a,.int b])
 |[],[],_,e=>by cases e
 |r::rs,kv::ks,h,e=>by
  by_cases z:r.1=s
  ·unfold ia at e;rw[bZ (by simpa using z)]at e
   have e:r.2=(a,b):=by simpa using e
   obtain⟨h1,c,h2,h3⟩:=h.1
   refine⟨c,?_,by rw[h3,e]⟩
   unfold jo;rw[bZ (by rw[h1,z];simp),<-h2];rfl
  ·unfold ia at e;rw[bM (by simpa using z)]at e
   unfold jo;rw[bM (by rw[h.1.1];simpa using λy=>z (nP y))]
   exact WK.yes h.2 e
 |[],_::_,h,_=>h.elim
 |_::_,[],h,_=>h.elim
theorem WK.at {G:Hp} :∀ {rs:List W3}{ks:List (List Key×V)} (i:Nat) {r:W3}{kv:List Key×V},WK G rs ks->rs[i]? = some r->ks[i]? = some kv->kv.1=kyI r.1
 |[],[],_,_,_,_,e,_=>by cases e
 |r::rs,kv::ks,0,_,_,h,e1,e2=>by cases e1;cases e2;exact h.1.1
 |r::rs,kv::ks,i+1,_,_,h,e1,e2=>WK.at i h.2 e1 e2
 |[],_::_,_,_,_,h,_,_=>h.elim
 |_::_,[],_,_,_,h,_,_=>h.elim
theorem WK.wd {G:Hp}{d:Addr}{rs:List W3}{ks:List (List Key×V)}(h:WK G rs ks)(hd:Rd G d (.dT ks)):WD G d ks (ia rs):=⟨hd,λ_ e=>h.no e,λ_ _ _ e=>h.yes e⟩
theorem zS {rows:List W3}(nd:(rows.map (·.1)).Nodup){i:Nat}{r:W3}(h:rows[i]? = some r):ia (rows.take i) r.1=none:=by
 cases q:ia (rows.take i) r.1 with
 |none=>rfl
 |some n=>
  exfalso
  obtain⟨j,hj,ej⟩:=List.mem_take_iff_getElem.mp (rV q)
  obtain⟨hir,eir⟩:=ag.mp h
  have e1:(rows.map (·.1))[j]'(by rw[aa];omega)=(rows.map (·.1))[i]'(by rw[aa];exact hir):=by
   rw[List.getElem_map,List.getElem_map,ej,eir]
  have:=(eu nd).mp e1
  omega
def dP (a b:Int):PyData:=.tuple [.int a,.int b]
theorem mS (a b:Int):OkD (dP a b):=⟨rfl,by simp[dP,PyData.depth,PyData.depthAll]⟩
theorem tY:OkD .none:=⟨rfl,by simp[PyData.depth]⟩
theorem wO (a b c d:Int):PyData.eqv (dP a b) (dP c d)=decide ((a,b)=(c,d)):=by
 rw[bx]
 simp[dP,PyData.eqv,PyData.eqvAll]
theorem uh (a b:Int):PyData.eqv .none (dP a b)=false:=rfl
theorem wV {K:PySem.W.Frag}{H:Hp}{c:Addr}{a b:Int}(h:H c=some (.tup [.int a,.int b])):Da K H (dP a b) (.ref c):=gB.mpr ⟨c,_,rfl,SqT.of h,Dgs.two (gw.mpr rfl) (gw.mpr rfl)⟩
def qM (K:PySem.W.Frag):Sp:=λvs H Q _=>∃ (v u x:V) (l:Ln) (tr:List Int) (rows:List W3),vs = [v,u,x]/\Da K H (dL l) v/\Da K H (dI tr) u/\Da K H (dWs rows) x/\fC l/\rows.length<=1500/\(∀ r∈rows,r.1.length<=900)/\∀ H',eQ H H'->Q (.bl (dec (Au l tr rows))) H'
abbrev ja:Stmt:=top 28
theorem qq:fu ["line","train","rows","ways"] ["line","train","rows"] (eS ja):=⟨rfl,rfl,rfl,by decide +kernel,rfl,by decide +kernel,by decide +kernel⟩
theorem jY:fG (eS ja) ["line","train","rows","ways"] {kind:=.function,names:=[(Str.ofString ".0",.local),(Str.ofString "standing",.local),(Str.ofString "on",.local),(Str.ofString "back",.local)],isGenerator:=false,isCoroutine:=false,more:=[]} ["standing","on","back"] 3 [none,none,none]:=⟨rfl,by decide +kernel,by decide +kernel,by decide +kernel,rfl,by decide +kernel,rfl,by decide +kernel⟩
theorem jX:fG (eS ja) ["line","train","rows","ways"] {kind:=.function,names:=[(Str.ofString ".0",.local),(Str.ofString "standing",.local),(Str.ofString "on",.local),(Str.ofString "back",.local),(Str.ofString "tuple",.globalImplicit)],isGenerator:=false,isCoroutine:=false,more:=[]} ["standing","on","back"] 3 [none,none,none]:=⟨rfl,by decide +kernel,by decide +kernel,by decide +kernel,rfl,by decide +kernel,rfl,by decide +kernel⟩
theorem oo:fG (eS ja) ["line","train","rows","ways"] {kind:=.function,names:=[(Str.ofString ".0",.local),(Str.ofString "standing",.local),(Str.ofString "allow_ways",.globalImplicit),(Str.ofString "line",.free),(Str.ofString "ways",.free)],isGenerator:=false,isCoroutine:=false,more:=[]} ["standing","line","ways"] 1 [none,some 0,some 3]:=⟨rfl,by decide +kernel,by decide +kernel,by decide +kernel,rfl,by decide +kernel,rfl,by decide +kernel⟩
section
variable {P:Program}{w:World}{K:PySem.W.Frag}{mg:Str->Option Value}{base:Heap}{f:Addr}{fd:FuncData}
theorem wq {f1 f2:Addr}{fd1 fd2:FuncData}(F:Fn K mg "are_ways" ja ["line","train","rows"] f fd)(B:Bm mg)(hV:Fn K mg "are_standings" g9 ["line","train","standings"] f1 fd1)(kf:fh P w K mg base CX0 4 f1 fd1 ["line","train","standings"] (vU K))
  (i4:Fn K mg "allow_ways" kq ["line","ways","standing"] f2 fd2) (mE:fh P w K mg base CX0 4 f2 fd2 ["line","ways","standing"] (tH K)):
  fh P w K mg base CX0 5 f fd ["line","train","rows"] (qM K):=by
 refine F.F.ok qq (λvs H Q E h=>?_) (λcdv A outer s H vs Q E hr h=>?_)
 ·obtain⟨v,u,x,l,tr,rows,rfl,_⟩:=h;rfl
 ·obtain⟨v,u,x,l,tr,rows,rfl,hv,hu,hx,ok,hz,hzs,k⟩:=h
  obtain⟨a,us,rfl,hA,D⟩:=ic.mp hx
  obtain⟨at0,rfl,hT0⟩:=gz.mp hu
  have ul:us.length=rows.length:=by have:=Dgs.length D;rw[aa]at this;exact this
  refine⟨_,(eJ (fQ (pO (rG (eU kf (hr.mono (by decide)) rfl hV.m hV.F.kp hV.b .nil fi (eD (pv 0) (eD (pv 1) (eD (lW (fy (pv 2)) rfl jY (.tup (.cons (.name (by decide)) (.cons (.name (by decide)) (.cons (.name (by decide)) .nil)))) (λ_ _ _ _=>(gN (n:=3) rfl (eW (eT (i:=0) jY.nd rfl (Or.inl rfl)) (eW (eT (i:=1) jY.nd rfl (Or.inl rfl)) (eW (eT (i:=2) jY.nd rfl (Or.inl rfl)) fZ))))) (λ_ _ _ _=>gj) (λ_ _ _ _=>(pv 0))) eI))))))
 (eL (fm i7)) fk)
 (eJ (eY (i:=3) qq.nd rfl (Or.inr rfl) (Ee (ED hr) (fy (pv 2)) rfl jX (.tup (.cons (.name (by decide)) (.cons (.name (by decide)) (.cons (.name (by decide)) .nil)))) (λ_ _ _ _=>(gN (n:=3) rfl (eW (eT (i:=0) jX.nd rfl (Or.inl rfl)) (eW (eT (i:=1) jX.nd rfl (Or.inl rfl)) (eW (eT (i:=2) jX.nd rfl (Or.inl rfl)) fZ))))) (λ_ _ _ _=>gj) (λ_ _ _ _=>(fj (nk (K:=K) rfl) rfl B.tuple b8 (eD (pv 0) eI))) (λ_ _ _ _=>(fw (eD (pv 1) (eD (pv 2) eI))))))
 (eJ (fQ (g7 (xI hr.units) (A0 (j8 hr) (pv 3) (fj fD rfl B.tuple b8 (eD (pv 1) eI)) ⟨rfl,rfl,rfl,rfl⟩) (fw (eD eK (eD eK eI))) (ka _))
 (eL (fm i7)) fk)
 (eL (fm (fc (pB rfl) rfl B.all boot_all (eD (Ed (lW (CA (pv 3)) rfl oo (.name (by decide)) (λ_ _ _ _=>(eT (i:=0) oo.nd rfl (Or.inl rfl))) (λ_ _ _ _=>gj) (λ_ _ _ _=>(eU mE (hr.mono (by decide)) rfl i4.m i4.F.kp i4.b .nil fi (eD (pv 1) (eD (pv 2) (eD (pv 0) eI))))))) eI))))))),?_⟩
  refine⟨_,rfl,_,rfl,_,rfl,a,rfl,⟨_,hA⟩,λp np=>?_⟩
  refine yP (K:=K) rows.length rows (λr=>dI r.1) np rfl (iE (by omega)) (λi G s hi=>(gd hA).go i G s (by omega)) (λG s=>by have:=(gd hA).stop G s;rw[ul]at this;exact this) ?_ ?_
  ·intro i y r G G' sG ⟨vs',hl'⟩ yy hd P1 P0 kk
   obtain⟨rfl,hy⟩:=(gd hA).yld i G y G' sG (by have:=(ag.mp hd).1;omega) yy
   obtain⟨r',ad,uu,hr',rfl,hT,hU⟩:=Ay D hy
   rw[hd]at hr'
   cases hr'
   refine⟨ad,_,rfl,fq sG hT,rfl,_,_,rfl,_,_,rfl,_,_,rfl,rfl,?_⟩
   exact Dh ⟨_,rfl,kk _ _ (eQ.refl _) (Da.same (oS sG np) hU)⟩
  intro vs1 H1 s1 h1 D1
  have D1':Das K H1 ((rows.map (·.1)).map dI) vs1:=by rw[bu];exact Das.same gv D1
  refine⟨_,_,_,l,tr,rows.map (·.1),rfl,Da.same s1 hv,Da.same s1 hu,ic.mpr ⟨p,vs1,rfl,SqL.of h1,D1'⟩,ok,by rw[aa];exact hz,λz hz=>?_,λH2 s2=>?_⟩
  ·obtain⟨r,hr,rfl⟩:=ak.mp hz
   exact hzs r hr
  have S2:=s1.trans s2
  refine⟨_,rfl,fN (λh=>?_) (λh=>?_)⟩
  ·have h:(!dec (pC l tr (rows.map (·.1))))=true:=h
   have:=k H2 S2
   rw[md λz:Au l tr rows=>by rw[uk z.1]at h;cases h]at this
   exact this
  have h:¬(!dec (pC l tr (rows.map (·.1))))=true:=h
  have hst:pC l tr (rows.map (·.1)):=aM λz=>h (by rw[md z];rfl)
  clear h D1 D1' h1
  have hA2:SqL K H2 a us:=S2.seq hA
  have D2:=Das.same S2 D
  refine⟨_,rfl,a,rfl,⟨_,hA2⟩,λd nd=>?_⟩
  refine⟨λi m G=>m=rows.length-i/\i<=rows.length/\eQ H2 G/\∃ ks,G d=some (.dT ks)/\WK G (rows.take i) ks,⟨rows.length,by simp,aH _,eE nd,[],eG,trivial⟩,?_⟩
  rintro i m G ⟨rfl,hi,sG,ks,hd,hw⟩
  by_cases hlt:i<rows.length
  ·refine .inr ⟨(gd hA2).go i G sG (by omega),λG'=>(i+1)<=rows.length/\eQ H2 G'/\∃ ks,G' d=some (.dT ks)/\WK G' (rows.take (i+1)) ks,λG' ⟨n1,n2,n3⟩=>⟨rows.length-(i+1),by omega,rfl,n1,n2,n3⟩,λy G' yy=>?_⟩
   obtain⟨rfl,hy⟩:=(gd hA2).yld i G y G' sG (by omega) yy
   obtain⟨r,ad,uu,hr',rfl,hT,hU⟩:=Ay (Das.same sG D2) hy
   obtain⟨ub,rfl,hub⟩:=gz.mp hU
   refine⟨ad,_,rfl,hT,rfl,_,_,rfl,_,_,rfl,_,_,rfl,rfl,?_⟩
   unfold AB
   dsimp only
   rw[aJ rfl]
   refine⟨_,rfl,ub,_,rfl,.inl ⟨hub,λb nb=>?_⟩⟩
   have sb:=eE (o:=.tup (r.1.map V.int)) nb
   have hb:=eG (H:=G') (a:=b) (o:=.tup (r.1.map V.int))
   have hd':=sb _ _ hd
   have hw':=hw.imp λc x y z=>sb _ _ z
   generalize upd G' b _=G1 at sb hb hd' hw' ⊢
   refine⟨_,rfl,_,rfl,by show 2<=sizeLine;decide,λc nc=>?_⟩
   have sc:=eE (o:=.tup [.int r.2.1,.int r.2.2]) nc
   have hc:=eG (H:=G1) (a:=c) (o:=.tup [.int r.2.1,.int r.2.2])
   have hd2:=sc _ _ hd'
   have hw2:=hw'.imp λc x y z=>sc _ _ z
   have hb2:=sc _ _ hb
   have s2':=sb.trans sc
   generalize upd G1 c _=G2 at sc hc hd2 hw2 hb2 s2' ⊢
   refine⟨ks,kyI r.1,b,rfl,hd2,by rw[iy];exact hb2,iE (by rw[hw.len,aN];omega),hlt,eQ.upd (sG.trans s2') nd,_,eG,?_⟩
   have hv0:jo ks (kyI r.1)=none:=hw.no (zS hst.1 hr')
   rw[L2.oV _ hv0,aV,hr']
   refine WK.imp (λc' x y z=>?_) (WK.snoc hc hw2)
   rw[eN (fA z hd2 (by intro z;cases z))];exact z
  have e:i=rows.length:=by omega
  subst e
  rw[aW]at hw
  refine .inl ⟨by have:=(gd hA2).stop G sG;rw[ul]at this;exact this,?_⟩
  have SG:=S2.trans sG
  have nd0:H d=none:=tZ S2 nd
  refine⟨_,rfl,d,rfl,.inr ⟨_,.inl hd⟩,_,rfl,at0,_,rfl,.inl ⟨SG.seq hT0,λb nb=>?_⟩⟩
  have sb:=eE (o:=.tup (tr.map V.int)) nb
  have hb:=eG (H:=G) (a:=b) (o:=.tup (tr.map V.int))
  have hd3:=sb _ _ hd
  have hw3:=hw.imp λc x y z=>sb _ _ z
  have S3:=SG.trans sb
  generalize upd G b _=G3 at sb hb hd3 hw3 S3 ⊢
  have W3':=hw3.wd (.inl hd3)
  refine⟨_,W3'.get hb,?_⟩
  refine⟨by show 2<=sizeLine;decide,λc0 nc0=>?_⟩
  have s4:=eE (o:=.tup [.int 0,.int 0]) nc0
  have hc0:=eG (H:=G3) (a:=c0) (o:=.tup [.int 0,.int 0])
  have hd4:=s4 _ _ hd3
  have hw4:=hw3.imp λc x y z=>s4 _ _ z
  have S4:=S3.trans s4
  generalize upd G3 c0 _=G4 at s4 hc0 hd4 hw4 S4 ⊢
  have Ds:ia rows tr≠some (0,0)->Q (.bl false) G4:=λhn=>by
   have:=k G4 S4
   rw[md λz:Au l tr rows=>hn z.2.1]at this
   exact this
  cases q:ia rows tr with
  |none=>
   rw[hw4.no q]
   refine⟨.none,dP 0 0,(by show Dg _ _ PyData.none V.non;simp only[Dg]),wV hc0,tY,mS 0 0,_,rfl,?_⟩
   rw[uh]
   exact nU (Ds (by rw[q];intro z;cases z))
  |some ab=>
   obtain⟨ra,rb⟩:=ab
   obtain⟨c,hc,hc'⟩:=hw4.yes q
   rw[hc]
   refine⟨dP ra rb,dP 0 0,wV hc',wV hc0,mS _ _,mS 0 0,_,rfl,?_⟩
   rw[wO]
   refine fN (λh=>?_) (λh=>?_)
   ·have h:¬(ra,rb)=(0,0):=λz=>by rw[bG z]at h;cases h
    exact Ds (by rw[q];intro z;exact h (bh z))
   have hn0:(ra,rb)=(0,0):=aM λz=>h (by rw[bf z];rfl)
   rw[hn0]at q
   refine⟨d,ks,hd4,λo=>?_⟩
   have n0:eQ H (upd G4 d (.frz o (.dT ks))):=eQ.upd S4 nd0
   have hf0:=eG (H:=G4) (a:=d) (o:=.frz o (.dT ks))
   have hw5:WK (upd G4 d (.frz o (.dT ks))) rows ks:=hw4.imp λc' x y z=>by rw[eN (fA z hd4 (by intro z;cases z))];exact z
   generalize upd G4 d _=G5 at n0 hf0 hw5 ⊢
   have kl:=hw5.len
   refine⟨_,rfl,d,o,ks,rfl,hf0,λq nq=>ve rows.length rows (λ_=>true) (λr=>V.bl (dec (oJ l (ia rows) r.1 r.2.1 r.2.2))) nq rfl (iE (by omega)) (λi G6 s6 hi=>⟨s6 _ _ hf0,by omega⟩) (λG6 s6=>⟨s6 _ _ hf0,by omega⟩) ?_ ?_⟩
   ·intro i y r G6 G6' s6 yy hdr P1 P0 p1 p0
    obtain⟨rfl,bb,pp,hpp,rfl,hbb⟩:=yy
    have ep:=hw5.at i hdr hpp
    rw[ep,iy]at hbb
    have hrm:=aw hdr
    obtain⟨_,rne,_⟩:=hst.2 r.1 (ak.mpr ⟨r,hrm,rfl⟩)
    refine h9 ?_
    exact⟨_,rfl,_,rfl,_,rfl,_,d,bb,l,ks,ia rows,r.1,r.2.1,r.2.2,rfl,Da.same (n0.trans s6) hv,(WK.wd hw5 (.inr ⟨o,hf0⟩)).same s6,hbb,ok,rne,hzs r hrm,t8 hst.1 hrm,λG7 s7=>p1 G7 rfl s7⟩
   intro G6 s6 hq
   rw[iV]at hq
   have hf6:=s6 _ _ hf0
   refine⟨hf6,q,rows.map λr=>dec (oJ l (ia rows) r.1 r.2.1 r.2.2),rfl,SqL.of ?_,?_⟩
   ·have hqd:q≠d:=λe=>by rw[e,hf6]at hq;cases hq
    rw[eN hqd,hq,bu];rfl
   have e:(rows.map λr=>dec (oJ l (ia rows) r.1 r.2.1 r.2.2)).all id=dec (Au l tr rows):=by
    rw[bx,cv,kz]
    constructor
    ·exact λz=>⟨hst,by assumption,λr hr=>kz.mp (z _ (ak.mpr ⟨r,hr,rfl⟩))⟩
    ·rintro z b hb
     obtain⟨r,hr,rfl⟩:=ak.mp hb
     exact kz.mpr (z.2.2 r hr)
   rw[e]
   exact k _ (eQ.upd (n0.trans s6) nd0)
end
def uD (l:Ln)(ns:List Int)(j:Nat):Prop:=∀ x y,ns[j]? = some x->ns[j+1]? = some y->y∈jn l.2 (oth x)
def AI (K:PySem.W.Frag):Sp:=λvs H Q _=>∃ (v u:V) (l:Ln) (ns:List Int),vs = [v,u]/\Da K H (dL l) v/\Da K H (dI ns) u/\fC l/\ns.length<=900/\∀ H',eQ H H'->Q (.bl (dec (isT l ns))) H'
def Row3 (H:Hp)(r:W3)(v:V):Prop:=∃ ad a,v = .ref ad/\H ad=some (.tup [.ref a,.int r.2.1,.int r.2.2])/\H a=some (.lst (r.1.map V.int))
theorem Row3.mono {H H':Hp}(r:W3)(v:V)(s:eQ H H')(h:Row3 H r v):Row3 H' r v:=h.imp λ_ h=>h.imp λ_ h=>⟨h.1,s _ _ h.2.1,s _ _ h.2.2⟩
theorem Row3.da {K:PySem.W.Frag}{H:Hp}(r:W3)(v:V)(h:Row3 H r v):Da K H (dW r) v:=by
 obtain⟨ad,a,rfl,h1,h2⟩:=h
 exact gB.mpr ⟨ad,_,rfl,SqT.of h1,fx.mpr ⟨_,_,rfl,gP h2,Dgs.two (gw.mpr rfl) (gw.mpr rfl)⟩⟩
structure gq (H:Hp)(q:Addr)(rows:List W3)(vs:List V):Prop where
 at_:H q=some (.lst vs)
 pw:Pw (Row3 (hid q H)) rows vs
section
variable {H H':Hp}{q:Addr}{rows:List W3}{vs:List V}
theorem gq.len (h:gq H q rows vs):vs.length=rows.length:=h.pw.len
theorem gq.same (h:gq H q rows vs)(s:eQ H H'):gq H' q rows vs:=⟨s _ _ h.at_,h.pw.imp λd v=>Row3.mono d v (mW s)⟩
theorem gq.das {K:PySem.W.Frag}(h:gq H q rows vs):Das K H (rows.map dW) vs:=Das.same gv (h.pw.das λd v=>Row3.da d v)
theorem gq.da {K:PySem.W.Frag}(h:gq H q rows vs):Da K H (dWs rows) (.ref q):=ic.mpr ⟨q,vs,rfl,SqL.of h.at_,h.das⟩
theorem jz {t a:Addr}{ns:List Int}{n m:Int}(hq:H q=some (.lst vs))(nt:H t=none)(hu:H a=some (.lst (ns.map V.int)))(ha:a≠q):Row3 (hid q (upd H t (.tup [.ref a,.int n,.int m]))) (ns,n,m) (.ref t):=by
 have e:t≠q:=λe=>by rw[e,hq]at nt;cases nt
 exact⟨t,a,rfl,by rw[fU e,eG],by rw[fU ha];exact eE nt _ _ hu⟩
theorem gq.set {r:W3}{v:V}(h:gq H q rows vs)(j:Nat)(hr:Row3 (hid q H) r v):gq (upd H q (.lst (vs.set j v))) q (rows.set j r) (vs.set j v):=
 ⟨eG,by rw[jV];exact Pw.set hr j h.pw⟩
theorem gq.push {r:W3}{v:V}(h:gq H q rows vs)(hr:Row3 (hid q H) r v):gq (upd H q (.lst (vs ++ [v]))) q (rows ++ [r]) (vs ++ [v]):=
 ⟨eG,by rw[jV];exact Pw.app h.pw (Pw.one hr)⟩
theorem gq.pop (h:gq H q rows vs)(j:Nat):gq (upd H q (.lst (vs.eraseIdx j))) q (rows.eraseIdx j) (vs.eraseIdx j):=
 ⟨eG,by rw[jV];exact Pw.erase j h.pw⟩
theorem gq.copy {p:Addr}(h:gq H q rows vs)(np:H p=none):gq (upd H p (.lst vs)) p rows vs:=
 ⟨eG,by rw[jV];exact h.pw.imp λd v=>Row3.mono d v (gv.trans (oS (eQ.refl _) np))⟩
theorem gq.get (h:gq H q rows vs){i:Int}(h0:0<=i)(h1:i<rows.length):
  ∃ r ad a,rows[i.toNat]? = some r/\atI vs i=some (.ref ad)/\H ad=some (.tup [.ref a,.int r.2.1,.int r.2.2])/\H a=some (.lst (r.1.map V.int))/\a≠q/\r∈rows:=by
 have hl:i.toNat<vs.length:=by rw[h.len];omega
 obtain⟨r,hr,ad,a,e,h2,h3⟩:=h.pw.get (af hl)
 refine⟨r,ad,a,hr,qe h0 (by rw[af hl,e]),gv _ _ h2,gv _ _ h3,λz=>?_,aw hr⟩
 rw[z,j9]at h3;cases h3
theorem gq.cat {p c:Addr}{more:List W3}{us:List V}(h:gq H q rows vs)(h2:gq H p more us)(nc:H c=none):gq (upd H c (.lst (vs++us))) c (rows++more) (vs++us):=
 ⟨eG,by rw[jV];exact Pw.app (h.pw.imp λd v=>Row3.mono d v (gv.trans (oS (eQ.refl _) nc))) (h2.pw.imp λd v=>Row3.mono d v (gv.trans (oS (eQ.refl _) nc)))⟩
end
theorem C3 (rows:List W3):PyData.eqv (dWs rows) (.list [])=rows.isEmpty:=by
 rw[dWs,ky];cases rows<;>rfl
def Fw (B:Nat)(rows:List W3):Prop:=∀ r∈rows,r.1.length<=B
section
variable {B:Nat}{rows:List W3}{r:W3}
theorem Fw.set (h:Fw B rows)(hr:r.1.length<=B)(j:Nat):Fw B (rows.set j r):=λx hx=>(List.mem_or_eq_of_mem_set hx).elim (h x) λe=>e ▸ hr
theorem Fw.push (h:Fw B rows)(hr:r.1.length<=B):Fw B (rows ++ [r]):=λx hx=>(aC.mp hx).elim (h x) λe=>(bw.mp e) ▸ hr
theorem Fw.pop (h:Fw B rows)(j:Nat):Fw B (rows.eraseIdx j):=λx hx=>h x (List.mem_of_mem_eraseIdx hx)
theorem Fw.mono {C:Nat}(h:Fw B rows)(hc:B<=C):Fw C rows:=λx hx=>bj (h x hx) hc
theorem Fw.cat {more:List W3}(h:Fw B rows)(h2:Fw B more):Fw B (rows++more):=λx hx=>(aC.mp hx).elim (h x) (h2 x)
end
theorem FY (r:W3):OkD (dW r):=by
 have h2:=j7 r.1
 refine⟨?_,?_⟩
 ·simp only[dW,PyData.canLay0,PyData.canLayAll0,h2.1,Bool.and_true]
 ·have:=h2.2
  simp only[dW,dI,PyData.depth,PyData.depthAll]at this ⊢
  have:=fL (f:=PyData.int) (k:=0) (λ_=>by simp[PyData.depth]) r.1
  omega
theorem zc (r:W3):(dW r).depth<=3:=by
 simp only[dW,dI,PyData.depth,PyData.depthAll]
 have:=fL (f:=PyData.int) (k:=0) (λ_=>by simp[PyData.depth]) r.1
 omega
theorem A7 (rows:List W3):OkD (dWs rows):=by
 refine⟨?_,?_⟩
 ·unfold dWs
  rw[PyData.canLay0]
  exact gC (λr=>(FY r).1) rows
 ·unfold dWs
  rw[PyData.depth]
  have:=fL zc rows
  omega
def WX (G:Hp)(rows:List W3)(ks:List (List Key×V)):Prop:=((rows.map (·.1)).Nodup/\WK G rows ks)\/(¬(rows.map (·.1)).Nodup/\ks.length<rows.length)
theorem WX.imp {G G':Hp}(f:∀ c a b,G c=some (.tup [.int a,.int b])->G' c=some (.tup [.int a,.int b])){rs:List W3}{ks:List (List Key×V)}(h:WX G rs ks):WX G' rs ks:=Or.imp (λz=>⟨z.1,z.2.imp f⟩) id h
theorem WX.le {G:Hp}{rs:List W3}{ks:List (List Key×V)}(h:WX G rs ks):ks.length<=rs.length:=Or.elim h (λz=>Nat.le_of_eq z.2.len) λz=>bE z.2
theorem yA (kvs:List (List Key×V))(k:List Key)(v:V):(putK kvs k v).length<=kvs.length+1/\(jo kvs k≠none->(putK kvs k v).length=kvs.length):=by
 constructor
 ·unfold putK
  split
  ·rw[aa];omega
  ·rw[ah];simp
 ·intro h
  unfold putK
  rw[mH]
  cases q:jo kvs k with
  |none=>exact absurd q h
  |some x=>exact aa ..
theorem WX.put {G:Hp}{r:W3}{c:Addr}(hc:G c=some (.tup [.int r.2.1,.int r.2.2])){rs:List W3}{ks:List (List Key×V)}(h:WX G rs ks):WX G (rs ++ [r]) (putK ks (kyI r.1) (.ref c)):=by
 rcases h with⟨nd,hw⟩|⟨nd,hl⟩
 ·cases q:ia rs r.1 with
  |none=>
   refine .inl ⟨?_,?_⟩
   ·rw[ar,bC]
    refine⟨nd,by simp,λa ha b hb=>?_⟩
    have eb:b=r.1:=by simpa using hb
    obtain⟨x,hx,rfl⟩:=ak.mp ha
    rintro e
    have:=t8 nd hx
    rw[e,eb,q]at this
    cases this
   ·rw[oV _ (hw.no q)]
    exact WK.snoc hc hw
  |some ab=>
   refine .inr ⟨λz=>?_,?_⟩
   ·rw[ar,bC]at z
    exact z.2.2 r.1 (ak.mpr ⟨_,rV q,rfl⟩) r.1 (by simp) rfl
   ·obtain⟨c',hv,_⟩:=hw.yes (a:=ab.1) (b:=ab.2) q
    rw[(yA ks (kyI r.1) (.ref c)).2 (by rw[hv];simp),hw.len,ah];simp
 ·refine .inr ⟨λz=>nd ?_,?_⟩
  ·rw[ar,bC]at z
   exact z.1
  ·have:=(yA ks (kyI r.1) (.ref c)).1
   rw[ah,aQ]
   omega
abbrev gX:Stmt:=top 40
theorem qB:fu ["_law_line_here","_law_train_here"] ["_law_line_here","_law_train_here"] (eS gX):=⟨rfl,rfl,rfl,by decide +kernel,rfl,by decide +kernel,by decide +kernel⟩
theorem lF:fG (eS gX) ["_law_line_here","_law_train_here"] {kind:=.function,names:=[(Str.ofString ".0",.local),(Str.ofString "_law_end",.local),(Str.ofString "_law_line_here",.free)],isGenerator:=false,isCoroutine:=false,more:=[]} ["_law_end","_law_line_here"] 1 [none,some 0]:=⟨rfl,by decide +kernel,by decide +kernel,by decide +kernel,rfl,by decide +kernel,rfl,by decide +kernel⟩
theorem lE:fG (eS gX) ["_law_line_here","_law_train_here"] {kind:=.function,names:=[(Str.ofString ".0",.local),(Str.ofString "_law_end",.local)],isGenerator:=false,isCoroutine:=false,more:=[]} ["_law_end"] 1 [none]:=⟨rfl,by decide +kernel,by decide +kernel,by decide +kernel,rfl,by decide +kernel,rfl,by decide +kernel⟩
theorem lD:fG (eS gX) ["_law_line_here","_law_train_here"] {kind:=.function,names:=[(Str.ofString ".0",.local),(Str.ofString "_law_k",.local),(Str.ofString "_law_joined",.globalImplicit),(Str.ofString "_law_other",.globalImplicit),(Str.ofString "_law_line_here",.free),(Str.ofString "_law_train_here",.free)],isGenerator:=false,isCoroutine:=false,more:=[]} ["_law_k","_law_line_here","_law_train_here"] 1 [none,some 0,some 1]:=⟨rfl,by decide +kernel,by decide +kernel,by decide +kernel,rfl,by decide +kernel,rfl,by decide +kernel⟩
section
variable {P:Program}{w:World}{K:PySem.W.Frag}{mg:Str->Option Value}{base:Heap}{f:Addr}{fd:FuncData}
theorem qC {f1 f2:Addr}{fd1 fd2:FuncData}(F:Fn K mg "_law_is_train" gX ["_law_line_here","_law_train_here"] f fd)(B:Bm mg)(eX:Fn K mg "_law_other" iq ["_law_end"] f1 fd1)(fo:Fn K mg "_law_joined" hX ["_law_line_here","_law_end"] f2 fd2):
  fh P w K mg base CX0 2 f fd ["_law_line_here","_law_train_here"] (AI K):=by
 have gU:fh P w K mg base CX0 1 f1 fd1 ["_law_end"] jq:=jA eX
 have iX:fh P w K mg base CX0 1 f2 fd2 ["_law_line_here","_law_end"] (jG K):=lL fo B.toBl
 refine F.F.ok qB (λvs H Q E h=>?_) (λcdv A outer s H vs Q E hr h=>?_)
 ·obtain⟨v,u,l,ns,rfl,_⟩:=h;rfl
 ·obtain⟨v,u,l,ns,rfl,hv,hu,ok,hz,k⟩:=h
  have k2:¬isT l ns->∀ H',eQ H H'->Q (.bl false) H':=λhn H' s'=>by have:=k H' s';rwa [md hn]at this
  obtain⟨a,rfl,ha⟩:=gz.mp hu
  obtain⟨al,bl,rfl,hlt,us,hll,hlq⟩:=kA hv
  refine⟨_,(eJ (fQ (PW.pt (oU (g7 (uS hr.units) (pv 1) (fP eI) (ka _)) (pN (pO (rG (fc (pB rfl) rfl B.all boot_all (eD (lW (fy (pv 1)) rfl lF (.name (by decide)) (λ_ _ _ _=>(eT (i:=0) lF.nd rfl (Or.inl rfl))) (λ_ _ _ _=>gj) (λ_ _ _ _=>(we Dn Dl eK (pv 0) (eV ix eK (fE (CP (K:=K) rfl) (pv 1) eK (λ_ _=>rfl)))))) eI)))))))
 (eL (fm i7)) fk)
 (eJ (fQ (ft (n8 (fc uq rfl B.len bz (eD (fj (Aq rfl) rfl B.set boot_set (eD (lW (fy (pv 1)) rfl lE (.name (by decide)) (λ_ _ _ _=>(eT (i:=0) lE.nd rfl (Or.inl rfl))) (λ_ _ _ _=>gj) (λ_ _ _ _=>(eV gu (pv 0) eK))) eI)) eI)) (fc fe rfl B.len bz (eD (pv 1) eI))))
 (eL (fm i7)) fk)
 (eL (fm (fc (pB rfl) rfl B.all boot_all (eD (lW (tU rfl B.range (eD eK (eD (fc fe rfl B.len bz (eD (pv 1) eI)) eI))) rfl lD (.name (by decide)) (λ_ _ _ _=>(eT (i:=0) lD.nd rfl (Or.inl rfl))) (λ_ _ _ _=>gj) (λ_ _ _ _=>(uQ (CG (K:=K) rfl hr.units) (fE (se (K:=K) rfl) (pv 2) (pv 0) (λ_ _=>rfl)) (eU iX (hr.mono (by decide)) rfl fo.m fo.F.kp fo.b .nil fi (eD (pv 1) (eD (eU gU (hr.mono (by decide)) rfl eX.m eX.F.kp eX.b .nil fi (eD (fE (se (K:=K) rfl) (pv 2) (eV mx (pv 0) eK) (λ_ _=>rfl)) eI)) eI))) (by with_unfolding_all rfl)))) eI)))))),?_⟩
  refine⟨_,rfl,aH _,λe1 ne1=>⟨dI ns,.list [],Da.same (eE ne1) hu,gP (ns:=[]) eG,j7 _,qP,_,rfl,?_⟩⟩
  have ee:PyData.eqv (dI ns) (.list [])=ns.isEmpty:=by
   rw[dI,ky];cases ns<;>rfl
  rw[ee]
  have s1:=eE (o:=.lst []) ne1
  generalize upd H e1 _=H1 at s1 ⊢
  refine fN (λh=>?_) (λh=>?_)
  ·have h:ns = []:=by simpa using h
   exact nU (k2 (λz=>z.1 h) H1 s1)
  have hne:ns≠ []:=by simpa using h
  refine⟨_,rfl,a,rfl,⟨_,s1.seq ha⟩,λp np=>wB (gd (s1.seq ha)) ns (λ_=>true) (λe=>V.bl (decide (0<=e/\e<2*l.1))) np (by rw[aa]) (jQ (by rw[aa];omega)) ?_ ?_⟩
  ·intro i x d H' hx hd sm P1 P0 p1 p0
   rw[ai,hd]at hx
   cases hx
   refine h9 ?_
   refine⟨_,rfl,_,_,rfl,rfl,_,rfl,fN (λh=>?_) (λh=>?_)⟩
   ·have h:0<=d:=by simpa using h
    refine⟨_,rfl,al,_,_,_,rfl,rfl,fq (s1.trans sm) hlt,rfl,_,_,rfl,rfl,.inl ⟨by decide,by decide⟩,_,_,rfl,rfl,?_⟩
    have e1:decide (0<=d/\d<2*l.1)=decide (d<2*l.1):=by simp[h]
    rw[e1]at p1
    exact p1 rfl
   ·have h:¬0<=d:=by simpa using h
    have e1:decide (0<=d/\d<2*l.1)=false:=by simp[h]
    rw[e1]at p1
    exact p1 rfl
  rw[iV]
  have e2:(ns.map λe=>V.bl (decide (0<=e/\e<2*l.1)))=(ns.map λe=>decide (0<=e/\e<2*l.1)).map V.bl:=by rw[bu];rfl
  rw[e2]
  have s2:=s1.trans (eE (o:=.lst ((ns.map λe=>decide (0<=e/\e<2*l.1)).map V.bl)) np)
  have hp:=eG (H:=H1) (a:=p) (o:=.lst ((ns.map λe=>decide (0<=e/\e<2*l.1)).map V.bl))
  generalize upd H1 p _=H2 at s2 hp ⊢
  refine⟨p,_,rfl,SqL.of hp,_,rfl,?_⟩
  refine fN (λh=>?_) (λh=>?_)
  ·refine k2 (λz=>?_) H2 s2
   have h:∃ x∈ns,¬(0<=x/\x<2*l.1):=by
    refine cS λq=>?_
    have:(ns.map λe=>decide (0<=e/\e<2*l.1)).all id=true:=by
     rw[cv]
     intro b hb
     obtain⟨x,hx,rfl⟩:=ak.mp hb
     have:0<=x/\x<2*l.1:=cS λq2=>q ⟨x,hx,q2⟩
     simpa using this
    rw[this]at h
    simp at h
   obtain⟨x,hx,h⟩:=h
   exact h (z.2.ends x hx)
  have al1:∀ e∈ns,0<=e/\e<2*l.1:=λe he=>by
   have h:(ns.map λe=>decide (0<=e/\e<2*l.1)).all id=true:=by simpa using h
   rw[cv]at h
   simpa using h _ (ak.mpr ⟨e,he,rfl⟩)
  refine⟨_,rfl,a,rfl,⟨_,s2.seq ha⟩,λp2 np2=>wB (gd (s2.seq ha)) ns (λ_=>true) (λe=>V.int (e/2)) np2 (by rw[aa]) (jQ (by rw[aa];omega)) ?_ ?_⟩
  ·intro i x d H' hx hd sm P1 P0 p1 p0
   rw[ai,hd]at hx
   cases hx
   refine h9 ?_
   exact⟨_,rfl,_,_,rfl,rfl,⟨by decide,by decide⟩,p1 rfl⟩
  rw[iV]
  have e3:(ns.map λe=>V.int (e/2))=(ns.map λe=>e/2).map V.int:=by rw[bu];rfl
  rw[e3]
  have s3:=s2.trans (eE (o:=.lst ((ns.map λe=>e/2).map V.int)) np2)
  have hp2:=eG (H:=H2) (a:=p2) (o:=.lst ((ns.map λe=>e/2).map V.int))
  generalize upd H2 p2 _=H3 at s3 hp2 ⊢
  refine⟨p2,_,rfl,SqL.of hp2,by rw[aa];show ns.length+1<4096;omega,λp3 np3=>?_⟩
  have s4:=s3.trans (eE (o:=.set (λk=>decide (k∈ns.map λe=>e/2)) (dn (ns.map λe=>e/2) (ns.map λe=>e/2).length)) np3)
  have hp3:=eG (H:=H3) (a:=p3) (o:=.set (λk=>decide (k∈ns.map λe=>e/2)) (dn (ns.map λe=>e/2) (ns.map λe=>e/2).length))
  generalize upd H3 p3 _=H4 at s4 hp3 ⊢
  refine⟨p3,_,_,rfl,hp3,_,rfl,a,_,rfl,.inl (s4.seq ha),_,_,rfl,rfl,_,rfl,fN (λh=>?_) (λh=>?_)⟩
  ·have h:dn (ns.map λe=>e/2) (ns.map λe=>e/2).length<(ns.map V.int).length:=by simpa using h
   have h2:=(za (ns.map λe=>e/2)).mp (by rw[aa]at h ⊢;rw[aa]at h;exact h)
   exact k2 (λz=>h2 z.2.nd) H4 s4
  have h:¬dn (ns.map λe=>e/2) (ns.map λe=>e/2).length<(ns.map V.int).length:=by simpa using h
  have nd:(ns.map λe=>e/2).Nodup:=by
   have h3:=(za (ns.map λe=>e/2))
   refine cS λz=>h ?_
   have:=h3.mpr z
   rw[aa]at this ⊢
   rw[aa]
   exact this
  refine⟨_,rfl,a,_,rfl,.inl (s4.seq ha),1,_,rfl,⟨by decide,by decide,by rw[aa];omega,by rw[aa];omega⟩,λp5 np5=>ve (ns.length-1) (List.range (ns.length-1)) (λ_=>true) (λj=>V.bl (dec (uD l ns j))) np5 (by simp) (jQ (by omega)) (λi H s hi=>rY.go i H s (by rw[aa];omega)) (λH s=>by
   have:=rY (lo:=1) (n:=(((ns.map V.int).length:Int)-1).toNat).stop H s
   rw[aa,show((ns.length:Int)-1).toNat=ns.length-1 by omega]at this
   rw[aa,show((ns.length:Int)-1).toNat=ns.length-1 by omega]
   exact this) ?_ ?_⟩
  ·intro i x j G G' sG yy hj P1 P0 p1 p0
   have hjl:=(ag.mp hj).1
   rw[cH]at hjl
   rw[dQ hjl]at hj
   cases hj
   obtain⟨rfl,rfl⟩:=rY.yld i G x G' sG (by rw[aa];omega) yy
   have S6:=s4.trans sG
   have g1:atI (ns.map V.int) (1+(i:Int)-1)=some (V.int ns[i]):=by
    have e:(1+(i:Int)-1)=((i:Nat):Int):=by omega
    rw[e]
    exact nS (by rw[ai,af (by omega)];rfl)
   have g2:atI (ns.map V.int) (1+(i:Int))=some (V.int ns[i+1]):=by
    have e:(1+(i:Int))=((i+1:Nat):Int):=by omega
    rw[e]
    exact nS (by rw[ai,af (by omega)];rfl)
   have hd:ns[i]? = some ns[i]:=by simp
   have he:ns[i+1]? = some ns[i+1]:=by simp
   generalize ns[i]=d at hd g1
   generalize ns[i+1]=e at he g2
   refine h9 ?_
   refine⟨_,rfl,_,rfl,a,_,_,_,rfl,rfl,S6.seq ha,g2,_,rfl,_,rfl,_,rfl,_,_,rfl,rfl,a,_,_,_,rfl,rfl,S6.seq ha,g1,d,rfl,_,l,_,rfl,Da.same S6 hv,ok,λr H8 s8 nr hr8=>?_⟩
   refine⟨(jn l.2 (oth d)).map PyData.int,.int e,gP hr8,gw.mpr rfl,pU _,nN _,?_⟩
   rw[uz]
   have e9:decide (e∈jn l.2 (oth d))=dec (uD l ns i):=by
    by_cases z:e∈jn l.2 (oth d)
    ·rw[bG z,uk]
     intro x y hx hy
     rw[hd]at hx;rw[he]at hy
     cases hx;cases hy
     exact z
    ·rw[bf z,md λq=>z (q d e hd he)]
   rw[e9]
   exact p1 H8 rfl s8
  intro H6 s6 hp6
  rw[iV]at hp6
  refine⟨p5,(List.range (ns.length-1)).map λj=>dec (uD l ns j),rfl,SqL.of (by rw[hp6,bu];rfl),?_⟩
  have e10:((List.range (ns.length-1)).map λj=>dec (uD l ns j)).all id=dec (isT l ns):=by
   rw[bx,cv,kz]
   constructor
   ·intro z
    refine⟨hne,al1,nd,λi x y hx hy=>?_⟩
    have hi:=(ag.mp hy).1
    exact kz.mp (z _ (ak.mpr ⟨i,bJ.mpr (by omega),rfl⟩)) x y hx hy
   ·rintro z b hb
    obtain⟨j,hj,rfl⟩:=ak.mp hb
    exact kz.mpr λx y hx hy=>z.2.ch j x y hx hy
  rw[e10]
  exact k H6 (s4.trans s6)
end
abbrev jx:Stmt:=top 42
theorem fM:fu ["_law_line_here","_law_train_here","_law_rows","_law_ways","_law_standing","_law_one","_law_other_here","_law_move","_law_behind","_law_kind"] ["_law_line_here","_law_train_here","_law_rows"] (eS jx):=⟨rfl,rfl,rfl,by decide +kernel,rfl,by decide +kernel,by decide +kernel⟩
section
variable {P:Program}{w:World}{K:PySem.W.Frag}{mg:Str->Option Value}{base:Heap}{f:Addr}{fd:FuncData}
theorem qD {f1 f2:Addr}{fd1 fd2:FuncData}(F:Fn K mg "_law_are_ways" jx ["_law_line_here","_law_train_here","_law_rows"] f fd)(B:Bm mg)(gG:Fn K mg "_law_moves" jd ["_law_line_here","_law_train_here"] f1 fd1)
  (jk:fh P w K mg base CX0 2 f1 fd1 ["_law_line_here","_law_train_here"] (kL K)) (ik:Fn K mg "_law_is_train" gX ["_law_line_here","_law_train_here"] f2 fd2) (lq:fh P w K mg base CX0 2 f2 fd2 ["_law_line_here","_law_train_here"] (AI K)):
  fh P w K mg base CX0 3 f fd ["_law_line_here","_law_train_here","_law_rows"] (qM K):=by
 refine F.F.ok fM (λvs H Q E h=>?_) (λcdv A outer s H vs Q E hr h=>?_)
 ·obtain⟨v,u,x,l,tr,rows,rfl,_⟩:=h;rfl
 ·obtain⟨v,u,x,l,tr,rows,rfl,hv,hu,hx,ok,hz,hzs,k⟩:=h
  obtain⟨at0,rfl,hT0⟩:=gz.mp hu
  obtain⟨q,us,rfl,hR,D⟩:=ic.mp hx
  have ul:us.length=rows.length:=by have:=Dgs.length D;rw[aa]at this;exact this
  have kF:¬Au l tr rows->∀ H',eQ H H'->Q (.bl false) H':=λz H' s=>by have:=k H' s;rwa [md z]at this
  refine⟨_,(eJ (eY (i:=3) fM.nd rfl (Or.inl rfl) AY)
 (eJ (gY aS rfl (fy (pv 2)) (gN (n:=3) rfl (eW (eT (i:=4) fM.nd rfl (Or.inl rfl)) (eW (eT (i:=5) fM.nd rfl (Or.inl rfl)) (eW (eT (i:=6) fM.nd rfl (Or.inl rfl)) fZ))))
 (eJ (fQ (PW.pt (oU (ft (ox (fc fe rfl B.len bz (eD (pv 4) eI)) (fc fe rfl B.len bz (eD (pv 1) eI)))) (oU (pO (rG (eU lq (hr.mono (by decide)) rfl ik.m ik.F.kp ik.b .nil fi (eD (pv 0) (eD (pv 4) eI))))) (pN (ft (rL (fc xj rfl B.abs boot_abs (eD (eV mx (pv 5) (pv 6)) eI)) eK))))))
 (eL (fm i7)) fk)
 (eL (uO (j8 hr) (pv 3) (fj fD rfl B.tuple b8 (eD (pv 4) eI)) (fw (eD (pv 5) (eD (pv 6) eI))) rfl))))
 (eJ (fQ (PW.pt (oU (ft (n8 (fc As rfl B.len bz (eD (pv 3) eI)) (fc fe rfl B.len bz (eD (pv 2) eI)))) (pN (g7 (xI hr.units) (AZ (j8 hr) (pv 3) (fj fD rfl B.tuple b8 (eD (pv 1) eI)) uP ⟨rfl,rfl,rfl,rfl⟩) (fw (eD eK (eD eK eI))) (ka _)))))
 (eL (fm i7)) fk)
 (eJ (gY aS rfl (fy (pv 2)) (gN (n:=3) rfl (eW (eT (i:=4) fM.nd rfl (Or.inl rfl)) (eW (eT (i:=5) fM.nd rfl (Or.inl rfl)) (eW (eT (i:=6) fM.nd rfl (Or.inl rfl)) fZ))))
 (eL (gY aS rfl (fy (eU jk (hr.mono (by decide)) rfl gG.m gG.F.kp gG.b .nil fi (eD (pv 0) (eD (pv 4) eI)))) (gN (n:=2) rfl (eW (eT (i:=7) fM.nd rfl (Or.inl rfl)) (eW (eT (i:=8) fM.nd rfl (Or.inl rfl)) fZ)))
 (eJ (eY (i:=9) fM.nd rfl (Or.inl rfl) (fj qd rfl B.int boot_int (eD (uQ yI (fE gZ (pv 7) eK (λ_ _=>rfl)) g8 (ka _)) eI)))
 (eL (fQ (PW.pt (oU (ft (nM (j8 hr) (fj fD rfl B.tuple b8 (eD (pv 8) eI)) (pv 3))) (pN (ft (rL (fE gZ (qN (j8 hr) (pv 3) (fj fD rfl B.tuple b8 (eD (pv 8) eI)) (λ_ _=>rfl)) (pv 9) (λ_ _=>rfl)) (fE gZ (fw (eD (pv 5) (eD (pv 6) eI))) (pv 9) (λ_ _=>rfl)))))))
 (eL (fm i7)) fk))))))
 (eL (fm i7)))))),?_⟩
  refine λd nd=>?_
  have s2:=eE (o:=.dT []) nd
  have hd2:=eG (H:=H) (a:=d) (o:=.dT [])
  generalize upd H d _=H2 at s2 hd2 ⊢
  dsimp only[mY]
  refine nm λR1 hR1=>?_
  refine⟨_,rfl,q,rfl,⟨_,s2.seq hR⟩,hE (K:=K) (a:=q) (xs:=us) (λj σ H3=>∃ (x4 x5 x6:Option V) (ks:List (List Key×V)),σ = [some v,some (.ref at0),some (.ref q),some (.ref d),x4,x5,x6,none,none,none]/\eQ H H3/\H3 d=some (.dT ks)/\WX H3 (rows.take j) ks/\∀ r∈rows.take j,sP l tr r.1/\r.2.1<=r.2.2+1/\r.2.2<=r.2.1+1)
   ⟨none,none,none,[],rfl,s2,hd2,.inl ⟨b6,trivial⟩,λr hr=>by simp at hr⟩ (λj σ H3 _ ⟨_,_,_,_,_,s,_⟩=>s.seq hR) ?_ ?_⟩
  ·rintro j y σ H3 N R B' kN kR hj ⟨x4,x5,x6,ks,rfl,S3,hd3,hw3,al⟩
   obtain⟨r,ad,ur,hr',rfl,hT,hU⟩:=Ay (Das.same S3 D) hj
   obtain⟨ua,rfl,hUa⟩:=gz.mp hU
   have hrm:=aw hr'
   have hrl:=hzs r hrm
   refine⟨ad,_,rfl,hT,rfl,_,_,rfl,_,_,rfl,_,_,rfl,rfl,?_⟩
   refine⟨_,rfl,ua,_,rfl,.inl hUa,_,rfl,at0,_,rfl,.inl (S3.seq hT0),_,_,rfl,rfl,_,rfl,fN (λh=>nU (kR _ _ (kF (λz=>?_) H3 S3))) (λh=>?_)⟩
   ·have h:((r.1.map V.int).length:Int)≠((tr.map V.int).length:Int):=by simpa using h
    rw[aa,aa]at h
    have:=(z.1.2 r.1 (ak.mpr ⟨r,hrm,rfl⟩)).1
    omega
   have hlen:r.1.length=tr.length:=by
    have h:((r.1.map V.int).length:Int)=((tr.map V.int).length:Int):=by simpa using h
    rw[aa,aa]at h
    omega
   refine⟨_,rfl,_,rfl,_,_,l,r.1,rfl,Da.same S3 hv,hU,ok,hrl,λH4 s4=>⟨_,rfl,fN (λh=>nU (kR _ _ (kF (λz=>?_) H4 (S3.trans s4)))) (λh=>?_)⟩⟩
   ·have h:(!dec (isT l r.1))=true:=h
    have:=z.1.2 r.1 (ak.mpr ⟨r,hrm,rfl⟩)
    rw[uk (show isT l r.1 from⟨this.2.1,this.2.2⟩)]at h
    cases h
   have GK:isT l r.1:=aM λz=>h (by show(!dec (isT l r.1))=true;rw[md z];rfl)
   refine⟨_,rfl,_,rfl,_,_,rfl,rfl,_,rfl,_,_,rfl,rfl,_,rfl,fN (λh=>kR _ _ (kF (λz=>?_) H4 (S3.trans s4))) (λh=>?_)⟩
   ·have h:1<(if r.2.1-r.2.2<0 then -(r.2.1-r.2.2)else r.2.1-r.2.2):=by simpa using h
    obtain⟨⟨n1,n2⟩,_⟩:=z.2.2 r hrm
    split at h<;>omega
   have h:¬1<(if r.2.1-r.2.2<0 then -(r.2.1-r.2.2)else r.2.1-r.2.2):=by simpa using h
   have near:r.2.1<=r.2.2+1/\r.2.2<=r.2.1+1:=by split at h<;>omega
   refine⟨_,rfl,_,rfl,by show 2<=sizeLine;decide,λc nc=>?_⟩
   have s5:=s4.trans (eE (o:=.tup [.int r.2.1,.int r.2.2]) nc)
   have hc:=eG (H:=H4) (a:=c) (o:=.tup [.int r.2.1,.int r.2.2])
   generalize upd H4 c _=H5 at s5 hc ⊢
   refine⟨_,rfl,_,rfl,ua,_,rfl,.inl ⟨s5.seq hUa,λst nst=>?_⟩⟩
   have u6:=eE (o:=.tup (r.1.map V.int)) nst
   have hst:=eG (H:=H5) (a:=st) (o:=.tup (r.1.map V.int))
   have hc6:=u6 _ _ hc
   have s6:=s5.trans u6
   generalize upd H5 st _=H6 at u6 s6 hst hc6 ⊢
   have hd6:=s6 _ _ hd3
   have hw6:=hw3.imp λc x y z=>s6 _ _ z
   have hwl:=hw3.le
   refine⟨d,_,rfl,ym.t (k:=kyI r.1) hd6 (by rw[iy];exact hst) (iE (by rw[aN]at hwl;omega)),?_⟩
   refine kN _ _ ⟨_,_,_,_,rfl,eQ.upd (S3.trans s6) nd,eG,?_,λz hz'=>?_⟩
   ·rw[aV,hr']
    refine WX.imp (λc' x y z=>?_) (WX.put hc6 hw6)
    rw[eN (fA z hd6 (by intro z;cases z))];exact z
   ·rw[aV,hr']at hz'
    rcases aC.mp hz' with y |y
    ·exact al z y
    ·have e:z=r:=by simpa using y
     rw[e];exact⟨⟨hlen,GK.1,GK.2⟩,near⟩
  rintro σ H3 ⟨x4,x5,x6,ks,rfl,S3,hd3,hw3,al⟩
  rw[ul,aW]at hw3 al
  refine hR1 _ _ _ (nm λR2 hR2=>?_)
  refine⟨_,rfl,d,_,rfl,hd3,_,rfl,q,_,rfl,.inl (S3.seq hR),_,_,rfl,rfl,_,rfl,fN (λh=>nU (kF (λz=>?_) H3 S3)) (λh=>?_)⟩
  ·have h:(ks.length:Int)<(us.length:Int):=by simpa using h
   rcases hw3 with⟨_,y⟩|⟨y,_⟩
   ·have:=y.len;omega
   ·exact y z.1.1
  have h:¬(ks.length:Int)<(us.length:Int):=by simpa using h
  have hwk:(rows.map (·.1)).Nodup/\WK H3 rows ks:=hw3.elim id λy=>absurd y.2 (by omega)
  obtain⟨nd3,hw⟩:=hwk
  clear hw3 h
  have KN:pC l tr (rows.map (·.1)):=⟨nd3,λs hs=>by obtain⟨r,hr,rfl⟩:=ak.mp hs;exact(al r hr).1⟩
  have W3d:=hw.wd (.inl hd3)
  refine⟨_,rfl,d,rfl,.inr ⟨_,.inl hd3⟩,_,rfl,at0,_,rfl,.inl ⟨S3.seq hT0,λst nst=>?_⟩⟩
  have u1:=eE (o:=.tup (tr.map V.int)) nst
  have hst:=eG (H:=H3) (a:=st) (o:=.tup (tr.map V.int))
  generalize upd H3 st _=H4 at u1 hst ⊢
  have W4:=W3d.same u1
  refine⟨_,W4.get hst,?_⟩
  refine⟨by show 2<=sizeLine;decide,λe0 ne0=>?_⟩
  have u2:=u1.trans (eE (o:=.tup [.int 0,.int 0]) ne0)
  have he0:=eG (H:=H4) (a:=e0) (o:=.tup [.int 0,.int 0])
  generalize upd H4 e0 _=H5 at u2 he0 ⊢
  have W5:=W3d.same u2
  have S5:=S3.trans u2
  by_cases hl0:ia rows tr=some (0,0)
  rotate_left
  ·cases ql:ia rows tr with
   |none=>
    rw[W4.no tr ql]
    refine⟨.none,dP 0 0,(by show Dg _ _ PyData.none V.non;simp only[Dg]),wV he0,tY,mS 0 0,_,rfl,?_⟩
    rw[uh]
    exact nU (kF (λz=>hl0 z.2.1) H5 S5)
   |some ab=>
    obtain⟨ra,rb⟩:=ab
    obtain⟨c,hc,hc'⟩:=W5.yes _ _ _ ql
    rw[hc]
    refine⟨dP ra rb,dP 0 0,wV hc',wV he0,mS _ _,mS 0 0,_,rfl,?_⟩
    rw[wO,bf λz=>hl0 (by rw[ql,z])]
    exact nU (kF (λz=>hl0 z.2.1) H5 S5)
  obtain⟨c,hc,hc'⟩:=W5.yes _ _ _ hl0
  rw[hc]
  refine⟨dP 0 0,dP 0 0,wV hc',wV he0,mS _ _,mS 0 0,_,rfl,?_⟩
  rw[wN (mS 0 0)]
  refine oz (hR2 _ _ _ ?_)
  clear hc hc' c he0
  refine⟨_,rfl,q,rfl,⟨_,S5.seq hR⟩,hE (K:=K) (a:=q) (xs:=us) (λj σ H7=>∃ (x4 x5 x6 x7 x8 x9:Option V),σ = [some v,some (.ref at0),some (.ref q),some (.ref d),x4,x5,x6,x7,x8,x9]/\eQ H5 H7/\∀ r∈rows.take j,∀ m∈mvs l r.1,∃ a b,ia rows m.2=some (a,b)/\(m.1.1=Str.ofString "on" ->a<=r.2.1)/\(m.1.1=Str.ofString "back" ->b<=r.2.2))
   ⟨_,_,_,none,none,none,rfl,eQ.refl _,λr hr=>by simp at hr⟩ (λj σ H7 _ ⟨_,_,_,_,_,_,_,s,_⟩=>(S5.trans s).seq hR) ?_ ?_⟩
  ·rintro j y σ H7 N R B' kN kR hj ⟨x4,x5,x6,x7,x8,x9,rfl,s7,gone⟩
   obtain⟨r,ad,ur,hr',rfl,hT,hU⟩:=Ay (Das.same (S5.trans s7) D) hj
   have hrm:=aw hr'
   obtain⟨⟨rl,rne,_⟩,near⟩:=al r hrm
   refine⟨ad,_,rfl,hT,rfl,_,_,rfl,_,_,rfl,_,_,rfl,rfl,?_⟩
   refine⟨_,rfl,_,rfl,_,_,l,r.1,rfl,Da.same (S5.trans s7) hv,hU,ok,rne,hzs r hrm,λpm vm H8 s8 npm hpm Dm=>?_⟩
   obtain⟨bs,hb1,hb2,hb3⟩:=Bp Dm
   subst hb2
   refine⟨pm,rfl,⟨_,SqL.of hpm⟩,hE (K:=K) (a:=pm) (xs:=bs.map λx=>V.ref x.2.1) (λjj σ H9=>∃ (x7 x8 x9:Option V),σ = [some v,some (.ref at0),some (.ref q),some (.ref d),some ur,some (.int r.2.1),some (.int r.2.2),x7,x8,x9]/\eQ H8 H9/\∀ x∈bs.take jj,∃ a b,ia rows x.1.2=some (a,b)/\(x.1.1.1=Str.ofString "on" ->a<=r.2.1)/\(x.1.1.1=Str.ofString "back" ->b<=r.2.2))
    ⟨_,_,_,rfl,eQ.refl _,λx hx=>by simp at hx⟩ (λjj σ H9 _ ⟨_,_,_,_,s,_⟩=>SqL.of (s _ _ hpm)) ?_ ?_⟩
   ·rintro jj y σ H9 N2 R3 B2 k2 kR2 hjj ⟨x7,x8,x9,rfl,s9,ago⟩
    rw[ai]at hjj
    obtain⟨x,hxx⟩:∃ x,bs[jj]? = some x:=by
     cases q:bs[jj]? with
     |none=>rw[q]at hjj;cases hjj
     |some x=>exact⟨x,rfl⟩
    rw[hxx]at hjj
    cases hjj
    obtain⟨⟨p1,ht,hdm⟩,hbb,_,_⟩:=hb3 x (aw hxx)
    obtain⟨p1x,e1,htm⟩:=C5 hdm
    cases e1
    have xin:x.1∈mvs l r.1:=by rw[<-hb1];exact ak.mpr ⟨x,aw hxx,rfl⟩
    have S9:=(s7.trans s8).trans s9
    have out:∀ G,eQ H9 G->¬(∃ a b,ia rows x.1.2=some (a,b)/\(x.1.1.1=Str.ofString "on" ->a<=r.2.1)/\(x.1.1.1=Str.ofString "back" ->b<=r.2.2))->R3 (.bl false) G:=λG sG hno=>kR2 _ _ (kR _ _ (kF (λz=>hno ((z.2.2 r hrm).2 x.1 xin)) G (S5.trans (S9.trans sG))))
    refine⟨x.2.1,_,rfl,fq s9 ht,rfl,_,_,rfl,_,_,rfl,rfl,?_⟩
    have hn':¬Str.ofString "back" = Str.ofString "on" :=by decide +kernel
    obtain⟨kd,b0,hkd,Gu⟩:∃ (kd:Int) (b0:Bool),(if b0 then(1:Int)else 0)=kd/\((x.1.1.1=Str.ofString "on" /\b0=false)\/(x.1.1.1=Str.ofString "back" /\b0=true)):=by
     rcases(t6 ok xin).1 with h |h
     ·exact⟨_,false,rfl,.inl ⟨h,rfl⟩⟩
     ·exact⟨_,true,rfl,.inr ⟨h,rfl⟩⟩
    refine⟨_,rfl,p1,_,_,_,rfl,rfl,fq s9 htm,rfl,rfl,.inr ⟨b0,?_,?_⟩⟩
    ·rcases Gu with⟨h,e⟩|⟨h,e⟩
     ·rw[h,e];exact bS (λz=>[V.bl z]) (bf λz=>hn' (V.str.inj z).symm)
     ·rw[h,e];exact bS (λz=>[V.bl z]) (bG rfl)
    rw[hkd]
    refine⟨_,rfl,x.2.2,_,rfl,.inl ⟨SqL.of (s9 _ _ hbb),λst nst=>?_⟩⟩
    have u1:=eE (o:=.tup (x.1.2.map V.int)) nst
    have hst:=eG (H:=H9) (a:=st) (o:=.tup (x.1.2.map V.int))
    generalize upd H9 st _=G1 at u1 hst ⊢
    have W10:=W5.same (S9.trans u1)
    have g1:=W10.get hst
    refine⟨_,rfl,d,_,rfl,g1,_,rfl,?_⟩
    cases ql:ia rows x.1.2 with
    |none=>
     rw[W10.no _ ql]
     exact nU (nU (out G1 u1 λ⟨a,b,h1,_⟩=>by rw[ql]at h1;cases h1))
    |some ab=>
     obtain⟨ma,mb⟩:=ab
     obtain⟨c,hc,hc'⟩:=W10.yes _ _ _ ql
     rw[hc]
     refine oz ?_
     refine⟨_,rfl,_,rfl,x.2.2,_,rfl,.inl ⟨SqL.of ((s9.trans u1) _ _ hbb),λst2 F2=>?_⟩⟩
     have u2:=u1.trans (eE (o:=.tup (x.1.2.map V.int)) F2)
     have Gr:=eG (H:=G1) (a:=st2) (o:=.tup (x.1.2.map V.int))
     have hc2:=(eE (o:=.tup (x.1.2.map V.int)) F2) _ _ hc'
     generalize upd G1 st2 _=G2 at u2 Gr hc2 ⊢
     have g2:=(W5.same (S9.trans u2)).get Gr
     rw[hc]at g2
     have yes:∀ G,eQ H9 G->((x.1.1.1=Str.ofString "on" ->ma<=r.2.1)/\(x.1.1.1=Str.ofString "back" ->mb<=r.2.2))->∃ (x7 x8 x9:Option V),[some v,some (V.ref at0),some (.ref q),some (.ref d),some ur,some (.int r.2.1),some (.int r.2.2),some (.ref p1),some (.ref x.2.2),some (.int kd)] = [some v,some (.ref at0),some (.ref q),some (.ref d),some ur,some (.int r.2.1),some (.int r.2.2),x7,x8,x9]/\eQ H8 G/\∀ x∈bs.take (jj+1),∃ a b,ia rows x.1.2=some (a,b)/\(x.1.1.1=Str.ofString "on" ->a<=r.2.1)/\(x.1.1.1=Str.ofString "back" ->b<=r.2.2):=λG sG hh=>⟨_,_,_,rfl,s9.trans sG,λz hz'=>by
      rw[aV,hxx]at hz'
      rcases aC.mp hz' with y |y
      ·exact ago z y
      ·have e:z=x:=by simpa using y
       rw[e];exact⟨ma,mb,ql,hh⟩⟩
     rcases Gu with⟨hon,eb⟩|⟨hbk,eb⟩
     ·have ek:kd=0:=by rw[<-hkd,eb];rfl
      rw[ek]at yes ⊢
      refine⟨d,_,rfl,g2,_,rfl,c,_,_,_,rfl,rfl,SqT.of hc2,rfl,_,rfl,_,rfl,by show 2<=sizeLine;decide,λt nt=>⟨_,rfl,t,_,_,_,rfl,rfl,SqT.of eG,rfl,_,_,rfl,rfl,_,rfl,fN (λh=>?_) (λh=>?_)⟩⟩
      ·have h:r.2.1<ma:=by simpa using h
       refine out _ (u2.trans (eE nt)) λ⟨a,b,h1,h2,_⟩=>?_
       rw[ql]at h1;cases h1
       have:=h2 hon
       omega
      ·have h:¬r.2.1<ma:=by simpa using h
       exact k2 _ _ (yes _ (u2.trans (eE nt)) ⟨λ_=>by omega,λz=>absurd (z.symm.trans hon) hn'⟩)
     ·have ek:kd=1:=by rw[<-hkd,eb];rfl
      rw[ek]at yes ⊢
      refine⟨d,_,rfl,g2,_,rfl,c,_,_,_,rfl,rfl,SqT.of hc2,rfl,_,rfl,_,rfl,by show 2<=sizeLine;decide,λt nt=>⟨_,rfl,t,_,_,_,rfl,rfl,SqT.of eG,rfl,_,_,rfl,rfl,_,rfl,fN (λh=>?_) (λh=>?_)⟩⟩
      ·have h:r.2.2<mb:=by simpa using h
       refine out _ (u2.trans (eE nt)) λ⟨a,b,h1,_,h2⟩=>?_
       rw[ql]at h1;cases h1
       have:=h2 hbk
       omega
      ·have h:¬r.2.2<mb:=by simpa using h
       exact k2 _ _ (yes _ (u2.trans (eE nt)) ⟨λz=>absurd (hbk.symm.trans z) hn',λ_=>by omega⟩)
   ·rintro σ H9 ⟨x7,x8,x9,rfl,s9,ago⟩
    rw[aa,aW]at ago
    refine kN _ _ ⟨_,_,_,_,_,_,rfl,(s7.trans s8).trans s9,λz hz'=>?_⟩
    rw[aV,hr']at hz'
    rcases aC.mp hz' with y |y
    ·exact gone z y
    ·have e:z=r:=by simpa using y
     rw[e]
     intro m hm
     rw[<-hb1]at hm
     obtain⟨x,hxm,rfl⟩:=ak.mp hm
     exact ago x hxm
  rintro σ H7 ⟨x4,x5,x6,x7,x8,x9,rfl,s7,gone⟩
  rw[ul,aW]at gone
  have:=k H7 (S5.trans s7)
  rw[uk (show Au l tr rows from⟨KN,hl0,λr hr=>⟨(al r hr).2,gone r hr⟩⟩)]at this
  exact this
end
def kvT (es:List Ent):List (List Key×V):=es.map λe=>(kyI e.1,V.bl true)
theorem yS (es:List Ent)(t:List Int):(jo (kvT es) (kyI t)).isSome=decide (t∈es.map (·.1)):=by
 induction es with
 |nil=>rfl
 |cons e r ih=>
  unfold kvT jo at ih ⊢
  rw[aR]
  by_cases z:e.1=t
  ·rw[bZ (by simp[z]),bG (by rw[aR,z];exact aB)];rfl
  ·rw[bM (by simpa using λy=>z (nP y)),ih]
   have e2:(t∈List.map (·.1) (e::r))↔t∈r.map (·.1):=by
    rw[aR,aG]
    exact⟨λh=>h.resolve_left λy=>z y.symm,.inr⟩
   by_cases y:t∈r.map (·.1)
   ·rw[bG y,bG (e2.mpr y)]
   ·rw[bf y,bf λx=>y (e2.mp x)]
theorem zH {H:Hp}{d p b:Addr}{es:List Ent}{as:List Addr}{t t':List Int}{k:Str×Int}(hd:H d=some (.dT (kvT es)))(ho:qI H p as es)(hb:H b=some (.lst (t'.map V.int)))(bp:b≠p)(hn:t'∉es.map (·.1)):
  (upd (upd H d (.dT (putK (kvT es) (kyI t') (.bl true)))) p (.lst (as.map V.ref ++ [V.ref b]))) d=some (.dT (kvT (es ++ [(t',some (t,k))])))/\
  qI (upd (upd H d (.dT (putK (kvT es) (kyI t') (.bl true)))) p (.lst (as.map V.ref ++ [V.ref b]))) p (as ++ [b]) (es ++ [(t',some (t,k))]):=by
 have hp:=ho.at_
 have dp:d≠p:=fA hd hp (by intro z;cases z)
 have hv:jo (kvT es) (kyI t')=none:=by
  have:=yS es t'
  rw[bf hn]at this
  exact Option.isNone_iff_eq_none.mp (by rw[<-Option.not_isSome,this];rfl)
 have e1:putK (kvT es) (kyI t') (.bl true)=kvT (es ++ [(t',some (t,k))]):=by
  rw[oV _ hv]
  unfold kvT
  rw[ar];rfl
 have hl:∀ c xs,c≠p->H c=some (.lst xs)->upd (upd H d (.dT (putK (kvT es) (kyI t') (.bl true)))) p (.lst (as.map V.ref ++ [V.ref b])) c=some (.lst xs):=λc xs cp q=>by
  rw[eN cp,eN (fA q hd (by intro z;cases z))];exact q
 refine⟨by rw[eN dp,eG,e1],⟨by rw[eG,ar];rfl,by rw[ah,ah,ho.len];rfl,λi c e hc he=>?_⟩⟩
 by_cases hi:i<es.length
 ·rw[aq hi]at he
  rw[aq (by rw[ho.len];exact hi)]at hc
  obtain⟨z1,z2⟩:=ho.each i c e hc he
  exact⟨z1,hl c _ z1 z2⟩
 ·have hi2:i=es.length:=by
   have:=(ag.mp he).1
   rw[ah,aQ]at this
   omega
  rw[hi2,az (ao _),br]at he
  rw[hi2,<-ho.len,az (ao _),br]at hc
  cases he
  cases hc
  exact⟨bp,hl b _ bp hb⟩
def uG (K:PySem.W.Frag):Sp:=λvs H Q _=>∃ (v:V) (u:Addr) (l:Ln) (ns:List Int),vs = [v,.ref u]/\Da K H (dL l) v/\H u=some (.lst (ns.map V.int))/\fC l/\ns≠ []/\ns.length<=6/\i6 l ns/\
 ∀ i p as H',(fb l ns i).length=i->eQ H H'->qI H' p as (fb l ns i)->Q (.ref p) H'
def MB (σ:L2.St)(_:Hp):Nat:=match (σ[4]? :Option (Option V))with
 |some (some (V.int i))=>(4096001-i).toNat
 |_=>0
abbrev kQ:Stmt:=top 43
theorem iR:fu ["_law_line_here","_law_train_here","_law_order","_law_seen","_law_at","_law_move","_law_behind"] ["_law_line_here","_law_train_here"] (eS kQ):=⟨rfl,rfl,rfl,by decide +kernel,rfl,by decide +kernel,by decide +kernel⟩
section
variable {P:Program}{w:World}{K:PySem.W.Frag}{mg:Str->Option Value}{base:Heap}{f:Addr}{fd:FuncData}
theorem wm {f1:Addr}{fd1:FuncData}(F:Fn K mg "_law_come" kQ ["_law_line_here","_law_train_here"] f fd)(B:Bm mg)(gG:Fn K mg "_law_moves" jd ["_law_line_here","_law_train_here"] f1 fd1)
  (jk:fh P w K mg base CX0 2 f1 fd1 ["_law_line_here","_law_train_here"] (kL K)):fh P w K mg base CX0 3 f fd ["_law_line_here","_law_train_here"] (uG K):=by
 refine F.F.ok iR (λvs H Q E h=>?_) (λcdv A outer s H vs Q E hr h=>?_)
 ·obtain⟨v,u,l,ns,rfl,_⟩:=h;rfl
 ·obtain⟨v,u,l,ns,rfl,hv,hu,ok,hne,hz,T,k⟩:=h
  refine⟨_,(eJ (eY (i:=2) iR.nd rfl (Or.inl rfl) (fP (eD (pv 1) eI)))
 (eJ (eY (i:=3) iR.nd rfl (Or.inl rfl) (wc (j8 hr) (fj fD rfl B.tuple b8 (eD (pv 1) eI)) i7))
 (eJ (eY (i:=4) iR.nd rfl (Or.inl rfl) eK)
 (eJ (mO aS (ft (n8 (pv 4) (fc fe rfl B.len bz (eD (pv 2) eI))))
 (eJ (gY aS rfl (fy (eU jk (hr.mono (by decide)) rfl gG.m gG.F.kp gG.b .nil fi (eD (pv 0) (eD (fE fK (pv 2) (pv 4) (λ_ _=>rfl)) eI)))) (gN (n:=2) rfl (eW (eT (i:=5) iR.nd rfl (Or.inl rfl)) (eW (eT (i:=6) iR.nd rfl (Or.inl rfl)) fZ)))
 (eL (fQ (ft (nM (j8 hr) (fj fD rfl B.tuple b8 (eD (pv 6) eI)) (pv 3)))
 (eJ (uO (j8 hr) (pv 3) (fj fD rfl B.tuple b8 (eD (pv 6) eI)) i7 rfl)
 (eL (gH (ki aK aY aX gI (pv 2) (eD (pv 6) eI))))) fk)))
 (eL (eY (i:=4) iR.nd rfl (Or.inl rfl) (eV gO (pv 4) eK)))))
 (eL (fm (pv 2))))))),?_⟩
  refine⟨_,rfl,by show 1<=sizeLine;decide,λp np=>?_⟩
  have s1:=eE (o:=.lst [V.ref u]) np
  have hp1:=eG (H:=H) (a:=p) (o:=.lst [V.ref u])
  have hu1:=s1 _ _ hu
  have up:u≠p:=eM hu np
  generalize upd H p _=H1 at s1 hp1 hu1 ⊢
  refine λd nd=>⟨_,rfl,u,_,rfl,.inl ⟨SqL.of (eE nd _ _ hu1),λt0 nt0=>?_⟩⟩
  have nd0:=eQ.free s1 nd
  have s2:=eE (o:=.dT []) nd
  have s3:=eE (o:=.tup (ns.map V.int)) nt0
  refine⟨_,_,t0,kyI ns,rfl,rfl,by rw[iy];exact eG,s3 _ _ eG,?_⟩
  have hp3:=s3 _ _ (s2 _ _ hp1)
  have hu3:=s3 _ _ (s2 _ _ hu1)
  have S3:=s1.trans (s2.trans s3)
  have dp:p≠d:=eM hp1 nd
  have du:u≠d:=eM hu1 nd
  have S4:eQ H (upd (upd (upd H1 d (.dT [])) t0 (.tup (ns.map V.int))) d (.dT [(kyI ns,V.bl true)])):=eQ.upd S3 nd0
  have hp4:(upd (upd (upd H1 d (.dT [])) t0 (.tup (ns.map V.int))) d (.dT [(kyI ns,V.bl true)])) p=some (.lst [V.ref u]):=by rw[eN dp];exact hp3
  have hu4:(upd (upd (upd H1 d (.dT [])) t0 (.tup (ns.map V.int))) d (.dT [(kyI ns,V.bl true)])) u=some (.lst (ns.map V.int)):=by rw[eN du];exact hu3
  have hd4:=eG (H:=upd (upd H1 d (.dT [])) t0 (.tup (ns.map V.int))) (a:=d) (o:=.dT [(kyI ns,V.bl true)])
  generalize upd (upd (upd H1 d (.dT [])) t0 (.tup (ns.map V.int))) d (.dT [(kyI ns,V.bl true)])=H4 at S4 hp4 hu4 hd4 ⊢
  refine nA (λσ H4=>∃ (i:Nat) (as:List Addr) (x5 x6:Option V),σ = [some v,some (.ref u),some (.ref p),some (.ref d),some (.int i),x5,x6]/\eQ H H4/\H4 d=some (.dT (kvT (fb l ns i)))/\qI H4 p as (fb l ns i)/\i<=(fb l ns i).length)
   MB ⟨0,[u],none,none,rfl,S4,hd4,⟨hp4,rfl,λi b e hb he=>?_⟩,aH _⟩ ?_ ?_
  ·match i,hb,he with
   | 0,hb,he=>cases hb;cases he;exact⟨up,hu4⟩
  ·rintro σ H4 N1 R1 B1 kN1 _ kB1 ⟨i,as,x5,x6,rfl,S4,hs4,ho4,hi⟩
   have E4:=jm ok T hne i
   have b4:=E4.len ok hz
   refine⟨_,rfl,_,rfl,p,_,rfl,.inl (SqL.of ho4.at_),_,_,rfl,rfl,_,rfl,fN (λhlt=>?_) (λhlt=>?_)⟩
   ·have hlt:(i:Int)<((as.map V.ref).length:Int):=by simpa using hlt
    rw[aa,ho4.len]at hlt
    have hi2:i<(fb l ns i).length:=by omega
    have he:(fb l ns i)[i]? = some ((fb l ns i)[i]):=by simp
    generalize (fb l ns i)[i]=e at he
    obtain⟨b,hb,bp,hbt⟩:=ho4.get he
    obtain⟨T1,T2,T3⟩:=E4.tr e (aw he)
    have em:e.1∈(fb l ns i).map (·.1):=ak.mpr ⟨e,aw he,rfl⟩
    refine⟨_,rfl,_,rfl,_,rfl,p,_,_,_,rfl,rfl,SqL.of ho4.at_,qe (v:=V.ref b) (by omega) (by rw[ai,show((i:Int)).toNat=i by omega,hb];rfl),_,_,l,e.1,rfl,Da.same S4 hv,gP hbt,ok,T3,by omega,λpm vm H6 s6 hpm wG Dm=>?_⟩
    have S6:=S4.trans s6
    have hs6:=s6 _ _ hs4
    have ho6:=ho4.same s6
    have Bj:(mvs l e.1).length=vm.length:=by have:=Dm.length;rw[aa]at this;exact this.symm
    have pmp:pm≠p:=bK (eM ho4.at_ hpm)
    have pmd:pm≠d:=bK (eM hs4 hpm)
    have b7:∀ j,(fW e.1 ((mvs l e.1).take j) (fb l ns i)).length<=4096000:=λj=>by
     have h1:=(mK (t:=e.1) (mvs l e.1) (fb l ns i) j).length_le
     rw[<-lQ he]at h1
     have h2:=(jm ok T hne (i+1)).len ok hz
     omega
    refine⟨pm,rfl,⟨_,SqL.of wG⟩,hE (K:=K) (a:=pm) (xs:=vm) (λj σ H7=>∃ (as':List Addr) (x5 x6:Option V),σ = [some v,some (.ref u),some (.ref p),some (.ref d),some (.int i),x5,x6]/\
      eQ H H7/\eQ (wH d p H6) H7/\H7 d=some (.dT (kvT (fW e.1 ((mvs l e.1).take j) (fb l ns i))))/\qI H7 p as' (fW e.1 ((mvs l e.1).take j) (fb l ns i)))
     ⟨as,x5,x6,rfl,S6,λb u h=>gv (p:=d) b u (gv (p:=p) b u h),hs6,ho6⟩ (λj σ H7 _ ⟨_,_,_,_,_,sm,_⟩=>SqL.of (sm _ _ (by rw[lB pmd pmp];exact wG))) ?_ ?_⟩
    ·rintro j y σ H7 N R B kN _ hj ⟨as',y5,y6,rfl,S7,sm,hs7,ho7⟩
     obtain⟨m,ad,p1,bb,hm,rfl,ht,dm,hbb,nbb,_⟩:=yK Dm hj
     have bbp:bb≠p:=bK (eM ho4.at_ nbb)
     have bbd:bb≠d:=bK (eM hs4 nbb)
     have ht7:=fq sm (sq hs6 ho6.at_ ht)
     have Ae:H7 bb=some (.lst (m.2.map V.int)):=sm _ _ (by rw[lB bbd bbp];exact hbb)
     have b7j:=b7 j
     refine⟨ad,_,rfl,ht7,rfl,_,_,rfl,_,_,rfl,rfl,?_⟩
     refine⟨_,rfl,bb,_,rfl,.inl ⟨SqL.of Ae,λst nst=>?_⟩⟩
     have s8:=eE (o:=.tup (m.2.map V.int)) nst
     have hst:=eG (H:=H7) (a:=st) (o:=.tup (m.2.map V.int))
     have hs8:=s8 _ _ hs7
     have ho8:=ho7.same s8
     have S8:=S7.trans s8
     have sm8:=sm.trans s8
     have ES:=s8 _ _ Ae
     generalize upd H7 st _=H8 at s8 hst hs8 ho8 S8 sm8 ES ⊢
     refine⟨_,rfl,d,_,rfl,pH.t (k:=kyI m.2) hs8 (by rw[iy];exact hst),_,rfl,?_⟩
     rw[yS]
     have mJ:fW e.1 ((mvs l e.1).take (j+1)) (fb l ns i)=mG e.1 (fW e.1 ((mvs l e.1).take j) (fb l ns i)) m:=rA hm
     have pre:fb l ns i <+:fW e.1 ((mvs l e.1).take j) (fb l ns i):=nF _ _ _
     refine fN (λhn=>?_) (λhn=>?_)
     ·have hn:m.2∉(fW e.1 ((mvs l e.1).take j) (fb l ns i)).map (·.1):=by simpa using hn
      have lR:fW e.1 ((mvs l e.1).take (j+1)) (fb l ns i)=fW e.1 ((mvs l e.1).take j) (fb l ns i) ++ [(m.2,some (e.1,m.1))]:=by
       rw[mJ];unfold mG;rw[aF hn]
      generalize fW e.1 ((mvs l e.1).take j) (fb l ns i)=es at *
      refine⟨_,rfl,_,rfl,bb,_,rfl,.inl ⟨SqL.of ES,λst3 J6=>?_⟩⟩
      have s10:=eE (o:=.tup (m.2.map V.int)) J6
      have Gq:=eG (H:=H8) (a:=st3) (o:=.tup (m.2.map V.int))
      have CW:=s10 _ _ hs8
      have BG:=ho8.same s10
      have S10:=S8.trans s10
      have Fz:=sm8.trans s10
      have Dv:=s10 _ _ ES
      generalize upd H8 st3 _=H10 at s10 Gq CW BG S10 Fz Dv ⊢
      have dl:(kvT es).length<=4096000:=by unfold kvT;rw[aa];omega
      refine⟨d,_,rfl,ym.t (k:=kyI m.2) CW (by rw[iy];exact Gq) (iE (by omega)),?_⟩
      obtain⟨q1,q2⟩:=zH (t:=e.1) (k:=m.1) CW BG Dv bbp hn
      have pd:p≠d:=fA BG.at_ CW (by intro z;cases z)
      have BF:upd H10 d (.dT (putK (kvT es) (kyI m.2) (.bl true))) p=some (.lst (as'.map V.ref)):=by rw[eN pd];exact BG.at_
      refine⟨_,rfl,.inl ⟨rfl,_,SqL.of BF⟩,_,rfl,p,_,_,rfl,rfl,BF,iE (by rw[aa,BG.len];omega),?_⟩
      exact kN _ _ ⟨as' ++ [bb],_,_,rfl,eQ.upd (eQ.upd S10 nd0) np,sk Fz,by rw[lR];exact q1,by rw[lR];exact q2⟩
     ·have hn:m.2∈(fW e.1 ((mvs l e.1).take j) (fb l ns i)).map (·.1):=by simpa using hn
      have qp:fW e.1 ((mvs l e.1).take (j+1)) (fb l ns i)=fW e.1 ((mvs l e.1).take j) (fb l ns i):=by
       rw[mJ];unfold mG;rw[aJ hn]
      exact kN _ _ ⟨as',_,_,rfl,S8,sm8,by rw[qp];exact hs8,by rw[qp];exact ho8⟩
    ·rintro σ H7 ⟨as',y5,y6,rfl,S7,sm,hs7,ho7⟩
     rw[<-Bj,aW,<-lQ he]at hs7 ho7
     have wF:=(nE l ns i).length_le
     refine⟨_,rfl,_,_,rfl,rfl,kN1 _ _ ⟨i+1,as',_,_,rfl,S7,hs7,ho7,by omega⟩ ?_⟩
     show(4096001-((i:Int)+1)).toNat<(4096001-(i:Int)).toNat
     omega
   ·have hlt:¬(i:Int)<((as.map V.ref).length:Int):=by simpa using hlt
    rw[aa,ho4.len]at hlt
    have e1:(fb l ns i).length=i:=by omega
    exact kB1 _ _ ⟨_,rfl,k i p as H4 e1 S4 ho4⟩
  ·rintro σ H Q Q' hq ⟨x,e1,y,e2,p',ys,e3,h4,i',j',e5,e6,c,e7,q⟩
   exact⟨x,e1,y,e2,p',ys,e3,h4,i',j',e5,e6,c,e7,hq _ _ q⟩
end
theorem pX {n:Nat}{i:Int}(h0:0<=i)(h1:i<n):ixN n i=some i.toNat:=by
 unfold ixN;rw[aJ h0,aJ h1]
theorem yD {xs:List Int}{i:Int}(h0:0<=i)(h1:i<xs.length):∃ x,atI (xs.map V.int) i=some (V.int x):=by
 have hl:i.toNat<xs.length:=by omega
 exact⟨xs[i.toNat],qe h0 (by rw[ai,af hl];rfl)⟩
def yx (K:PySem.W.Frag):Sp:=λvs H Q _=>∃ (v:V) (q:Addr) (l:Ln) (rows:List W3) (us:List V) (n:Int) (C:Nat),vs = [v,.ref q,.int n]/\Da K H (dL l) v/\gq H q rows us/\fC l/\rows.length<=900/\Fw C rows/\1<=C/\C<=30/\0<=n/\
 ∀ (p:Addr) (kh:List W3) (us:List V) (H':Hp),eQ H H'->gq H' p kh us->kh.length<=rows.length+8->Fw (C+1) kh->Q (.ref p) H'
def JB (H:Hp)(q:Addr)(σ0:St)(c:Prop)(C U z:Nat)(σ:St)(H':Hp):Prop:=
 ∃ (vs:List V) (rows:List W3),σ=σ0/\eQ H H'/\gq H' q rows vs/\(c\/U<=rows.length)/\rows.length<=z/\Fw (C+1) rows
theorem F5 {i:Int}{b:Bool} :Df i (if b=true then 1 else 0):=.inr (by cases b<;>decide)
abbrev sB (al q:Addr)(n:Int)(p:Addr)(way sm at_:Int)(sa:Addr)(oa ob far:Int):L2.St:=[some (.ref al),some (.ref q),some (.int n),some (.ref p),some (.int way),some (.int sm),some (.int at_),some (.ref sa),some (.int oa),some (.int ob),some (.int far)]
abbrev mn:Stmt:=top 41
theorem gS:fu ["_law_line_here","_law_rows","_law_number","_law_found","_law_way","_law_some","_law_at","_law_standing","_law_one","_law_other_here","_law_far"] ["_law_line_here","_law_rows","_law_number"] (eS mn):=⟨rfl,rfl,rfl,by decide +kernel,rfl,by decide +kernel,by decide +kernel⟩
section
variable {P:Program}{w:World}{K:PySem.W.Frag}{mg:Str->Option Value}{base:Heap}{f:Addr}{fd:FuncData}
set_option maxHeartbeats 16000000 in
theorem wo {f1:Addr}{fd1:FuncData}(F:Fn K mg "_law_bent" mn ["_law_line_here","_law_rows","_law_number"] f fd)(B:Bm mg)(gF:Fn K mg "_law_round" jc ["_law_train_here"] f1 fd1)(ji:fh P w K mg base CX0 2 f1 fd1 ["_law_train_here"] (rh K)):
  fh P w K mg base CX0 3 f fd ["_law_line_here","_law_rows","_law_number"] (yx K):=by
 refine F.F.ok gS (λvs H Q E h=>?_) (λcdv A outer s H vs Q E hr h=>?_)
 ·obtain⟨v,q,l,rows,us,n,C,rfl,_⟩:=h;rfl
 ·obtain⟨v,q,l,rows,us,n,C,rfl,hv,R0,ok,hz,vq,hC1,hC,hn,k⟩:=h
  obtain⟨al,bl,rfl,EM,us1,Ni,hlq⟩:=kA hv
  refine⟨_,(eJ (eY (i:=3) gS.nd rfl (Or.inl rfl) (fj gQ rfl B.list df (eD (pv 1) eI)))
 (eJ (eY (i:=4) gS.nd rfl (Or.inl rfl) (eV fI (pv 2) eK))
 (eJ (eY (i:=5) gS.nd rfl (Or.inl rfl) (eV gu (pv 2) eK))
 (eJ (fQ (g7 (uS hr.units) (pv 3) (fP eI) (ka _))
 (eL (fm (fP (eD (fw (eD (fP (eD (eV fI (pv 5) (eV ix eK (fE gZ (pv 0) eK (λ_ _=>rfl)))) eI)) (eD eK (eD eK eI)))) eI)))) fk)
 (eJ (eY (i:=6) gS.nd rfl (Or.inl rfl) (eV fI (eV gu (pv 2) eK) (fc fe rfl B.len bz (eD (pv 3) eI))))
 (eJ (kU (fE fK (pv 3) (pv 6) (λ_ _=>rfl)) (gN (n:=3) rfl (eW (eT (i:=7) gS.nd rfl (Or.inl rfl)) (eW (eT (i:=8) gS.nd rfl (Or.inl rfl)) (eW (eT (i:=9) gS.nd rfl (Or.inl rfl)) fZ)))))
 (eJ (eY (i:=10) gS.nd rfl (Or.inl rfl) (fE fK (fP (eD eK (eD (nZ lI eK) (eD eK (eD (eV pS eK eK) (eD (nZ lI (eV pS eK eK)) eI)))))) (eV fI (pv 5) eK) (λ_ _=>rfl)))
 (eJ (fQ (ft (n8 (pv 4) eK))
 (eL (kU (fw (eD (pv 7) (eD (eV gO (pv 8) (eV ix (pv 10) (fj qd rfl B.int boot_int (eD (A3 (ox (pv 4) eK)) eI)))) (eD (eV gO (pv 9) (eV ix (pv 10) (fj qd rfl B.int boot_int (eD (A3 (ox (pv 4) eK)) eI)))) eI)))) (rJ (pv 3) (pv 6) set_list))) fk)
 (eJ (fQ (ft (iT (pv 4) eK))
 (eL (gH (ki aK PySem.F.slot_list_pop PySem.F.type_list_pop Bi (pv 3) (eD (pv 6) eI)))) fk)
 (eJ (fQ (ft (iT (pv 4) eK))
 (eL (gH (ki aK aY aX gI (pv 3) (eD (fw (eD (fj gQ rfl B.list df (eD (pv 7) eI)) (eD (pv 8) (eD (pv 9) eI)))) eI)))) fk)
 (eJ (fQ (ft (iT (pv 4) eK))
 (eL (kU (fw (eD (eU ji (hr.mono (by decide)) rfl gF.m gF.F.kp gF.b .nil fi (eD (pv 7) eI)) (eD (pv 8) (eD (pv 9) eI)))) (rJ (pv 3) (pv 6) set_list))) fk)
 (eJ (fQ (ft (iT (pv 4) eK))
 (eL (gH (ki aK aY aX gI (pv 3) (eD (fw (eD (fE fK (fP (eD (kW ml (pv 7) (lz eK) mr) (eD (eV kX (pv 7) (fP (eD (eV fI (pv 5) (eV ix eK (fE gZ (pv 0) eK (λ_ _=>rfl)))) eI))) eI))) (eV fI (eV gu (pv 5) eK) eK) (λ_ _=>rfl)) (eD (pv 8) (eD (pv 9) eI)))) eI)))) fk)
 (eJ (fQ (PW.pt (mM (ft (iT (pv 4) eK)) (mq (g7 (xI hr.units) (pv 7) (fP eI) (ka _)))))
 (eL (kU (fw (eD (eV kX (kW ml (pv 7) mr (lz (nZ lI eK))) (fP (eD (fE fK (fP (eD (nZ lI eK) (eD (eV ix eK (fE gZ (pv 0) eK (λ_ _=>rfl))) (eD (fE fK (pv 7) eK (λ_ _=>rfl)) eI)))) (eV fI (pv 5) eK) (λ_ _=>rfl)) eI))) (eD (pv 8) (eD (pv 9) eI)))) (rJ (pv 3) (pv 6) set_list))) fk)
 (eJ (fQ (ft (iT (pv 4) eK))
 (eL (kU (fw (eD (pv 7) (eD (pv 9) (eD (pv 8) eI)))) (rJ (pv 3) (pv 6) set_list))) fk)
 (eJ (fQ (PW.pt (mM (ft (iT (pv 4) eK)) (mq (ft (iT (eV fI (pv 5) eK) eK)))))
 (eL (eY (i:=3) gS.nd rfl (Or.inl rfl) (fP eI))) fk)
 (eL (fm (pv 3)))))))))))))))))),?_⟩
  refine⟨_,rfl,q,us,rfl,.inl (SqL.of R0.at_),λp np=>?_⟩
  have s1:=eE (o:=.lst us) np
  have R1:=R0.copy np
  have ul:=R1.len
  generalize upd H p _=H1 at s1 R1 ⊢
  refine⟨_,rfl,_,_,rfl,rfl,by show(0:Int)<10;decide,?_⟩
  refine⟨_,rfl,_,_,rfl,rfl,⟨by decide,by decide⟩,?_⟩
  dsimp only
  have b0:0<=n/8000:=by omega
  generalize n/8000=sm at b0 ⊢
  generalize n%10=way at ⊢
  have l1:=ok.one
  refine⟨_,rfl,aH _,λe1 ne1=>⟨dWs rows,.list [],(R1.same (eE ne1)).da,gP (ns:=[]) eG,A7 _,qP,_,rfl,?_⟩⟩
  rw[C3]
  have u2:=eE (o:=.lst []) ne1
  have s2:=s1.trans u2
  have R2:=R1.same u2
  generalize upd H1 e1 _=H2 at s2 R2 ⊢
  refine fN (λh=>?_) (λh=>?_)
  ·refine⟨_,rfl,_,rfl,al,_,_,_,rfl,rfl,fq s2 EM,rfl,_,_,rfl,rfl,.inl ⟨by decide,by decide⟩,_,_,rfl,rfl,by show(0:Int)<2*l.1;omega,by show 1<=sizeLine;decide,λq1 n1=>⟨by show 3<=sizeLine;decide,λq2 n2=>⟨by show 1<=sizeLine;decide,λq3 n3=>?_⟩⟩⟩
   have u3:=eE (o:=.lst [V.int (sm%(2*l.1))]) n1
   have u4:=eE (o:=.tup [.ref q1,V.int 0,V.int 0]) n2
   have u5:=eE (o:=.lst [.ref q2]) n3
   have e1:q1≠q2:=eM eG n2
   have n3':(upd H2 q1 (.lst [V.int (sm%(2*l.1))])) q3=none:=tZ u4 n3
   have e2:q2≠q3:=eM eG n3
   have e3:q1≠q3:=eM eG n3'
   refine k q3 [([sm%(2*l.1)],0,0)] [.ref q2] _ (s2.trans (u3.trans (u4.trans u5))) ⟨eG,?_⟩ (by simp) (λr hr=>by rw[bw.mp hr];simp)
   rw[jV]
   exact Pw.one ⟨q2,q1,rfl,by rw[fU e2,eG],by rw[fU e3,eN e1,eG];rfl⟩
  have hne:rows≠ []:=by simpa using h
  have hl1:1<=rows.length:=by cases rows with |nil=>exact absurd rfl hne |cons x r=>simp
  refine⟨_,rfl,_,_,rfl,rfl,⟨by decide,by decide⟩,_,rfl,p,_,rfl,.inl (SqL.of R2.at_),_,_,rfl,rfl,by show(0:Int)<(us.length:Int);omega,?_⟩
  have a0:0<=n/10%(us.length:Int):=cf _ (by omega)
  have a1:n/10%(us.length:Int)<(us.length:Int):=bR _ (by omega)
  dsimp only
  generalize n/10%(us.length:Int)=at_ at a0 a1 ⊢
  have hat:at_<rows.length:=by omega
  obtain⟨⟨st,oa,ob⟩,ad,sa,hr',gx,hT,hTs,_,hrm⟩:=R0.get a0 hat
  have hsl:st.length<=C:=vq _ hrm
  dsimp only at hT hTs
  have sap:sa≠p:=eM hTs np
  refine⟨_,rfl,_,rfl,p,_,_,_,rfl,rfl,SqL.of R2.at_,gx,ad,_,rfl,SqT.of (s2 _ _ hT),rfl,_,_,rfl,_,_,rfl,_,_,rfl,rfl,?_⟩
  refine⟨_,rfl,_,_,rfl,rfl,⟨by decide,by decide,by decide⟩,_,_,rfl,rfl,⟨by decide,by decide,by decide⟩,_,rfl,by show 5<=sizeLine;decide,λe3 ne3=>?_⟩
  obtain⟨far,gf⟩:=yD (xs:=[1,-1,2,10 ^ (39:Int).toNat,-(10 ^ (39:Int).toNat)]) (i:=sm%5) (by omega) (by show sm%5<5;omega)
  refine⟨_,rfl,_,_,rfl,rfl,by show(0:Int)<5;decide,e3,_,_,_,rfl,rfl,SqL.of eG,gf,?_⟩
  have u3:=eE (o:=.lst ([1,-1,2,10 ^ (39:Int).toNat,-(10 ^ (39:Int).toNat)].map V.int)) ne3
  have R2:=R2.same u3
  have s2:=s2.trans u3
  dsimp only[List.map]at R2 s2
  generalize upd H2 e3 _=H2 at R2 s2 ⊢
  have k':∀ (p:Addr) (kh:List W3) (us:List V) (H':Hp),eQ H H'->gq H' p kh us->kh.length<=rows.length+8->Fw (C+1) kh->Q (.ref p) H':=k
  obtain⟨Z,hZ⟩:∃ Z,Z=rows.length:=⟨_,rfl⟩
  rw[<-hZ]at k' hat hl1
  have L1:(0:Int)=1\/Z<=rows.length:=.inr (by omega)
  have L2:rows.length<=Z:=by omega
  have Z9:Z<=900:=by omega
  have W1:Fw (C+1) rows:=vq.mono (by omega)
  have hU:Da K H (dI st) (.ref sa):=gP hTs
  clear k hr' hT gx hne h hz R0 a1 R1 s1 u2 ul vq hn hrm u3 gf
  have R1:=R2
  have s1:=s2
  clear R2 s2
  dsimp only
  refine cut (JB H p (sB al q n p way sm at_ sa oa ob far) ((0:Int)=1) C Z (Z+0)) (λnx _ _ _ hJ _=>?_) (λσ' H' hj=>?_)
  ·refine⟨_,rfl,_,_,rfl,rfl,_,rfl,fN (λhw=>?_) (λ_=>hJ _ _ ⟨us,rows,rfl,s1,R1,by omega,by omega,W1⟩)⟩
   have hw:way<3:=by simpa using hw
   have hlt:at_<(us.length:Int):=by rw[R1.len];omega
   refine⟨_,rfl,_,rfl,_,rfl,_,rfl,_,_,rfl,rfl,.inr ⟨_,rfl,_,_,rfl,rfl,F5,_,_,rfl,rfl,?_⟩⟩
   refine⟨_,rfl,_,rfl,_,rfl,_,_,rfl,rfl,.inr ⟨_,rfl,_,_,rfl,rfl,F5,_,_,rfl,rfl,by show 3<=sizeLine;decide,λt nt=>?_⟩⟩
   have u5:∀ o,eQ H2 (upd H2 t o):=λo=>eE (o:=o) nt
   refine⟨_,rfl,_,rfl,p,_,_,_,rfl,rfl,(u5 _) _ _ R1.at_,pX a0 hlt,?_⟩
   exact hJ _ _ ⟨_,_,rfl,eQ.upd (s1.trans (u5 _)) np,(R1.same (u5 _)).set at_.toNat (jz (R1.at_) nt (s1 _ _ hTs) sap),by rw[bP];omega,by rw[bP];omega,W1.set (by show st.length<=C+1;omega) _⟩
  clear s1 R1 L1 L2 W1
  obtain⟨us,rows,rfl,s1,R1,L1,L2,W1⟩:=hj
  refine cut (JB H p (sB al q n p way sm at_ sa oa ob far) (way=3) C Z (Z+0)) (λnx _ _ _ hJ _=>?_) (λσ' H' hj=>?_)
  ·refine⟨_,rfl,_,_,rfl,rfl,_,rfl,fN (λhw=>?_) (λ_=>hJ _ _ ⟨us,rows,rfl,s1,R1,by omega,by omega,W1⟩)⟩
   have hw:way=3:=by simpa using hw
   have hlt:at_<(us.length:Int):=by rw[R1.len];omega
   refine⟨_,rfl,.inl ⟨rfl,_,SqL.of R1.at_⟩,_,rfl,p,us,at_,at_.toNat,_,rfl,rfl,R1.at_,by omega,by have:=R1.len;omega,(vi (pX a0 hlt)).1,af (by omega),?_⟩
   exact hJ _ _ ⟨_,_,rfl,eQ.upd s1 np,R1.pop at_.toNat,.inl hw,bj (by rw[List.length_eraseIdx];split<;>omega) (show rows.length<=_ by omega),W1.pop _⟩
  clear s1 R1 L1 L2 W1
  obtain⟨us,rows,rfl,s1,R1,L1,L2,W1⟩:=hj
  refine cut (JB H p (sB al q n p way sm at_ sa oa ob far) (way=3) C Z (Z+1)) (λnx _ _ _ hJ _=>?_) (λσ' H' hj=>?_)
  ·refine⟨_,rfl,_,_,rfl,rfl,_,rfl,fN (λhw=>?_) (λ_=>hJ _ _ ⟨us,rows,rfl,s1,R1,by omega,by omega,W1⟩)⟩
   have hw:way=4:=by simpa using hw
   refine⟨_,rfl,.inl ⟨rfl,_,SqL.of R1.at_⟩,_,rfl,sa,_,rfl,.inl (SqL.of (s1 _ _ hTs)),λq1 n1=>⟨_,rfl,_,rfl,by show 3<=sizeLine;decide,λt nt=>?_⟩⟩
   have u3:=eE (o:=.lst (st.map V.int)) n1
   have u5:=u3.trans (eE (o:=.tup [.ref q1,V.int oa,V.int ob]) nt)
   have e1:q1≠p:=(eM R1.at_ n1).symm
   refine⟨p,us,_,rfl,rfl,u5 _ _ R1.at_,iE (by rw[R1.len];omega),?_⟩
   exact hJ _ _ ⟨_,_,rfl,eQ.upd (s1.trans u5) np,(R1.same u5).push (jz (u3 _ _ R1.at_) nt eG e1),by rw[ah];omega,by rw[ah];show rows.length+1<=_;omega,W1.push (by show st.length<=C+1;omega)⟩
  clear s1 R1 L1 L2 W1
  obtain⟨us,rows,rfl,s1,R1,L1,L2,W1⟩:=hj
  refine cut (JB H p (sB al q n p way sm at_ sa oa ob far) (way=3) C Z (Z+1)) (λnx _ _ _ hJ _=>?_) (λσ' H' hj=>?_)
  ·refine⟨_,rfl,_,_,rfl,rfl,_,rfl,fN (λhw=>?_) (λ_=>hJ _ _ ⟨us,rows,rfl,s1,R1,by omega,by omega,W1⟩)⟩
   have hw:way=5:=by simpa using hw
   have hlt:at_<(us.length:Int):=by rw[R1.len];omega
   refine⟨_,rfl,_,st,rfl,Da.same s1 hU,by omega,λq1 H4 u3 nq1 hq1=>?_⟩
   refine⟨_,rfl,_,rfl,by show 3<=sizeLine;decide,λt nt=>?_⟩
   have u5:=u3.trans (eE (o:=.tup [.ref q1,V.int oa,V.int ob]) nt)
   have e1:q1≠p:=(eM R1.at_ nq1).symm
   refine⟨_,rfl,_,rfl,p,_,_,_,rfl,rfl,u5 _ _ R1.at_,pX a0 hlt,?_⟩
   exact hJ _ _ ⟨_,_,rfl,eQ.upd (s1.trans u5) np,(R1.same u5).set at_.toNat (jz (u3 _ _ R1.at_) nt hq1 e1),by rw[bP];omega,by rw[bP];omega,W1.set (by show(st.reverse.map oth).length<=C+1;rw[aa,b3];omega) _⟩
  clear s1 R1 L1 L2 W1
  obtain⟨us,rows,rfl,s1,R1,L1,L2,W1⟩:=hj
  refine cut (JB H p (sB al q n p way sm at_ sa oa ob far) (way=3) C Z (Z+2)) (λnx _ _ _ hJ _=>?_) (λσ' H' hj=>?_)
  ·refine⟨_,rfl,_,_,rfl,rfl,_,rfl,fN (λhw=>?_) (λ_=>hJ _ _ ⟨us,rows,rfl,s1,R1,by omega,by omega,W1⟩)⟩
   have hw:way=6:=by simpa using hw
   refine⟨_,rfl,.inl ⟨rfl,_,SqL.of R1.at_⟩,_,rfl,_,rfl,sa,_,rfl,SqL.of (s1 _ _ hTs),λq1 n1=>?_⟩
   rw[o9]
   have u1:=eE (o:=.lst ((st.drop 1).map V.int)) n1
   refine⟨_,rfl,_,rfl,_,rfl,al,_,_,_,rfl,rfl,fq (s1.trans u1) EM,rfl,_,_,rfl,rfl,.inl ⟨by decide,by decide⟩,_,_,rfl,rfl,by show(0:Int)<2*l.1;omega,by show 1<=sizeLine;decide,λq0 n0=>?_⟩
   have u2:=eE (o:=.lst [V.int (sm%(2*l.1))]) n0
   refine⟨sa,q0,_,_,rfl,rfl,(u1.trans u2) _ _ (s1 _ _ hTs),eG,bE (iE (by rw[aa];show st.length+1<=_;omega)),λq2 n2=>?_⟩
   have u3:=eE (o:=.lst (st.map V.int ++ [V.int (sm%(2*l.1))])) n2
   refine⟨by show 2<=sizeLine;decide,λq4 n4=>?_⟩
   have u4:=eE (o:=.lst [.ref q1,.ref q2]) n4
   have U4:=u1.trans (u2.trans (u3.trans u4))
   have h1:=(u2.trans (u3.trans u4)) _ _ (eG (a:=q1) (o:=.lst ((st.drop 1).map V.int)))
   have h2:=u4 _ _ (eG (a:=q2) (o:=.lst (st.map V.int ++ [V.int (sm%(2*l.1))])))
   have e1:q1≠p:=(eM R1.at_ n1).symm
   have e2:q2≠p:=(eM ((u1.trans u2) _ _ R1.at_) n2).symm
   have h4:=eG (a:=q4) (o:=.lst [.ref q1,.ref q2]) (H:=upd (upd (upd H' q1 (.lst ((st.drop 1).map V.int))) q0 (.lst [V.int (sm%(2*l.1))])) q2 (.lst (st.map V.int ++ [V.int (sm%(2*l.1))])))
   generalize upd (upd (upd (upd H' q1 _) q0 _) q2 _) q4 _=G4 at U4 h1 h2 h4 ⊢
   obtain⟨qx,tx,gx,hqx,exp,hxl⟩:∃ (qx:Addr) (tx:List Int),atI [V.ref q1,V.ref q2] (sm/32%2)=some (.ref qx)/\G4 qx=some (.lst (tx.map V.int))/\qx≠p/\tx.length<=C+1:=by
    rcases(show sm/32%2=0\/sm/32%2=1 by omega)with z |z
    ·exact⟨q1,st.drop 1,by rw[z];rfl,h1,e1,by rw[bA];omega⟩
    ·exact⟨q2,st ++ [sm%(2*l.1)],by rw[z];rfl,by rw[h2,ar];rfl,e2,by rw[ah];show st.length+1<=_;omega⟩
   refine⟨_,rfl,_,_,rfl,rfl,⟨by decide,by decide⟩,_,_,rfl,rfl,by show(0:Int)<2;decide,q4,_,_,_,rfl,rfl,SqL.of h4,gx,_,rfl,_,rfl,by show 3<=sizeLine;decide,λt nt=>?_⟩
   have u5:=U4.trans (eE (o:=.tup [.ref qx,V.int oa,V.int ob]) nt)
   refine⟨p,us,_,rfl,rfl,u5 _ _ R1.at_,iE (by rw[R1.len];omega),?_⟩
   exact hJ _ _ ⟨_,_,rfl,eQ.upd (s1.trans u5) np,(R1.same u5).push (jz (U4 _ _ R1.at_) nt hqx exp),by rw[ah];omega,by rw[ah];show rows.length+1<=_;omega,W1.push (by exact hxl)⟩
  clear s1 R1 L1 L2 W1
  obtain⟨us,rows,rfl,s1,R1,L1,L2,W1⟩:=hj
  refine cut (JB H p (sB al q n p way sm at_ sa oa ob far) (way=3) C Z (Z+2)) (λnx _ _ _ hJ _=>?_) (λσ' H' hj=>?_)
  ·refine⟨_,rfl,_,_,rfl,rfl,_,rfl,fN (λhw=>?_) (λ_=>oz (hJ _ _ ⟨us,rows,rfl,s1,R1,by omega,by omega,W1⟩))⟩
   have hw:way=7:=by simpa using hw
   refine⟨_,rfl,aH _,λe3 ne3=>⟨dI st,.list [],gP (eE ne3 _ _ (s1 _ _ hTs)),gP (ns:=[]) eG,j7 _,qP,_,rfl,?_⟩⟩
   have ee:PyData.eqv (dI st) (.list [])=st.isEmpty:=by
    rw[dI,ky];cases st<;>rfl
   rw[ee]
   have s1:=s1.trans (eE (o:=.lst []) ne3)
   have R1:=R1.same (eE (o:=.lst []) ne3)
   generalize upd _ e3 _=H3 at s1 R1 ⊢
   refine fN (λh=>?_) (λ_=>hJ _ _ ⟨us,rows,rfl,s1,R1,by omega,by omega,W1⟩)
   have hne:st≠ []:=by simpa using h
   have Aa:1<=st.length:=by cases st with |nil=>exact absurd rfl hne |cons x r=>simp
   have hlt:at_<(us.length:Int):=by rw[R1.len];omega
   refine⟨_,rfl,_,rfl,_,rfl,sa,_,rfl,SqL.of (s1 _ _ hTs),λq0 n0=>?_⟩
   rw[sD]
   have u1:=eE (o:=.lst (st.dropLast.map V.int)) n0
   obtain⟨x0,gx0⟩:=yD (xs:=st) (i:=0) (by decide) (by omega)
   refine⟨_,rfl,_,rfl,al,_,_,_,rfl,rfl,fq (s1.trans u1) EM,rfl,_,_,rfl,rfl,.inl ⟨by decide,by decide⟩,_,rfl,sa,_,_,_,rfl,rfl,SqL.of (u1 _ _ (s1 _ _ hTs)),gx0,by show 3<=sizeLine;decide,λqa na=>?_⟩
   have u1a:=eE (o:=.lst [V.int (-1),V.int (2*l.1),V.int x0]) na
   obtain⟨x,gx⟩:=yD (xs:=[-1,2*l.1,x0]) (i:=sm%3) (by omega) (by show sm%3<3;omega)
   refine⟨_,rfl,_,_,rfl,rfl,by show(0:Int)<3;decide,qa,_,_,_,rfl,rfl,SqL.of eG,gx,by show 1<=sizeLine;decide,λqb nb=>?_⟩
   have u1b:=eE (o:=.lst [V.int x]) nb
   refine⟨q0,qb,_,_,rfl,rfl,(u1a.trans u1b) _ _ eG,eG,bE (iE (by rw[aa,cM];show st.length-1+1<=_;omega)),λq1 n1=>?_⟩
   have u2:=eE (o:=.lst (st.dropLast.map V.int ++ [V.int x])) n1
   have u3:=u1.trans (u1a.trans (u1b.trans u2))
   refine⟨_,rfl,_,rfl,by show 3<=sizeLine;decide,λt nt=>?_⟩
   have u5:=u3.trans (eE (o:=.tup [.ref q1,V.int oa,V.int ob]) nt)
   have e1:q1≠p:=(eM ((u1.trans (u1a.trans u1b)) _ _ R1.at_) n1).symm
   refine⟨_,rfl,_,rfl,p,_,_,_,rfl,rfl,u5 _ _ R1.at_,pX a0 hlt,?_⟩
   exact hJ _ _ ⟨_,_,rfl,eQ.upd (s1.trans u5) np,(R1.same u5).set at_.toNat (jz (u3 _ _ R1.at_) nt (show _=some (HO.lst ((st.dropLast ++ [x]).map V.int)) by rw[ar];exact eG) e1),by rw[bP];omega,by rw[bP];omega,W1.set (by show(st.dropLast ++ [x]).length<=C+1;rw[ah,cM];show st.length-1+1<=_;omega) _⟩
  clear s1 R1 L1 L2 W1
  obtain⟨us,rows,rfl,s1,R1,L1,L2,W1⟩:=hj
  refine cut (JB H p (sB al q n p way sm at_ sa oa ob far) (way=3) C Z (Z+2)) (λnx _ _ _ hJ _=>?_) (λσ' H' hj=>?_)
  ·refine⟨_,rfl,_,_,rfl,rfl,_,rfl,fN (λhw=>?_) (λ_=>hJ _ _ ⟨us,rows,rfl,s1,R1,by omega,by omega,W1⟩)⟩
   have hw:way=8:=by simpa using hw
   have hlt:at_<(us.length:Int):=by rw[R1.len];omega
   refine⟨_,rfl,_,rfl,_,rfl,by show 3<=sizeLine;decide,λt nt=>?_⟩
   have u5:=eE (o:=.tup [.ref sa,V.int ob,V.int oa]) nt
   refine⟨_,rfl,_,rfl,p,_,_,_,rfl,rfl,u5 _ _ R1.at_,pX a0 hlt,?_⟩
   exact hJ _ _ ⟨_,_,rfl,eQ.upd (s1.trans u5) np,(R1.same u5).set at_.toNat (jz (R1.at_) nt (s1 _ _ hTs) sap),by rw[bP];omega,by rw[bP];omega,W1.set (by show st.length<=C+1;omega) _⟩
  clear s1 R1 L1 L2 W1
  obtain⟨us,rows,rfl,s1,R1,L1,L2,W1⟩:=hj
  refine cut (λσ G=>∃ (p:Addr) (us:List V) (rows:List W3) (x0 x1 x2 x4 x5 x6 x7 x8 x9 x10:Option V),σ = [x0,x1,x2,some (.ref p),x4,x5,x6,x7,x8,x9,x10]/\eQ H G/\gq G p rows us/\rows.length<=Z+8/\Fw (C+1) rows) (λnx _ _ _ hJ _=>?_) (λσ' H' hj=>?_)
  ·have skip:=hJ (sB al q n p way sm at_ sa oa ob far) H' ⟨p,us,rows,_,_,_,_,_,_,_,_,_,_,rfl,s1,R1,by omega,W1⟩
   refine⟨_,rfl,_,_,rfl,rfl,_,rfl,fN (λhw=>?_) (λ_=>oz skip)⟩
   refine⟨_,rfl,_,_,rfl,rfl,by show(0:Int)<8;decide,_,_,rfl,rfl,_,rfl,fN (λhw=>?_) (λ_=>skip)⟩
   refine⟨aH _,λq1 n1=>?_⟩
   exact hJ _ _ ⟨q1,[],[],_,_,_,_,_,_,_,_,_,_,rfl,s1.trans (eE n1),⟨eG,trivial⟩,by simp,λr hr=>(nomatch hr)⟩
  obtain⟨p',us',kh,_,_,_,_,_,_,_,_,_,_,rfl,s9,R9,L9,W9⟩:=hj
  exact⟨_,rfl,k' p' kh us' H' s9 R9 L9 W9⟩
end
def tG (K:PySem.W.Frag):Sp:=λvs H Q _=>∃ (a pt q:Addr) (ns:List Int) (v:V) (l:Ln) (tr:List Int) (rows:List W3) (us:List V),vs = [.ref a,v,.ref pt,.ref q]/\SqL K H a (ns.map V.int)/\Da K H (dL l) v/\H pt=some (.lst (tr.map V.int))/\gq H q rows us/\fC l/\tr≠ []/\tr.length<=6/\i6 l tr/\rows.length<=300/\Fw 6 rows/\
 ∀ (p:Addr) (kh:List W3) (us':List V) (H':Hp),eQ H H'->gq H' p kh us'->kh.length<=rows.length+300->Fw 6 kh->Q (.ref p) H'
abbrev jw:Stmt:=top 44
theorem iG:fu ["_law_script","_law_line_here","_law_train_here","_law_rows","_law_number","_law_other_here","_law_order","_law_one","_law_more"] ["_law_script","_law_line_here","_law_train_here","_law_rows"] (eS jw):=⟨rfl,rfl,rfl,by decide +kernel,rfl,by decide +kernel,by decide +kernel⟩
theorem mF:fG (eS jw) ["_law_script","_law_line_here","_law_train_here","_law_rows","_law_number","_law_other_here","_law_order","_law_one","_law_more"] {kind:=.function,names:=[(Str.ofString ".0",.local),(Str.ofString "_law_standing",.local),(Str.ofString "_law_number",.free),(Str.ofString "_law_one",.free)],isGenerator:=false,isCoroutine:=false,more:=[]} ["_law_standing","_law_number","_law_one"] 1 [none,some 4,some 7]:=⟨rfl,by decide +kernel,by decide +kernel,by decide +kernel,rfl,by decide +kernel,rfl,by decide +kernel⟩
section
variable {P:Program}{w:World}{K:PySem.W.Frag}{mg:Str->Option Value}{base:Heap}{f:Addr}{fd:FuncData}
theorem sU {f1 f2 f3 f4 f5:Addr}{fd1 fd2 fd3 fd4 fd5:FuncData}(F:Fn K mg "_law_beside" jw ["_law_script","_law_line_here","_law_train_here","_law_rows"] f fd)(B:Bm mg)(gF:Fn K mg "_law_round" jc ["_law_train_here"] f1 fd1)(ji:fh P w K mg base CX0 2 f1 fd1 ["_law_train_here"] (rh K))
  (gE:Fn K mg "_law_train" iS ["_law_line_here","_law_cell","_law_length"] f2 fd2) (jh:fh P w K mg base CX0 2 f2 fd2 ["_law_line_here","_law_cell","_law_length"] (rg K))
  (eO:Fn K mg "_law_cell_at" iI ["_law_script","_law_k"] f3 fd3) (eR:Fn K mg "_law_mix" je ["_law_cell","_law_k"] f4 fd4)
  (g6:Fn K mg "_law_come" kQ ["_law_line_here","_law_train_here"] f5 fd5) (jL:fh P w K mg base CX0 3 f5 fd5 ["_law_line_here","_law_train_here"] (uG K)):
  fh P w K mg base CX0 4 f fd ["_law_script","_law_line_here","_law_train_here","_law_rows"] (tG K):=by
 have fJ:fh P w K mg base CX0 1 f4 fd4 ["_law_cell","_law_k"] pL:=kY eR B.toBl
 have fH:fh P w K mg base CX0 1 f3 fd3 ["_law_script","_law_k"] (qL K):=kZ eO B.toBl
 refine F.F.ok iG (λvs H Q E h=>?_) (λcdv A outer s H vs Q E hr h=>?_)
 ·obtain⟨a,pt,q,ns,v,l,tr,rows,us,rfl,_⟩:=h;rfl
 ·obtain⟨a,pt,q,ns,v,l,tr,rows,us,rfl,hS,hv,hpt,R0,ok,hne,hl6,T,hrl,vq,k⟩:=h
  refine⟨_,(eJ (eY (i:=4) iG.nd rfl (Or.inr rfl) (eU fJ (hr.mono (by decide)) rfl eR.m eR.F.kp eR.b .nil fi (eD (eU fH (hr.mono (by decide)) rfl eO.m eO.F.kp eO.b .nil fi (eD (pv 0) (eD eK eI))) (eD eK eI))))
 (eJ (eY (i:=5) iG.nd rfl (Or.inl rfl) (fE fK (fP (eD (eU ji (hr.mono (by decide)) rfl gF.m gF.F.kp gF.b .nil fi (eD (pv 2) eI)) (eD (eU jh (hr.mono (by decide)) rfl gE.m gE.F.kp gE.b .nil fi (eD (pv 1) (eD (eU fH (hr.mono (by decide)) rfl eO.m eO.F.kp eO.b .nil fi (eD (pv 0) (eD eK eI))) (eD (fc fe rfl B.len bz (eD (pv 2) eI)) eI)))) eI))) (eV fI (pv 4) eK) (λ_ _=>rfl)))
 (eJ (eY (i:=6) iG.nd rfl (Or.inl rfl) (eU jL (hr.mono (by decide)) rfl g6.m g6.F.kp g6.b .nil fi (eD (pv 1) (eD (pv 5) eI))))
 (eJ (fQ (PW.pt (oU (ft (iT (eV fI (eV gu (pv 4) eK) eK) eK)) (oU (ft (ox (fc fe rfl B.len bz (eD (pv 5) eI)) (fc fe rfl B.len bz (eD (pv 2) eI)))) (oU (g7 (A6 hr.units) (pv 2) (pv 6) (by with_unfolding_all rfl)) (pN (ft (rL (fc fe rfl B.len bz (eD (pv 6) eI)) eK)))))))
 (eL (fm (pv 3))) fk)
 (eJ (eY (i:=7) iG.nd rfl (Or.inr rfl) (fE fK (fP (eD eK (eD (eV mx eK (eV fI (eV gu (pv 4) eK) eK)) (eD (eV gO eK (eV fI (eV gu (pv 4) eK) eK)) (eD (eV gO (eV pS eK eK) (pv 4)) eI))))) (eV fI (eV gu (pv 4) eK) eK) (λ_ _=>rfl)))
 (eJ (qv (i:=8) iG.nd rfl rfl (fy (pv 6)) rfl mF (.name (by decide)) (λ_ _ _ _=>(eT (i:=0) mF.nd rfl (Or.inl rfl))) (λ_ _ _ _=>gj) (λ_ _ _ _=>(fw (eD (pv 0) (eD (pv 2) (eD (eV mx (eV gO (pv 2) (eV fI (eV gu (pv 1) eK) eK)) eK) eI))))))
 (eL (fm (fE fK (fP (eD (eV kX (pv 3) (pv 8)) (eD (eV kX (pv 8) (pv 3)) eI))) (eV fI (eV gu (pv 4) eK) eK) (λ_ _=>rfl)))))))))),?_⟩
  refine⟨_,rfl,a,ns,18,rfl,hS,by decide,λc18=>⟨c18,0,rfl,by decide,by decide,λn0 h00 h01=>?_⟩⟩
  refine⟨_,rfl,_,tr,rfl,gP hpt,by omega,λq1 H2 s2 n1 hq1=>?_⟩
  refine⟨_,rfl,_,rfl,a,ns,19,rfl,s2.seq hS,by decide,λc19=>⟨_,rfl,pt,_,rfl,.inl (SqL.of (s2 _ _ hpt)),v,l,c19,_,rfl,Da.same s2 hv,ok,by omega,by rw[aa];omega,λq2 tr2 H3 s3 n2 hq2 KU hl2 hn2 T2=>?_⟩⟩
  rw[aa]at hn2
  refine⟨by show 2<=sizeLine;decide,λq3 n3=>?_⟩
  have s4:=eE (o:=.lst [V.ref q1,V.ref q2]) n3
  have hq3:=eG (H:=H3) (a:=q3) (o:=.lst [V.ref q1,V.ref q2])
  have Gw:=s4 _ _ (s3 _ _ hq1)
  have Gv:=s4 _ _ hq2
  have S4:=s2.trans (s3.trans s4)
  generalize upd H3 q3 _=H4 at s4 hq3 Gw Gv S4 ⊢
  obtain⟨qo,to,gx,hqo,To,GA,hlo⟩:∃ (qo:Addr) (to:List Int),atI [V.ref q1,V.ref q2] (n0%2)=some (.ref qo)/\H4 qo=some (.lst (to.map V.int))/\i6 l to/\to≠ []/\to.length<=6:=by
   rcases(show n0%2=0\/n0%2=1 by omega)with z |z
   ·exact⟨q1,tr.reverse.map oth,by rw[z];rfl,Gw,zy ok T,λe=>hne (by simpa using e),by rw[aa,b3];exact hl6⟩
   ·exact⟨q2,tr2,by rw[z];rfl,Gv,T2,KU,by omega⟩
  refine⟨_,rfl,_,_,rfl,rfl,by show(0:Int)<2;decide,q3,_,_,_,rfl,rfl,SqL.of hq3,gx,?_⟩
  refine⟨_,rfl,_,rfl,v,qo,l,to,rfl,Da.same S4 hv,hqo,ok,GA,hlo,To,λi po as H5 hi s5 O5=>?_⟩
  have S5:=S4.trans s5
  have Gx:=S5 _ _ hpt
  have back:Q (.ref q) H5:=k q rows us H5 S5 (R0.same S5) (by omega) vq
  refine⟨_,rfl,_,_,rfl,rfl,⟨by decide,by decide⟩,_,_,rfl,rfl,by show(0:Int)<2;decide,_,_,rfl,rfl,_,rfl,fN (λh=>nU ⟨_,rfl,back⟩) (λh=>?_)⟩
  refine⟨_,rfl,qo,_,rfl,.inl (SqL.of (s5 _ _ hqo)),_,rfl,pt,_,rfl,.inl (SqL.of Gx),_,_,rfl,rfl,_,rfl,fN (λh=>nU ⟨_,rfl,back⟩) (λh=>?_)⟩
  refine⟨_,rfl,_,rfl,_,dI tr,O5.da,gP Gx,CI _,j7 _,_,rfl,fN (λh=>nU ⟨_,rfl,back⟩) (λh=>?_)⟩
  refine⟨_,rfl,po,_,rfl,.inl (SqL.of O5.at_),_,_,rfl,rfl,_,rfl,fN (λh=>⟨_,rfl,back⟩) (λh=>?_)⟩
  have h:¬(300:Int)<((as.map V.ref).length:Int):=by simpa using h
  rw[aa,O5.len,hi]at h
  have Nj:i<=300:=by omega
  refine⟨_,rfl,_,_,rfl,rfl,⟨by decide,by decide⟩,_,_,rfl,rfl,by show(0:Int)<5;decide,_,_,rfl,rfl,?_⟩
  refine⟨_,rfl,_,_,rfl,rfl,⟨by decide,by decide⟩,_,_,rfl,rfl,by show(0:Int)<5;decide,_,_,rfl,rfl,?_⟩
  refine⟨_,_,rfl,rfl,⟨by decide,by decide,by decide⟩,_,rfl,_,_,rfl,rfl,by show 4<=sizeLine;decide,λe1 ne1=>?_⟩
  obtain⟨x,gx1⟩:=yD (xs:=[0,0-n0/256%5,1+n0/256%5,10 ^ (39:Int).toNat+n0]) (i:=n0/4%4) (by omega) (by show n0/4%4<4;omega)
  refine⟨_,rfl,_,_,rfl,rfl,⟨by decide,by decide⟩,_,_,rfl,rfl,by show(0:Int)<4;decide,e1,_,_,_,rfl,rfl,SqL.of eG,gx1,?_⟩
  dsimp only
  have s6:=eE (o:=.lst [V.int 0,V.int (0-n0/256%5),V.int (1+n0/256%5),V.int (10 ^ (39:Int).toNat+n0)]) ne1
  have S6:=S5.trans s6
  have O6:=O5.same s6
  generalize upd H5 e1 _=H6 at s6 S6 O6 ⊢
  have hO6:=SqL.of (K:=K) O6.at_
  have al:(as.map V.ref).length=(fb l to i).length:=by rw[aa];exact O6.len
  have E5:=jm ok To GA i
  refine⟨_,rfl,po,rfl,⟨_,hO6⟩,λpm npm=>?_⟩
  refine Bu (fb l to i).length ((fb l to i).map λe=>((e.1,x,x+n0/16%3-1):W3)) Row3 (λd v=>Row3.mono d v) npm (by rw[aa]) (iE (by omega)) (λj G s hj=>(gd hO6).go j G s (by omega)) (λG s=>by have:=(gd hO6).stop G s;rw[al]at this;exact this) ?_ ?_
  ·intro j y r G G' sG ⟨vs',hl'⟩ yy hd P1 P0 kk
   have hjl:=(ag.mp hd).1
   rw[aa]at hjl
   obtain⟨rfl,hy⟩:=(gd hO6).yld j G y G' sG (by omega) yy
   rw[ai]at hd hy
   cases q1:(fb l to i)[j]? with
   |none=>rw[q1]at hd;cases hd
   |some e=>
    rw[q1]at hd
    cases hd
    obtain⟨b,hb,bp,hbl⟩:=O6.get q1
    rw[hb]at hy
    cases hy
    refine h9 ?_
    refine⟨_,rfl,_,rfl,_,rfl,_,rfl,_,_,rfl,rfl,⟨by decide,by decide⟩,_,_,rfl,rfl,by show(0:Int)<3;decide,_,_,rfl,rfl,_,_,rfl,rfl,by show 3<=sizeLine;decide,λt nt=>kk _ _ (eE nt) ?_⟩
    exact jz hl' nt (sG _ _ hbl) (eM hbl npm)
  intro vs7 H7 s7 h7 D7
  have R7:gq H7 pm ((fb l to i).map λe=>((e.1,x,x+n0/16%3-1):W3)) vs7:=⟨h7,D7⟩
  have S7:=S6.trans s7
  have R07:=R0.same S7
  have wl:((fb l to i).map λe=>((e.1,x,x+n0/16%3-1):W3)).length=i:=by rw[aa,hi]
  have F7:Fw 6 ((fb l to i).map λe=>((e.1,x,x+n0/16%3-1):W3)):=λr hr=>by
   obtain⟨e,he,rfl⟩:=ak.mp hr
   obtain⟨_,T2,_⟩:=E5.tr e he
   show e.1.length<=6
   omega
  have l1:=R07.len
  have l2:=R7.len
  rw[wl]at l2
  refine⟨_,rfl,_,rfl,q,pm,_,_,rfl,rfl,R07.at_,R7.at_,bE (iE (by omega)),λc1 nc1=>?_⟩
  have u1:=eE (o:=.lst (us++vs7)) nc1
  have A1:=R07.cat R7 nc1
  have R08:=R07.same u1
  have R8:=R7.same u1
  generalize upd H7 c1 _=H8 at u1 A1 R08 R8 ⊢
  refine⟨_,rfl,_,rfl,pm,q,_,_,rfl,rfl,R8.at_,R08.at_,bE (iE (by omega)),λc2 nc2=>?_⟩
  have u2:=eE (o:=.lst (vs7++us)) nc2
  have A2:=R8.cat R08 nc2
  have A1:=A1.same u2
  generalize upd H8 c2 _=H9 at u2 A1 A2 ⊢
  refine⟨by show 2<=sizeLine;decide,λe9 ne9=>?_⟩
  have u3:=eE (o:=.lst [V.ref c1,V.ref c2]) ne9
  have A1:=A1.same u3
  have A2:=A2.same u3
  have hq9:=eG (H:=H9) (a:=e9) (o:=.lst [V.ref c1,V.ref c2])
  generalize upd H9 e9 _=H10 at u3 A1 A2 hq9 ⊢
  have S10:=S7.trans (u1.trans (u2.trans u3))
  refine⟨_,rfl,_,_,rfl,rfl,⟨by decide,by decide⟩,_,_,rfl,rfl,by show(0:Int)<2;decide,?_⟩
  dsimp only
  rcases(show n0/64%2=0\/n0/64%2=1 by omega)with z |z
  ·exact⟨e9,_,_,_,rfl,rfl,SqL.of hq9,by rw[z];rfl,k c1 _ _ H10 S10 A1 (by rw[ah,wl];omega) (vq.cat F7)⟩
  ·exact⟨e9,_,_,_,rfl,rfl,SqL.of hq9,by rw[z];rfl,k c2 _ _ H10 S10 A2 (by rw[ah,wl];omega) (F7.cat vq)⟩
end
def uE (K:PySem.W.Frag):Sp:=λvs H Q _=>∃ (a:Addr) (ns:List Int),vs = [.ref a]/\SqL K H a (ns.map V.int)/\∀ H',Q (.bl true) H'
def dA3 (l:Ln)(tr:List Int)(rows:List W3):PyData:=.list [dL l,dI tr,dWs rows]
theorem xM (l:Ln)(tr:List Int)(rows:List W3):OkD (dA3 l tr rows):=by
 have h1:=FZ l
 have h2:=j7 tr
 have h4:=A7 rows
 refine⟨?_,?_⟩
 ·simp only[dA3,PyData.canLay0,PyData.canLayAll0,h1.1,h2.1,h4.1,Bool.and_true]
 ·have d1:=zd l
  have d2:(dI tr).depth<=1:=by
   simp only[dI,PyData.depth]
   have:=fL (f:=PyData.int) (k:=0) (λ_=>by simp[PyData.depth]) tr
   omega
  have d4:(dWs rows).depth<=4:=by
   simp only[dWs,PyData.depth]
   have:=fL zc rows
   omega
  simp only[dA3,PyData.depth,PyData.depthAll]
  omega
def asW (r:R3):W3:=(r.1,(r.2.1:Int),(r.2.2:Int))
abbrev qt:Stmt:=top 45
theorem ju:fu ["_law_script","_law_line_here","_law_train_here","_law_told","_law_names","_law_k","_law_rows","_law_at","_law_given","_law_handed","_law_found"] ["_law_script"] (eS qt):=⟨rfl,rfl,rfl,by decide +kernel,rfl,by decide +kernel,by decide +kernel⟩
theorem xf:fG (eS qt) ["_law_script","_law_line_here","_law_train_here","_law_told","_law_names","_law_k","_law_rows","_law_at","_law_given","_law_handed","_law_found"] {kind:=.function,names:=[(Str.ofString ".0",.local),(Str.ofString "_law_k",.local),(Str.ofString "_law_told",.free)],isGenerator:=false,isCoroutine:=false,more:=[]} ["_law_k","_law_told"] 1 [none,some 3]:=⟨rfl,by decide +kernel,by decide +kernel,by decide +kernel,rfl,by decide +kernel,rfl,by decide +kernel⟩
theorem pz:fG (eS qt) ["_law_script","_law_line_here","_law_train_here","_law_told","_law_names","_law_k","_law_rows","_law_at","_law_given","_law_handed","_law_found"] {kind:=.function,names:=[(Str.ofString ".0",.local),(Str.ofString "_law_standing",.local),(Str.ofString "_law_one",.local),(Str.ofString "_law_other_here",.local),(Str.ofString "list",.globalImplicit)],isGenerator:=false,isCoroutine:=false,more:=[]} ["_law_standing","_law_one","_law_other_here"] 3 [none,none,none]:=⟨rfl,by decide +kernel,by decide +kernel,by decide +kernel,rfl,by decide +kernel,rfl,by decide +kernel⟩
section
variable {P:Program}{w:World}{K:PySem.W.Frag}{mg:Str->Option Value}{base:Heap}{f:Addr}{fd:FuncData}{c2 c5:Addr}
set_option maxHeartbeats 16000000 in
theorem Ej {f1 f2 f3 f4 f5 f6 f7 f8 f9 f10 f11:Addr}{fd1 fd2 fd3 fd4 fd5 fd6 fd7 fd8 fd9 G0 GZ:FuncData}(F:Fn K mg "law" qt ["_law_script"] f fd)(B:Bm mg)
  (jN:Fn K mg "_law_line" mm ["_law_script"] f1 fd1) (oC:fh P w K mg base CX0 3 f1 fd1 ["_law_script"] (yr K))
  (eO:Fn K mg "_law_cell_at" iI ["_law_script","_law_k"] f2 fd2) (eR:Fn K mg "_law_mix" je ["_law_cell","_law_k"] f3 fd3)
  (gE:Fn K mg "_law_train" iS ["_law_line_here","_law_cell","_law_length"] f4 fd4) (jh:fh P w K mg base CX0 2 f4 fd4 ["_law_line_here","_law_cell","_law_length"] (rg K))
  (g6:Fn K mg "_law_come" kQ ["_law_line_here","_law_train_here"] f5 fd5) (jL:fh P w K mg base CX0 3 f5 fd5 ["_law_line_here","_law_train_here"] (uG K))
  (fz:Fn K mg "_law_turned_row" ij ["_law_number","_law_many"] f6 fd6)
  (iY:Fn K mg "_law_beside" jw ["_law_script","_law_line_here","_law_train_here","_law_rows"] f7 fd7) (mC:fh P w K mg base CX0 4 f7 fd7 ["_law_script","_law_line_here","_law_train_here","_law_rows"] (tG K))
  (jO:Fn K mg "_law_bent" mn ["_law_line_here","_law_rows","_law_number"] f8 fd8) (oD:fh P w K mg base CX0 3 f8 fd8 ["_law_line_here","_law_rows","_law_number"] (yx K))
  (il:Fn K mg "_law_are_ways" jx ["_law_line_here","_law_train_here","_law_rows"] f9 fd9) (lr:fh P w K mg base CX0 3 f9 fd9 ["_law_line_here","_law_train_here","_law_rows"] (qM K))
  (jP:Fn K mg "are_ways" ja ["line","train","rows"] f10 G0) (oE:fh P w K mg base CX0 5 f10 G0 ["line","train","rows"] (qM K))
  (mi:Fn K mg "fewest" mL ["line","train","goal"] f11 GZ) (sM:fh P w K mg base (CXr P w base) 6 f11 GZ ["line","train","goal"] (tE K c2 c5)):
  fh P w K mg base CX0 7 f fd ["_law_script"] (uE K):=by
 have fJ:fh P w K mg base CX0 1 f3 fd3 ["_law_cell","_law_k"] pL:=kY eR B.toBl
 have fH:fh P w K mg base CX0 1 f2 fd2 ["_law_script","_law_k"] (qL K):=kZ eO B.toBl
 have jK:fh P w K mg base CX0 1 f6 fd6 ["_law_number","_law_many"] (xA K):=lA fz B.toBl
 refine F.F.ok ju (λvs H Q E h=>?_) (λcdv A outer s H vs Q E hr h=>?_)
 ·obtain⟨a,ns,rfl,_⟩:=h;rfl
 ·obtain⟨a,ns,rfl,hS,k⟩:=h
  refine⟨_,(eJ (eY (i:=1) ju.nd rfl (Or.inl rfl) (eU oC (hr.mono (by decide)) rfl jN.m jN.F.kp jN.b .nil fi (eD (pv 0) eI)))
 (eJ (eY (i:=2) ju.nd rfl (Or.inl rfl) (eU jh (hr.mono (by decide)) rfl gE.m gE.F.kp gE.b .nil fi (eD (pv 1) (eD (eU fH (hr.mono (by decide)) rfl eO.m eO.F.kp eO.b .nil fi (eD (pv 0) (eD eK eI))) (eD (eV gO eK (eV fI (eU fJ (hr.mono (by decide)) rfl eR.m eR.F.kp eR.b .nil fi (eD (eU fH (hr.mono (by decide)) rfl eO.m eO.F.kp eO.b .nil fi (eD (pv 0) (eD eK eI))) (eD eK eI))) eK)) eI)))))
 (eJ (fQ (ft (rL (fc fe rfl B.len bz (eD (eU jL (hr.mono (by decide)) rfl g6.m g6.F.kp g6.b .nil fi (eD (pv 1) (eD (pv 2) eI))) eI)) eK))
 (eL (fm i7)) fk)
 (eJ (eY (i:=3) ju.nd rfl (Or.inr rfl) (fE gZ (eU sM (hr.mono (by decide)) rfl mi.m mi.F.kp mi.b .nil zJ (eD (pv 1) (eD (pv 2) (eD (pv 2) eI)))) eK (λ_ _=>rfl)))
 (eJ (eY (i:=4) ju.nd rfl (Or.inl rfl) (eU jK (hr.mono (by decide)) rfl fz.m fz.F.kp fz.b .nil fi (eD (eU fJ (hr.mono (by decide)) rfl eR.m eR.F.kp eR.b .nil fi (eD (eU fH (hr.mono (by decide)) rfl eO.m eO.F.kp eO.b .nil fi (eD (pv 0) (eD eK eI))) (eD eK eI))) (eD (fc fe rfl B.len bz (eD (pv 3) eI)) eI))))
 (eJ (qv (i:=6) ju.nd rfl rfl (fy (pv 4)) rfl xf (.name (by decide)) (λ_ _ _ _=>(eT (i:=0) xf.nd rfl (Or.inl rfl))) (λ_ _ _ _=>gj) (λ_ _ _ _=>(fE (se (K:=K) rfl) (pv 1) (pv 0) (λ_ _=>rfl))))
 (eJ (gY aS rfl (kD rfl B.range (eD (eV fI (eU fJ (hr.mono (by decide)) rfl eR.m eR.F.kp eR.b .nil fi (eD (eU fH (hr.mono (by decide)) rfl eO.m eO.F.kp eO.b .nil fi (eD (pv 0) (eD eK eI))) (eD eK eI))) eK) eI)) (eT (i:=5) ju.nd rfl (Or.inl rfl))
 (eJ (eY (i:=7) ju.nd rfl (Or.inl rfl) (eV fI (eU fJ (hr.mono (by decide)) rfl eR.m eR.F.kp eR.b .nil fi (eD (eU fH (hr.mono (by decide)) rfl eO.m eO.F.kp eO.b .nil fi (eD (pv 0) (eD eK eI))) (eD (pv 5) eI))) (fc fe rfl B.len bz (eD (pv 6) eI))))
 (eL (kU (fw (eD (fE gZ (fE fK (pv 6) (pv 7) (λ_ _=>rfl)) eK (λ_ _=>rfl)) (eD (eV mx (fE gZ (fE fK (pv 6) (pv 7) (λ_ _=>rfl)) eK (λ_ _=>rfl)) eK) (eD (eV mx (fE gZ (fE fK (pv 6) (pv 7) (λ_ _=>rfl)) eK (λ_ _=>rfl)) eK) eI)))) (rJ (pv 6) (pv 7) set_list)))))
 (eJ (eY (i:=6) ju.nd rfl (Or.inl rfl) (eU mC (hr.mono (by decide)) rfl iY.m iY.F.kp iY.b .nil fi (eD (pv 0) (eD (pv 1) (eD (pv 2) (eD (pv 6) eI))))))
 (eJ (gY aS rfl (kD rfl B.range (eD (eV fI (eU fJ (hr.mono (by decide)) rfl eR.m eR.F.kp eR.b .nil fi (eD (eU fH (hr.mono (by decide)) rfl eO.m eO.F.kp eO.b .nil fi (eD (pv 0) (eD eK eI))) (eD eK eI))) eK) eI)) (eT (i:=5) ju.nd rfl (Or.inl rfl))
 (eL (eY (i:=6) ju.nd rfl (Or.inl rfl) (eU oD (hr.mono (by decide)) rfl jO.m jO.F.kp jO.b .nil fi (eD (pv 1) (eD (pv 6) (eD (eU fJ (hr.mono (by decide)) rfl eR.m eR.F.kp eR.b .nil fi (eD (eU fH (hr.mono (by decide)) rfl eO.m eO.F.kp eO.b .nil fi (eD (pv 0) (eD (eV gO eK (pv 5)) eI))) (eD eK eI))) eI)))))))
 (eJ (qv (i:=8) ju.nd rfl rfl (fy (pv 6)) rfl pz (.tup (.cons (.name (by decide)) (.cons (.name (by decide)) (.cons (.name (by decide)) .nil)))) (λ_ _ _ _=>(gN (n:=3) rfl (eW (eT (i:=0) pz.nd rfl (Or.inl rfl)) (eW (eT (i:=1) pz.nd rfl (Or.inl rfl)) (eW (eT (i:=2) pz.nd rfl (Or.inl rfl)) fZ))))) (λ_ _ _ _=>gj) (λ_ _ _ _=>(fw (eD (fj (lM (K:=K) rfl) rfl B.list df (eD (pv 0) eI)) (eD (pv 1) (eD (pv 2) eI))))))
 (eJ (eY (i:=9) ju.nd rfl (Or.inl rfl) (fP (eD (fw (eD (fE gZ (pv 1) eK (λ_ _=>rfl)) (eD (fj gQ rfl B.list df (eD (fE gZ (pv 1) eK (λ_ _=>rfl)) eI)) eI))) (eD (fj gQ rfl B.list df (eD (pv 2) eI)) (eD (pv 8) eI)))))
 (eJ (eY (i:=10) ju.nd rfl (Or.inl rfl) (eU oE (hr.mono (by decide)) rfl jP.m jP.F.kp jP.b .nil fi (eD (fE fK (pv 9) eK (λ_ _=>rfl)) (eD (fE fK (pv 9) eK (λ_ _=>rfl)) (eD (fE fK (pv 9) eK (λ_ _=>rfl)) eI)))))
 (eJ (fQ (PW.pt (oU (pO (rG (fc xi rfl B.isinstance boot_isinstance (eD (pv 10) (eD (CD (v:=.ty "bool") rfl B.bool boot_bool rfl) eI))))) (pN (g7 FW (pv 10) (eU lr (hr.mono (by decide)) rfl il.m il.F.kp il.b .nil fi (eD (pv 1) (eD (pv 2) (eD (pv 6) eI)))) (ka _)))))
 (eL (fm i7)) fk)
 (eL (fm (uQ (uS hr.units) (pv 9) (fP (eD (pv 1) (eD (pv 2) (eD (pv 6) eI)))) (ka _))))))))))))))))),nm3 λR1 hR1=>?_⟩
  refine⟨_,rfl,a,ns,rfl,hS,λv l H1 s1 hv gl0=>?_⟩
  have ok:=gl0.Et
  obtain⟨al,bl,rfl,hlt,us,hll,hlq⟩:=kA hv
  refine⟨_,rfl,_,rfl,a,ns,10,rfl,s1.seq hS,by decide,λc10=>⟨_,rfl,a,ns,11,rfl,s1.seq hS,by decide,λc11=>⟨c11,0,rfl,by decide,by decide,λn0 h00 h01=>?_⟩⟩⟩
  refine⟨_,_,rfl,rfl,(by show(0:Int)<3;decide),_,_,rfl,rfl,?_⟩
  refine⟨_,l,c10,_,rfl,hv,ok,by show 0<=1+n0%3;omega,by show 1+n0%3<=40;omega,λp tr H4 s4 hp hp2 hne tl tn T=>?_⟩
  have tl6:tr.length<=6:=by
   have:(tr.length:Int)<=max 1 (1+n0%3):=tn
   omega
  have S4:=s1.trans s4
  refine⟨_,rfl,_,rfl,_,p,l,tr,rfl,Da.same s4 hv,hp2,ok,hne,tl6,T,λi0 pd as H5 hi0 s5 O5=>?_⟩
  refine⟨pd,_,rfl,.inl (SqL.of O5.at_),_,_,rfl,rfl,_,rfl,fN (λ_=>k _) (λh3=>?_)⟩
  have h3:¬(300:Int)<((as.map V.ref).length:Int):=by simpa using h3
  rw[aa,O5.len,hi0]at h3
  have S5:=S4.trans s5
  have E5:=jm ok T hne i0
  have hp5:=s5 _ _ hp2
  have dl5:Da K H5 (dL l) (.ref al):=Da.same (s4.trans s5) hv
  have dt5:Da K H5 (dI tr) (.ref p):=gP hp5
  have htr:=(qT ok T hne hi0).2.1
  have Aa:1<=i0:=by
   cases i0 with
   |zero=>exact absurd hi0 (by simp[fb])
   |succ i=>omega
  clear O5
  refine hR1 _ _ _ (nm3 λR2 hR2=>?_)
  refine⟨_,rfl,_,rfl,_,rfl,_,_,_,l,tr,tr,rfl,dl5,dt5,dt5,ok,hne,by omega,T,by omega,?_⟩
  refine⟨λz=>absurd (show gOk l tr tr from⟨⟨hne,T⟩,rfl⟩) z,λ_ ⟨j,hj⟩=>absurd (DI hi0 j) (by omega),λ_ i hi _ hn=>absurd (by rw[yo hi hi0];exact htr) hn,λ_ i hi i3 _ rr r qr run qn un H6 _ s6 _ _ _ RN _ hr0 _=>?_⟩
  have ei:=yo hi hi0
  rw[ei]at RN
  have S6:=S5.trans s6
  refine⟨r,_,_,_,rfl,rfl,SqT.of hr0,rfl,?_⟩
  have wl:(oI l tr rr ((fb l tr i0).map (·.1))).length=i0:=by rw[oI,aa,aa,hi0]
  have unl:un.length=i0:=by
   have:=Dgs.length (Pw.das (K:=K) (d':=λr=>dW (asW r)) (λr v z=>by
    obtain⟨ad,a,rfl,h1,h2,_⟩:=z
    exact Row3.da (asW r) _ ⟨ad,a,rfl,h1,h2⟩) RN.pw)
   rw[aa,wl]at this;exact this
  have Gd:∀ r3∈oI l tr rr ((fb l tr i0).map (·.1)),r3.1.length<=6:=λr3 h=>by
   obtain⟨t,ht,rfl⟩:=ak.mp h
   obtain⟨e,he,rfl⟩:=ak.mp ht
   obtain⟨_,T2,_⟩:=E5.tr e he
   show e.1.length<=6
   omega
  generalize oI l tr rr ((fb l tr i0).map (·.1))=rows0 at RN wl Gd
  have hun:=SqL.of (K:=K) RN.at_
  refine⟨_,rfl,a,ns,12,rfl,S6.seq hS,by decide,λc12=>⟨c12,0,rfl,by decide,by decide,λn1 _ _=>⟨_,rfl,qn,_,rfl,.inl hun,n1,_,rfl,by omega,by omega,λpn nm H7 s7 nn hn hnl hnr hnd=>?_⟩⟩⟩
  have S7:=S6.trans s7
  have RN7:=RN.same s7
  have KL:=SqL.of (K:=K) RN7.at_
  have hn7:=SqL.of (K:=K) hn
  have nl:(nm.map V.int).length=nm.length:=aa ..
  refine⟨_,rfl,pn,rfl,⟨_,hn7⟩,λpr npr=>?_⟩
  refine Bu nm.length (nm.map λk=>asW (rows0.getD k.toNat ([],0,0))) Row3 (λd v=>Row3.mono d v) npr (by rw[aa]) (iE (by omega)) (λj G s hj=>(gd hn7).go j G s (by omega)) (λG s=>by have:=(gd hn7).stop G s;rw[nl]at this;exact this) ?_ ?_
  ·intro j y r3 G G' sG ⟨vs',hl'⟩ yy hd P1 P0 kk
   have hjl:=(ag.mp hd).1
   rw[aa]at hjl
   obtain⟨rfl,hy⟩:=(gd hn7).yld j G y G' sG (by omega) yy
   rw[ai]at hd hy
   cases q1:nm[j]? with
   |none=>rw[q1]at hd;cases hd
   |some kx=>
    rw[q1]at hd hy
    cases hd
    cases hy
    have hk:=hnr kx (aw q1)
    have hkl:kx.toNat<un.length:=by omega
    obtain⟨r4,hr4,ad,a4,ev,h1,h2,_⟩:=RN7.pw.get (af hkl)
    have er:rows0.getD kx.toNat ([],0,0)=r4:=by rw[aE,hr4];rfl
    have gx:atI un kx=some (.ref ad):=qe hk.1 (by rw[af hkl,ev])
    have h1:=gv _ _ h1
    have h2:=gv _ _ h2
    refine h9 ?_
    refine⟨_,rfl,_,rfl,qn,_,_,_,rfl,rfl,sG.seq KL,gx,kk _ _ (eQ.refl _) ?_⟩
    show Row3 _ (asW (rows0.getD kx.toNat ([],0,0))) _
    rw[er]
    exact⟨ad,a4,rfl,by rw[fU (eM h1 npr)];exact sG _ _ h1,by rw[fU (eM h2 npr)];exact sG _ _ h2⟩
  intro vs8 H8 s8 h8 D8
  have R8:gq H8 pr _ vs8:=⟨h8,D8⟩
  have F8:Fw 6 (nm.map λk=>asW (rows0.getD k.toNat ([],0,0))):=λr3 hr3=>by
   obtain⟨kx,hk,rfl⟩:=ak.mp hr3
   have hk:=hnr kx hk
   have hkl:kx.toNat<rows0.length:=by omega
   have hm:rows0.getD kx.toNat ([],0,0)∈rows0:=by
    rw[aE,af hkl];exact dA hkl
   exact Gd _ hm
  have L8:(nm.map λk=>asW (rows0.getD k.toNat ([],0,0))).length=i0:=by rw[aa];omega
  generalize (nm.map λk=>asW (rows0.getD k.toNat ([],0,0)))=FH at R8 F8 L8
  clear D8
  have S8:=S7.trans s8
  refine hR2 _ _ _ (TL.nm λR3 hR3=>?_)
  refine⟨_,rfl,a,ns,11,rfl,S8.seq hS,by decide,λEX=>⟨EX,1,rfl,by decide,by decide,λn2 h20 _=>⟨_,_,rfl,rfl,by show(0:Int)<4;decide,?_⟩⟩⟩
  have hm2:0<=n2%4/\n2%4<4:=by omega
  refine⟨n2%4,rfl,by omega,by omega,my (λi σ G=>∃ (x5 x7:Option V) (rows:List W3) (us:List V),σ = [some (.ref a),some (.ref al),some (.ref p),some (.ref qn),some (.ref pn),x5,some (.ref pr),x7,none,none,none]/\eQ H7 G/\gq G pr rows us/\rows.length=i0/\Fw 6 rows)
   ⟨none,none,FH,vs8,rfl,s8,R8,L8,F8⟩ ?_ ?_⟩
  ·rintro i σ G N R B' kN _ hi ⟨x5,x7,rows,us0,rfl,sG,R,Lr,Fr⟩
   have SG:=S7.trans sG
   have rl:=R.len
   refine⟨_,rfl,a,ns,13,rfl,SG.seq hS,by decide,λc13=>⟨_,rfl,c13,_,rfl,by omega,by have h:i<(n2%4).toNat:=hi;omega,λn3 h30 _=>⟨_,rfl,pr,_,rfl,.inl (SqL.of R.at_),_,_,rfl,rfl,by show(0:Int)<(us0.length:Int);omega,?_⟩⟩⟩
   dsimp only
   have a0:0<=n3%(us0.length:Int):=cf _ (by omega)
   have a1:n3%(us0.length:Int)<(us0.length:Int):=bR _ (by omega)
   generalize n3%(us0.length:Int)=at_ at a0 a1 ⊢
   obtain⟨⟨st,oa,ob⟩,ad,sa,hr',gx,hT,hTs,sne,hrm⟩:=R.get a0 (by omega)
   dsimp only at hT hTs
   have hsl:st.length<=6:=Fr _ hrm
   refine⟨_,rfl,_,rfl,pr,_,_,_,rfl,rfl,SqL.of R.at_,gx,ad,_,_,_,rfl,rfl,SqT.of hT,rfl,?_⟩
   refine⟨_,rfl,_,rfl,pr,_,_,_,rfl,rfl,SqL.of R.at_,gx,ad,_,_,_,rfl,rfl,SqT.of hT,rfl,_,_,rfl,rfl,?_⟩
   refine⟨_,rfl,_,rfl,pr,_,_,_,rfl,rfl,SqL.of R.at_,gx,ad,_,_,_,rfl,rfl,SqT.of hT,rfl,_,_,rfl,rfl,by show 3<=sizeLine;decide,λt nt=>?_⟩
   have u1:=eE (o:=.tup [.ref sa,V.int (oa-1),V.int (ob-1)]) nt
   refine⟨_,rfl,_,rfl,pr,_,_,_,rfl,rfl,u1 _ _ R.at_,pX a0 a1,?_⟩
   exact kN _ _ ⟨_,_,_,_,rfl,eQ.upd (sG.trans u1) npr,(R.same u1).set at_.toNat (jz R.at_ nt hTs sne),by rw[bP];exact Lr,Fr.set hsl _⟩
  rintro σ G ⟨x5,x7,FG,us8,rfl,sG,R9',L9',F9'⟩
  have SG:=S7.trans sG
  have T5:=s6.trans (s7.trans sG)
  have hpG:=T5 _ _ hp5
  have dlG:Da K G (dL l) (.ref al):=Da.same T5 dl5
  refine hR3 _ _ _ (TL.nm λR4 hR4=>?_)
  refine⟨_,rfl,_,rfl,_,rfl,_,rfl,a,p,pr,ns,_,l,tr,FG,us8,rfl,SG.seq hS,dlG,hpG,R9',ok,hne,tl6,T,by omega,F9',λp9 FF us9 H9 s9 R9 L9 F9=>hR4 _ _ _ (TL.nm λR5 hR5=>?_)⟩
  have S9:=SG.trans s9
  refine⟨_,rfl,a,ns,11,rfl,S9.seq hS,by decide,λEX=>⟨EX,2,rfl,by decide,by decide,λn5 h50 _=>⟨_,_,rfl,rfl,by show(0:Int)<4;decide,?_⟩⟩⟩
  have hm5:0<=n5%4/\n5%4<4:=by omega
  refine⟨n5%4,rfl,by omega,by omega,my (λi σ G'=>∃ (x5 x7:Option V) (pq:Addr) (rows:List W3) (us:List V),σ = [some (.ref a),some (.ref al),some (.ref p),some (.ref qn),some (.ref pn),x5,some (.ref pq),x7,none,none,none]/\eQ H9 G'/\gq G' pq rows us/\rows.length<=600+8*i/\Fw (6+i) rows)
   ⟨x5,x7,p9,FF,us9,rfl,eQ.refl _,R9,by omega,F9⟩ ?_ ?_⟩
  ·rintro i σ G' N R B' kN _ hi ⟨x5,x7,pq,rows,us0,rfl,sG',R,Lr,Fr⟩
   have SG':=S9.trans sG'
   have hi4:(i:Int)<4:=by
    have h:i<(n5%4).toNat:=hi
    omega
   refine⟨_,rfl,_,rfl,_,rfl,_,rfl,_,_,rfl,rfl,a,ns,_,rfl,SG'.seq hS,by omega,λc14=>⟨c14,0,rfl,by decide,by decide,λn6 h60 _=>⟨_,pq,l,rows,us0,n6,6+i,rfl,Da.same (s9.trans sG') dlG,R,ok,by omega,Fr,by omega,by omega,h60,λp'' DV Ht H'' s'' R'' L'' F''=>?_⟩⟩⟩
   exact kN _ _ ⟨_,_,p'',DV,Ht,rfl,sG'.trans s'',R'',by omega,F''⟩
  rintro σ G2 ⟨x5',x7',pq,rows,usr,rfl,sG2,R,Lr,Fr⟩
  have hpq:=SqL.of (K:=K) R.at_
  have rl:=R.len
  have hL:rows.length<=700:=by omega
  have hF:∀ r∈rows,r.1.length<=900:=λr hr=>by have:=Fr r hr;omega
  have dl2:Da K G2 (dL l) (.ref al):=Da.same (s9.trans sG2) dlG
  have BF:=(s9.trans sG2) _ _ hpG
  clear Lr Fr sG2 s9 sG
  refine hR5 _ _ _ (nm2 λR6 hR6=>?_)
  refine⟨_,rfl,pq,rfl,⟨_,hpq⟩,λp2 np2=>?_⟩
  refine yP (K:=K) rows.length rows dW np2 rfl (iE (by omega)) (λj G s hj=>(gd hpq).go j G s (by omega)) (λG s=>by have:=(gd hpq).stop G s;rw[rl]at this;exact this) ?_ ?_
  ·intro j y r3 G G' sG ⟨vs',hl'⟩ yy hd P1 P0 kk
   obtain⟨rfl,hy⟩:=(gd hpq).yld j G y G' sG (by have:=(ag.mp hd).1;omega) yy
   obtain⟨r',ad,uu,hr',rfl,hT,hU⟩:=Ay (R.das (K:=K)) hy
   rw[hd]at hr'
   cases hr'
   obtain⟨ua,rfl,hUa⟩:=gz.mp hU
   refine⟨ad,_,rfl,fq sG hT,rfl,_,_,rfl,_,_,rfl,_,_,rfl,rfl,?_⟩
   refine Dh ⟨_,rfl,ua,_,rfl,.inl (sG.seq hUa),λq1 n1=>⟨_,rfl,_,rfl,by show 3<=sizeLine;decide,λt nt=>kk _ _ ((eE n1).trans (eE nt)) ?_⟩⟩
   have e1:q1≠p2:=(eM hl' n1).symm
   exact Row3.da r3 _ (jz (eE n1 _ _ hl') nt eG e1)
  intro Hs H12 s12 h12 D12
  have dgv:Da K H12 (dWs rows) (.ref p2):=ic.mpr ⟨p2,Hs,rfl,SqL.of h12,Das.same gv D12⟩
  clear D12
  obtain⟨al',bl',ea,Dr,xr,GH,GG⟩:=kA (Da.same s12 dl2)
  cases ea
  have KP:=s12 _ _ BF
  refine⟨_,rfl,al,_,_,_,rfl,rfl,Dr,rfl,_,rfl,al,_,_,_,rfl,rfl,Dr,rfl,bl',xr,rfl,.inl GH,λq1 nq1=>⟨by show 2<=sizeLine;decide,λq2 nq2=>⟨_,rfl,p,_,rfl,.inl (SqL.of ((eE nq1).trans (eE nq2) _ _ KP)),λq3 nq3=>?_⟩⟩⟩
  have u1:=eE (o:=.lst xr) nq1
  have u2:=eE (o:=.tup [.int l.1,.ref q1]) nq2
  have u3:=eE (o:=.lst (tr.map V.int)) nq3
  have g1:=(u2.trans u3) _ _ (eG (H:=H12) (a:=q1) (o:=.lst xr))
  have g2:=u3 _ _ (eG (a:=q2) (o:=.tup [.int l.1,.ref q1]) (H:=upd H12 q1 (.lst xr)))
  have g3:=eG (a:=q3) (o:=.lst (tr.map V.int)) (H:=upd (upd H12 q1 (.lst xr)) q2 (.tup [.int l.1,.ref q1]))
  have u:=u1.trans (u2.trans u3)
  clear u1 u2 u3
  generalize upd (upd (upd H12 q1 (.lst xr)) q2 (.tup [.int l.1,.ref q1])) q3 (.lst (tr.map V.int))=H14 at g1 g2 g3 u ⊢
  have dln:Da K H14 (dL l) (.ref q2):=by
   unfold dL dJ
   exact gB.mpr ⟨q2,_,rfl,SqT.of g2,Dgs.two (gw.mpr rfl) (ic.mpr ⟨q1,xr,rfl,SqL.of g1,Das.same u GG⟩)⟩
  have dtn:Da K H14 (dI tr) (.ref q3):=gP g3
  refine⟨_,rfl,by show 3<=sizeLine;decide,λq5 nq5=>?_⟩
  have u5:=eE (o:=.lst [.ref q2,.ref q3,.ref p2]) nq5
  have g5:=eG (H:=H14) (a:=q5) (o:=.lst [.ref q2,.ref q3,.ref p2])
  generalize upd H14 q5 _=H16 at u5 g5 ⊢
  have dln:=Da.same u5 dln
  have dtn:=Da.same u5 dtn
  have dgn:=Da.same (u.trans u5) dgv
  have T16:=s12.trans (u.trans u5)
  have Hd:=Da.same T16 dl2
  have Hb:Da K H16 (dI tr) (.ref p):=gP (T16 _ _ BF)
  have Hc:Da K H16 (dWs rows) (.ref pq):=(R.same T16).da
  refine hR6 _ _ _ (nm2 λR7 hR7=>?_)
  refine⟨_,rfl,q5,_,_,_,rfl,rfl,SqL.of g5,rfl,_,rfl,q5,_,_,_,rfl,rfl,SqL.of g5,rfl,_,rfl,q5,_,_,_,rfl,rfl,SqL.of g5,rfl,_,_,_,l,tr,rows,rfl,dln,dtn,dgn,ok,by omega,hF,λH17 s17=>?_⟩
  refine⟨_,rfl,_,_,_,true,rfl,.bl _,By,_,rfl,oz ?_⟩
  refine⟨_,rfl,_,rfl,_,rfl,_,rfl,_,_,_,l,tr,rows,rfl,Da.same s17 Hd,Da.same s17 Hb,Da.same s17 Hc,ok,by omega,hF,λH18 s18=>⟨rfl,_,rfl,?_⟩⟩
  rw[bG rfl]
  refine oz (hR7 _ _ _ ?_)
  refine⟨_,rfl,_,rfl,_,rfl,_,rfl,by show 3<=sizeLine;decide,λq6 nq6=>?_⟩
  have t:=(s17.trans s18).trans (eE (o:=.lst [.ref al,.ref p,.ref pq]) nq6)
  refine⟨dA3 l tr rows,dA3 l tr rows,ic.mpr ⟨q5,_,rfl,SqL.of (t _ _ g5),fx.mpr ⟨_,_,rfl,Da.same t dln,Dgs.two (Da.same t dtn) (Da.same t dgn)⟩⟩,ic.mpr ⟨q6,_,rfl,SqL.of eG,fx.mpr ⟨_,_,rfl,Da.same t Hd,Dgs.two (Da.same t Hb) (Da.same t Hc)⟩⟩,xM _ _ _,xM _ _ _,?_⟩
  rw[wN (xM l tr rows)]
  exact k _
end
structure En (K:PySem.W.Frag)(x:Str)(st:Stmt)(f:Addr)(oc:Value)(od:Option Addr)(osl:Array (Option Value))(kV doc pm:Value)(an:Option Addr)(cdv ct:Value):Prop where
 a:PySem.W.nsIn K mainGlobals x=some (some (.ref f))
 l:K.lookup f=some ⟨oc,od,.func (PySem.W.fnOf x x (lC st) (jW st) (eS st) .none kV doc pm an cdv ct),osl⟩
 c:PySem.W.codeIn K cdv x=true
 k:PySem.W.keepIn K (.ref f)=true
theorem gA {K:PySem.W.Frag}{h:Heap}{mg:Str->Option Value}{x:Str}{st:Stmt}{ps:List Str}{f:Addr}{oc:Value}{od an:Option Addr}{osl:Array (Option Value)}{kV doc pm cdv ct:Value}(X:K.In h)(G:h.Ns mainGlobals mg)(e:En K x st f oc od osl kV doc pm an cdv ct)
  (hb:∀ (kV doc pm:Value) (an:Option Addr) (cdv ct:Value) (us:List Value),us.length=ps.length->bindArgs (PySem.W.fnOf x x (lC st) (jW st) (eS st) .none kV doc pm an cdv ct) ⟨us,[]⟩=pure (ps.zip us)):
  Fn K mg x st ps f (PySem.W.fnOf x x (lC st) (jW st) (eS st) .none kV doc pm an cdv ct):=⟨BM (st:=st) e.l e.c e.k,PySem.W.mg_of X G e.a,(BM (st:=st) e.l e.c e.k).binds (ps:=ps) hb⟩
theorem bn1 {F:FuncData}{p:List Str}(k:∀ a0,bindArgs F ⟨[a0],[]⟩=pure (p.zip [a0]))(us:List Value)(h:us.length=1):bindArgs F ⟨us,[]⟩=pure (p.zip us):=match us,h with |[a0],_=>k a0
theorem bn2 {F:FuncData}{p:List Str}(k:∀ a0 a1,bindArgs F ⟨[a0,a1],[]⟩=pure (p.zip [a0,a1]))(us:List Value)(h:us.length=2):bindArgs F ⟨us,[]⟩=pure (p.zip us):=match us,h with |[a0,a1],_=>k a0 a1
theorem bn3 {F:FuncData}{p:List Str}(k:∀ a0 a1 a2,bindArgs F ⟨[a0,a1,a2],[]⟩=pure (p.zip [a0,a1,a2]))(us:List Value)(h:us.length=3):bindArgs F ⟨us,[]⟩=pure (p.zip us):=match us,h with |[a0,a1,a2],_=>k a0 a1 a2
theorem bn4 {F:FuncData}{p:List Str}(k:∀ a0 a1 a2 a3,bindArgs F ⟨[a0,a1,a2,a3],[]⟩=pure (p.zip [a0,a1,a2,a3]))(us:List Value)(h:us.length=4):bindArgs F ⟨us,[]⟩=pure (p.zip us):=match us,h with |[a0,a1,a2,a3],_=>k a0 a1 a2 a3
theorem all_mk {l:PySem.W.OpenLaw}{w:World}{K:PySem.W.Frag}{h:Heap}{mg:Str->Option Value}{fa f1 f2 f3 f4 f5 f6 f7 f8 f9 f10 f11 f12 f13 f14 f15 f16 f17 f18 f19 f20 f21 f22 f23 f24 f25 f26 f27 f28 f29 f30 f31 f32 f33 f34 f35:Addr}(X:K.In h)(G:h.Ns mainGlobals mg)(hfa:mg "law" = some (.ref fa))
  {od1 an1 od2 an2 od3 an3 od4 an4 od5 an5 od6 an6 od7 an7 od8 an8 od9 an9 Jz M0 Jy MZ Jx MY Jw MX Jv MW Ju MV Jt MU Js MT Jr MS Jq MR Jp MQ Jo MP Jn MO Jm MN Jl MM Jk ML Jj MK Ji MJ Jh MI Jg MH Jf MG Je MF Jd ME Jc MD Jb MC Ja Hl:Option Addr}{sl1 sl2 sl3 sl4 sl5 sl6 sl7 sl8 sl9 Ip Io Im Il Ik Ij Ii Ih Ig Ie Ic Ib Ia HZ HY HX HW HV HU HS HR HQ HP HN HM HL:Array (Option Value)}{oc1 kV1 dc1 pm1 cd1 ct1 oc2 kV2 dc2 pm2 cd2 ct2 oc3 kV3 dc3 pm3 cd3 ct3 oc4 kV4 dc4 pm4 cd4 ct4 oc5 kV5 dc5 pm5 cd5 ct5 oc6 kV6 dc6 pm6 cd6 ct6 oc7 kV7 dc7 pm7 cd7 ct7 oc8 kV8 dc8 pm8 cd8 ct8 oc9 kV9 dc9 pm9 cd9 ct9 J4 KH Lx IZ Mz LZ J0 KG Lw IY My LY JZ KD Lv IX Mx LX JY KC Lu IW Mw LW JX KA Ls IV Mu LV JW Kz Lq IU Mt LU JV Ky Lp IT Ms LS JU Kx Lo IS Mr LR JT Kw Lm IQ Mq LQ JR Kv Ll IP Mp LP JQ Ku Lk IM Mo LO JP Kt Lj IL Mn LN JO Ks Li IK Mm LM JN Kr Lh IJ Ml LL JM Kq Lg II Mk LK JL Kp Le IH Mj LJ JK Ko Ld IG Mi LI JJ Kn Lc IF Mh LH JI Km Lb IE Mg LF JH Kl La ID Mf LD JG Kk K9 IC Me LC JF Kj K8 IB Md LB JE Ki K7 IA Mc LA JD Kh K6 Iz Mb Lz JC Kg K5 Iy L6 Ly JA Gg Hf FO Hi Hh:Value}
  (e1:En K "other_end" j4 f1 oc1 od1 sl1 kV1 dc1 pm1 an1 cd1 ct1)
  (e2:En K "piece_of" kO f2 oc2 od2 sl2 kV2 dc2 pm2 an2 cd2 ct2)
  (e3:En K "is_end" oT f3 oc3 od3 sl3 kV3 dc3 pm3 an3 cd3 ct3)
  (e4:En K "joined" kT f4 oc4 od4 sl4 kV4 dc4 pm4 an4 cd4 ct4)
  (e5:En K "check_train" iJ f5 oc5 od5 sl5 kV5 dc5 pm5 an5 cd5 ct5)
  (e6:En K "free_ends" jf f6 oc6 od6 sl6 kV6 dc6 pm6 an6 cd6 ct6)
  (e7:En K "moves_of" jI f7 oc7 od7 sl7 kV7 dc7 pm7 an7 cd7 ct7)
  (e8:En K "check_goal" ko f8 oc8 od8 sl8 kV8 dc8 pm8 an8 cd8 ct8)
  (e9:En K "first_steps" jT f9 oc9 od9 sl9 kV9 dc9 pm9 an9 cd9 ct9)
  (e10:En K "lists_of" kP f10 J4 Jz Ip KH Lx IZ M0 Mz LZ)
  (e11:En K "run_back_from" i9 f11 J0 Jy Io KG Lw IY MZ My LY)
  (e12:En K "is_standing" jS f12 JZ Jx Im KD Lv IX MY Mx LX)
  (e13:En K "are_standings" g9 f13 JY Jw Il KC Lu IW MX Mw LW)
  (e14:En K "gone_on" nH f14 JX Jv Ik KA Ls IV MW Mu LV)
  (e15:En K "changed_over" jy f15 JW Ju Ij Kz Lq IU MV Mt LU)
  (e16:En K "counted" lT f16 JV Jt Ii Ky Lp IT MU Ms LS)
  (e17:En K "fewest" mL f17 JU Js Ih Kx Lo IS MT Mr LR)
  (e18:En K "allow_ways" kq f18 JT Jr Ig Kw Lm IQ MS Mq LQ)
  (e19:En K "are_ways" ja f19 JR Jq Ie Kv Ll IP MR Mp LP)
  (e20:En K "_law_cell_at" iI f20 JQ Jp Ic Ku Lk IM MQ Mo LO)
  (e21:En K "_law_mix" je f21 JP Jo Ib Kt Lj IL MP Mn LN)
  (e22:En K "_law_turned_row" ij f22 JO Jn Ia Ks Li IK MO Mm LM)
  (e23:En K "_law_other" iq f23 JN Jm HZ Kr Lh IJ MN Ml LL)
  (e24:En K "_law_joined" hX f24 JM Jl HY Kq Lg II MM Mk LK)
  (e25:En K "_law_line" mm f25 JL Jk HX Kp Le IH ML Mj LJ)
  (e26:En K "_law_renamed" jR f26 JK Jj HW Ko Ld IG MK Mi LI)
  (e27:En K "_law_train" iS f27 JJ Ji HV Kn Lc IF MJ Mh LH)
  (e28:En K "_law_round" jc f28 JI Jh HU Km Lb IE MI Mg LF)
  (e29:En K "_law_moves" jd f29 JH Jg HS Kl La ID MH Mf LD)
  (e30:En K "_law_is_train" gX f30 JG Jf HR Kk K9 IC MG Me LC)
  (e31:En K "_law_bent" mn f31 JF Je HQ Kj K8 IB MF Md LB)
  (e32:En K "_law_are_ways" jx f32 JE Jd HP Ki K7 IA ME Mc LA)
  (e33:En K "_law_come" kQ f33 JD Jc HN Kh K6 Iz MD Mb Lz)
  (e34:En K "_law_beside" jw f34 JC Jb HM Kg K5 Iy MC L6 Ly)
  (e35:En K "law" qt f35 JA Ja HL Gg Hf FO Hl Hi Hh)
  (z1:PySem.W.nsIn K mainGlobals "len" = some none) (z2:PySem.W.nsIn K mainGlobals "range" = some none) (z3:PySem.W.nsIn K mainGlobals "sorted" = some none) (z4:PySem.W.nsIn K mainGlobals "enumerate" = some none) (z5:PySem.W.nsIn K mainGlobals "reversed" = some none) (z6:PySem.W.nsIn K mainGlobals "min" = some none) (z7:PySem.W.nsIn K mainGlobals "max" = some none) (z8:PySem.W.nsIn K mainGlobals "list" = some none) (z9:PySem.W.nsIn K mainGlobals "int" = some none) (z10:PySem.W.nsIn K mainGlobals "isinstance" = some none) (z11:PySem.W.nsIn K mainGlobals "zip" = some none) (z12:PySem.W.nsIn K mainGlobals "sum" = some none) (z13:PySem.W.nsIn K mainGlobals "all" = some none) (z14:PySem.W.nsIn K mainGlobals "set" = some none) (z15:PySem.W.nsIn K mainGlobals "tuple" = some none) (z16:PySem.W.nsIn K mainGlobals "abs" = some none) (z17:PySem.W.nsIn K mainGlobals "bool" = some none) (z18:PySem.W.nsIn K mainGlobals "dict" = some none) (z19:PySem.W.nsIn K mainGlobals "str" = some none)
  {E0:Addr} (xo0:xp K "NoTrain" E0)
  {E1:Addr} (xo1:xp K "TooMany" E1)
  (xm0:PySem.W.mroIn K E0 (.ref E0)=some true)
  {tk0:Tok} (ck0:PySem.W.nsIn K mainGlobals "MOST_STANDINGS" = some (some (.int 300 tk0)))
  {od:Addr}{ot1 ot2 ot3 ot4:Tok}{oep:Nat} (wa:PySem.W.nsIn K mainGlobals "OTHER_WORD" = some (some (.ref od))) (wk:K.lookup od=some {cls:=.type "dict",data:=.dict #[⟨PyData.keyHash w.params (Str.ofString "on"),.str (Str.ofString "on") ot1,.str (Str.ofString "back") ot2⟩,⟨PyData.keyHash w.params (Str.ofString "back"),.str (Str.ofString "back") ot3,.str (Str.ofString "on") ot4⟩] oep}):
  ∃ fd:FuncData,(∀ (s:Shared) (v:Value),BindsTo s fd ⟨[v],[]⟩ [("_law_script",v)])/\∀ base:Heap,K.In base->base.Ns mainGlobals mg->fh l.prog w K mg base CX0 7 fa fd ["_law_script"] (uE K):=by
 have e:=hfa.symm.trans (PySem.W.mg_of X G e35.a)
 cases e
 have B:Bm mg:=⟨⟨aT X G z1,aT X G z2,aT X G z3,aT X G z4,aT X G z5,aT X G z6,aT X G z7,aT X G z8,aT X G z9,aT X G z10⟩,aT X G z11,aT X G z12,aT X G z13,aT X G z14,aT X G z15,aT X G z16,aT X G z17,aT X G z18,aT X G z19⟩
 have X0:=xo0.xc X G
 have X1:=xo1.xc X G
 have C:Cm mg tk0:=⟨PySem.W.mg_of X G ck0⟩
 have O:Dd l.prog w K mg od:=FV (PySem.W.mg_of X G wa) wk
 have fO:=gA (ps:=["end"]) X G e1 λ_ _ _ _ _ _=>bn1 (λ_=>rfl)
 have fX:=gA (ps:=["end"]) X G e2 λ_ _ _ _ _ _=>bn1 (λ_=>rfl)
 have mh:=gA (ps:=["line","end"]) X G e3 λ_ _ _ _ _ _=>bn2 (λ_ _=>rfl)
 have iF:=gA (ps:=["line","end"]) X G e4 λ_ _ _ _ _ _=>bn2 (λ_ _=>rfl)
 have fV:=gA (ps:=["line","train"]) X G e5 λ_ _ _ _ _ _=>bn2 (λ_ _=>rfl)
 have ie:=gA (ps:=["line","train","end"]) X G e6 λ_ _ _ _ _ _=>bn3 (λ_ _ _=>rfl)
 have fS:=gA (ps:=["line","train"]) X G e7 λ_ _ _ _ _ _=>bn2 (λ_ _=>rfl)
 have iZ:=gA (ps:=["line","train","goal"]) X G e8 λ_ _ _ _ _ _=>bn3 (λ_ _ _=>rfl)
 have iN:=gA (ps:=["line","train"]) X G e9 λ_ _ _ _ _ _=>bn2 (λ_ _=>rfl)
 have jM:=gA (ps:=["standings"]) X G e10 λ_ _ _ _ _ _=>bn1 (λ_=>rfl)
 have hG:=gA (ps:=["steps","goal"]) X G e11 λ_ _ _ _ _ _=>bn2 (λ_ _=>rfl)
 have iM:=gA (ps:=["line","train","listed"]) X G e12 λ_ _ _ _ _ _=>bn3 (λ_ _ _=>rfl)
 have hV:=gA (ps:=["line","train","standings"]) X G e13 λ_ _ _ _ _ _=>bn3 (λ_ _ _=>rfl)
 have kJ:=gA (ps:=["line","states","steps"]) X G e14 λ_ _ _ _ _ _=>bn3 (λ_ _ _=>rfl)
 have ip:=gA (ps:=["states","steps"]) X G e15 λ_ _ _ _ _ _=>bn2 (λ_ _=>rfl)
 have kK:=gA (ps:=["line","train"]) X G e16 λ_ _ _ _ _ _=>bn2 (λ_ _=>rfl)
 have mi:=gA (ps:=["line","train","goal"]) X G e17 λ_ _ _ _ _ _=>bn3 (λ_ _ _=>rfl)
 have i4:=gA (ps:=["line","ways","standing"]) X G e18 λ_ _ _ _ _ _=>bn3 (λ_ _ _=>rfl)
 have jP:=gA (ps:=["line","train","rows"]) X G e19 λ_ _ _ _ _ _=>bn3 (λ_ _ _=>rfl)
 have eO:=gA (ps:=["_law_script","_law_k"]) X G e20 λ_ _ _ _ _ _=>bn2 (λ_ _=>rfl)
 have eR:=gA (ps:=["_law_cell","_law_k"]) X G e21 λ_ _ _ _ _ _=>bn2 (λ_ _=>rfl)
 have fz:=gA (ps:=["_law_number","_law_many"]) X G e22 λ_ _ _ _ _ _=>bn2 (λ_ _=>rfl)
 have eX:=gA (ps:=["_law_end"]) X G e23 λ_ _ _ _ _ _=>bn1 (λ_=>rfl)
 have fo:=gA (ps:=["_law_line_here","_law_end"]) X G e24 λ_ _ _ _ _ _=>bn2 (λ_ _=>rfl)
 have jN:=gA (ps:=["_law_script"]) X G e25 λ_ _ _ _ _ _=>bn1 (λ_=>rfl)
 have iL:=gA (ps:=["_law_line_here","_law_cell"]) X G e26 λ_ _ _ _ _ _=>bn2 (λ_ _=>rfl)
 have gE:=gA (ps:=["_law_line_here","_law_cell","_law_length"]) X G e27 λ_ _ _ _ _ _=>bn3 (λ_ _ _=>rfl)
 have gF:=gA (ps:=["_law_train_here"]) X G e28 λ_ _ _ _ _ _=>bn1 (λ_=>rfl)
 have gG:=gA (ps:=["_law_line_here","_law_train_here"]) X G e29 λ_ _ _ _ _ _=>bn2 (λ_ _=>rfl)
 have ik:=gA (ps:=["_law_line_here","_law_train_here"]) X G e30 λ_ _ _ _ _ _=>bn2 (λ_ _=>rfl)
 have jO:=gA (ps:=["_law_line_here","_law_rows","_law_number"]) X G e31 λ_ _ _ _ _ _=>bn3 (λ_ _ _=>rfl)
 have il:=gA (ps:=["_law_line_here","_law_train_here","_law_rows"]) X G e32 λ_ _ _ _ _ _=>bn3 (λ_ _ _=>rfl)
 have g6:=gA (ps:=["_law_line_here","_law_train_here"]) X G e33 λ_ _ _ _ _ _=>bn2 (λ_ _=>rfl)
 have iY:=gA (ps:=["_law_script","_law_line_here","_law_train_here","_law_rows"]) X G e34 λ_ _ _ _ _ _=>bn4 (λ_ _ _ _=>rfl)
 have Hq:=gA (ps:=["_law_script"]) X G e35 λ_ _ _ _ _ _=>bn1 (λ_=>rfl)
 refine⟨PySem.W.fnOf "law" "law" (lC qt) (jW qt) (eS qt) .none Gg Hf FO Hl Hi Hh,λs v=>.of_eq rfl,λbase _ _=>?_⟩
 have XR:Xr K mg E0:=⟨X0,⟨xo0.t,xo0.isc,xo0.p,xm0⟩⟩
 have XT:Xt K mg E1:=⟨X1⟩
 have lN:fh l.prog w K mg base CX0 2 _ _ _ _:=rP iL eR fz B.toBl
 have oC:fh l.prog w K mg base CX0 3 _ _ _ _:=wj jN eR eO eX iL lN B.toBl
 have lH:fh l.prog w K mg base CX0 2 _ _ _ _:=uX ie B.toBl fX iF
 have iB:fh l.prog w K mg base CX0 3 _ _ _ _:=wg fS fO ie lH
 have jk:fh l.prog w K mg base CX0 2 _ _ _ _:=uW gG eX fo B.toBl
 have ji:fh l.prog w K mg base CX0 2 _ _ _ _:=uV gF eX
 have jh:fh l.prog w K mg base CX0 2 _ _ _ _:=uU gE eR eX fo B.toBl
 have iK:fh l.prog w K mg base (CXr l.prog w base) 2 _ _ _ _:=rS fV XR B mh fX iF fO
 have lO:fh l.prog w K mg base CX0 3 _ _ _ _:=rQ iM XR B fV iK
 have kf:fh l.prog w K mg base CX0 4 _ _ _ _:=pT hV B iM lO
 have mE:fh l.prog w K mg base CX0 4 _ _ _ _:=sW i4 B fS iB
 have oE:fh l.prog w K mg base CX0 5 _ _ _ _:=wq jP B hV kf i4 mE
 have mD:fh l.prog w K mg base (CXr l.prog w base) 3 _ _ _ _:=sV iZ XR B fV iK
 have lP:fh l.prog w K mg base (CXr l.prog w base) 4 _ _ _ _:=rR iN B C XT fS iB
 have qj:fh l.prog w K mg base CX0 4 _ _ _ _:=xJ kJ B fS iB
 have lu:fh l.prog w K mg base CX0 1 _ _ _ _:=qE ip O
 have qk:fh l.prog w K mg base CX0 5 _ _ _ _:=xK kK B kJ qj ip lu
 have sM:fh l.prog w K mg base (CXr l.prog w base) 6 _ _ _ _:=zL mi B iZ mD iN lP jM hG kK qk
 have lq:fh l.prog w K mg base CX0 2 _ _ _ _:=qC ik B eX fo
 have lr:fh l.prog w K mg base CX0 3 _ _ _ _:=qD il B gG jk ik lq
 have jL:fh l.prog w K mg base CX0 3 _ _ _ _:=wm g6 B gG jk
 have oD:fh l.prog w K mg base CX0 3 _ _ _ _:=wo jO B gF ji
 have mC:fh l.prog w K mg base CX0 4 _ _ _ _:=sU iY B gF ji gE jh eO eR g6 jL
 exact Ej Hq B jN oC eO eR gE jh g6 jL fz iY mC jO oD il lr jP oE mi sM
theorem walk {l:PySem.W.OpenLaw}{q:Program}{loose:List Str}{XP:(Str->Option Value)->Heap->Prop}{YP:World->Heap->Prop}{d:DefRec}{K:Params->PySem.W.Frag}(hn:l.most=some 63)(hdf:d.params.defaults = [])
  (hY:∀ (w:World) (h:Heap),YP w h->(K w.params).In h)
  (F:∀ (w:World) (mg:Str->Option Value) (fa:Addr) (h:Heap),(K w.params).In h->h.Ns mainGlobals mg->mg d.name=some (.ref fa)->
   ∃ fd:FuncData,(∀ (s:Shared) (u:Value),BindsTo s fd ⟨[u],[]⟩ [("_law_script",u)])/\∀ base:Heap,(K w.params).In base->base.Ns mainGlobals mg->fh l.prog w (K w.params) mg base CX0 7 fa fd ["_law_script"] (uE (K w.params))):
  PySem.W.WalkO q loose XP YP l.row.toRowW d [] (λf vs=>PySem.call f vs):=
 L2.Cj (n:=63) (k:=7) (x:= "_law_script") (CX:=λ_=>CX0) (sp:=λw=>uE (K w.params)) hn (by decide) hdf ⟨rfl,by decide,by decide⟩ hY F (λ_ _ a ns hl _ hS=>⟨a,ns,rfl,hS,λ_=>rfl⟩) λ_ _ _ _ _ z=>z
end K22
namespace PySem.W.Fast
def tw10033094518465629628:=0
def tw10042452849453011382:=0
def tw10162622812595544311:=0
def tw1018169014748524078:=0
def tw10246417569469822483:=0
def tw10259889188100916242:=0
def tw10488540890216402822:=0
def tw10523513711135271831:=0
def tw10526396023787079977:=0
def tw10543481052591960926:=0
def tw10550284488705134130:=0
def tw10553664087322530203:=0
def tw10577144235116663009:=0
def tw10637898819111505356:=0
def tw10650304317714913485:=0
def tw10671472461227588702:=0
def tw10719567670163827719:=0
def tw10752446927860788576:=0
def tw10789014683252148281:=0
def tw10806819108451707380:=0
def tw10907728881914995841:=0
def tw10980452817181811802:=0
def tw11227606851338912371:=0
def tw11258437119534082995:=0
def tw11278515795580684181:=0
def tw11377832268449909906:=0
def tw11452334574457402724:=0
def tw11708344858112732316:=0
def tw11780768708506865433:=0
def tw11860489417712740524:=0
def tw11864518751974067983:=0
def tw1188137601141878546:=0
def tw11922403650999398449:=0
def tw12049214878333237669:=0
def tw12126458852251824247:=0
def tw12199313415515519665:=0
def tw12300180113819079473:=0
def tw12331190998928312212:=0
def tw12425463366148813126:=0
def tw12427369192438840421:=0
def tw12493036060191869793:=0
def tw12562877698348760944:=0
def tw12627406475294143395:=0
def tw12660984287068853368:=0
def tw12779131526732415377:=0
def tw12792691243453069359:=0
def tw12986361783934747282:=0
def tw12997352264345690732:=0
def tw13012297426539725285:=0
def tw13014822441616960608:=0
def tw1315447336876305842:=0
def tw13201027773121784886:=0
def tw13363147619604646423:=0
def tw13514208539867857473:=0
def tw13515657303536551204:=0
def tw13528575220877441553:=0
def tw13708465206820232558:=0
def tw13795836044496167827:=0
def tw13798924848465634751:=0
def tw13858613676128718761:=0
def tw13876809286368176407:=0
def tw13913603005210302248:=0
def tw139743467895079894:=0
def tw14008950777183386346:=0
def tw14023532794665795700:=0
def tw14039218900047139240:=0
def tw14116595326085176905:=0
def tw14128427568065273155:=0
def tw14190176009711830673:=0
def tw143966729153384933:=0
def tw14439564764557987901:=0
def tw14463919366112482445:=0
def tw14514696471547101292:=0
def tw14515500817371000008:=0
def tw14587923695052270874:=0
def tw1459348000138731331:=0
def tw14595733037209296656:=0
def tw14727902991046543995:=0
def tw14781323687514565366:=0
def tw14785620667602061504:=0
def tw14883978630791977359:=0
def tw14989915179690579453:=0
def tw15003270298670296124:=0
def tw15015612346655411764:=0
def tw15098876094384632812:=0
def tw15135702897652540170:=0
def tw15138069992959724819:=0
def tw15164231547352306122:=0
def tw15175944319257558193:=0
def tw15355854323299892821:=0
def tw15405116886965757584:=0
def tw15617696681696195216:=0
def tw15630241709764792445:=0
def tw15707973485696671407:=0
def tw15751184470634680657:=0
def tw15757739389775768215:=0
def tw15813057886151511351:=0
def tw15889243017844219817:=0
def tw15946646406548823879:=0
def tw15985111197477193494:=0
def tw16040207975967713069:=0
def tw16066533012156212131:=0
def tw16218701823370190717:=0
def tw16232180156281096637:=0
def tw16247355335272007524:=0
def tw16274695031627197576:=0
def tw16366695767467669378:=0
def tw16384680424048952560:=0
def tw16427311882066308131:=0
def tw16435990825262744722:=0
def tw16519621783042879467:=0
def tw16554629819156013098:=0
def tw16653657393691154060:=0
def tw16880815434033515097:=0
def tw16920817170963452500:=0
def tw16966301539561656583:=0
def tw1697281389009477554:=0
def tw17018042073191773521:=0
def tw17021544261661120018:=0
def tw17162118554803938525:=0
def tw17174154233716058596:=0
def tw17236946887941932056:=0
def tw17552220022417440136:=0
def tw17575756298515147114:=0
def tw17653991014500239673:=0
def tw17680983901132161767:=0
def tw17690024513169138944:=0
def tw1785667015520495296:=0
def tw17859676179523352780:=0
def tw17989523250797850236:=0
def tw18006062502142078882:=0
def tw18007246543632231650:=0
def tw18140023027504297361:=0
def tw18140128915553770956:=0
def tw1839222841519653653:=0
def tw18423421859661700938:=0
def tw1906117555149815884:=0
def tw2017233270433236466:=0
def tw2043584128364341870:=0
def tw2095939799772259258:=0
def tw216123726208705667:=0
def tw2230286322518233355:=0
def tw2293221101055623270:=0
def tw2318725924131542204:=0
def tw2385304268550920656:=0
def tw2432228539726014452:=0
def tw2433253313490101268:=0
def tw2483954632138521643:=0
def tw2551830619863164140:=0
def tw255754184846225990:=0
def tw2682457256444780329:=0
def tw2715262091421465770:=0
def tw2923231165647775357:=0
def tw2942758816918511481:=0
def tw3089075571695135132:=0
def tw3126551060879550595:=0
def tw3166332332480501354:=0
def tw3187422015669347857:=0
def tw3219109633094351440:=0
def tw3220088167734108289:=0
def tw3238262113281922019:=0
def tw3242047904890069368:=0
def tw3279576518507235087:=0
def tw3324748655224288665:=0
def tw3325748124994806400:=0
def tw3460334254467513481:=0
def tw3563445541278725225:=0
def tw3672291568948465048:=0
def tw3781314207006366838:=0
def tw3855676381688450545:=0
def tw3981225775640983241:=0
def tw4025265856883334252:=0
def tw4075927775981532595:=0
def tw4175620801934297887:=0
def tw4232079906732974414:=0
def tw4288274749522154808:=0
def tw4377306126921822764:=0
def tw43902761825512055:=0
def tw4391984281447330595:=0
def tw4565637708199464828:=0
def tw4618599439413983240:=0
def tw471106310439220374:=0
def tw4733918530391874447:=0
def tw4933787201706984123:=0
def tw4935770371685987383:=0
def tw4954156987821984761:=0
def tw5096723103986583106:=0
def tw5145477871857259784:=0
def tw5288336334077627903:=0
def tw5305865828622084178:=0
def tw5428914026337474556:=0
def tw5645768947462490612:=0
def tw5658095650179061664:=0
def tw5805984907384401086:=0
def tw5916477016233649422:=0
def tw5998687419644717169:=0
def tw612115217603282311:=0
def tw6181179090206576767:=0
def tw6330193665196444813:=0
def tw6556058032962983997:=0
def tw6601844041181242250:=0
def tw6760813321365446140:=0
def tw6854592509088592241:=0
def tw7023296397448395255:=0
def tw7064348754249365389:=0
def tw7216394462460999531:=0
def tw7221136805271317583:=0
def tw7298894556754745216:=0
def tw7305504134037111111:=0
def tw7378523467356958828:=0
def tw7390669278881854832:=0
def tw7456532238290133624:=0
def tw7545569826734052036:=0
def tw758808133829503424:=0
def tw7660123264135104815:=0
def tw7828740058901286919:=0
def tw7920278159668757192:=0
def tw7934286245810933323:=0
def tw8021031248386313419:=0
def tw8047167349746581209:=0
def tw8064118461963148502:=0
def tw8076817789870886186:=0
def tw8162439789915814256:=0
def tw8302966868657087470:=0
def tw8424150639463813835:=0
def tw8444063142065997695:=0
def tw8610842724740065638:=0
def tw9015335220024497189:=0
def tw9122305948910248093:=0
def tw9212600452659088514:=0
def tw9260005369416107888:=0
def tw9271934552956533478:=0
def tw9303881209699458513:=0
def tw9318616375400417788:=0
def tw9359853349939924587:=0
def tw9402265222940067697:=0
def tw9406589655025421983:=0
def tw9469612465284741489:=0
def tw9517170958889080546:=0
def tw952899264894806574:=0
def tw9706580570253641383:=0
def tw9790699196317758556:=0
def tw9790808983843657938:=0
def tw9810745642750295134:=0
def tw9848336583760092960:=0
def tw994199912143396969:=0
end PySem.W.Fast
open PySem PySem.W PyProof.Rows
set_option maxRecDepth 100000 in
set_option maxHeartbeats 0 in
theorem PySem.Challenge.cw_turnline_k22_ways_looked_at_holds : PySem.Challenge.rw_turnline_k22_ways_looked_at.Holds := by
 w_on;o_law;k_head;(case hw=>w_witness2)
 k_fill
 refine K22.walk (l:=PySem.Challenge.rw_turnline_k22_ways_looked_at) rfl rfl (λw h Y=>PySem.W.kIn_of Y) ?F
 case F=>
  intro w mg fa h KX G hmg
  refine' K22.all_mk KX G hmg ⟨?a1,?l1,?c1,?k1⟩ ⟨?a2,?l2,?c2,?k2⟩ ⟨?a3,?l3,?c3,?k3⟩ ⟨?a4,?l4,?c4,?k4⟩ ⟨?a5,?l5,?c5,?k5⟩ ⟨?a6,?l6,?c6,?k6⟩ ⟨?a7,?l7,?c7,?k7⟩ ⟨?a8,?l8,?c8,?k8⟩ ⟨?a9,?l9,?c9,?k9⟩ ⟨?a10,?l10,?c10,?k10⟩ ⟨?a11,?l11,?c11,?k11⟩ ⟨?a12,?l12,?c12,?k12⟩ ⟨?a13,?l13,?c13,?k13⟩ ⟨?a14,?l14,?c14,?k14⟩ ⟨?a15,?l15,?c15,?k15⟩ ⟨?a16,?l16,?c16,?k16⟩ ⟨?a17,?l17,?c17,?k17⟩ ⟨?a18,?l18,?c18,?k18⟩ ⟨?a19,?l19,?c19,?k19⟩ ⟨?a20,?l20,?c20,?k20⟩ ⟨?a21,?l21,?c21,?k21⟩ ⟨?a22,?l22,?c22,?k22⟩ ⟨?a23,?l23,?c23,?k23⟩ ⟨?a24,?l24,?c24,?k24⟩ ⟨?a25,?l25,?c25,?k25⟩ ⟨?a26,?l26,?c26,?k26⟩ ⟨?a27,?l27,?c27,?k27⟩ ⟨?a28,?l28,?c28,?k28⟩ ⟨?a29,?l29,?c29,?k29⟩ ⟨?a30,?l30,?c30,?k30⟩ ⟨?a31,?l31,?c31,?k31⟩ ⟨?a32,?l32,?c32,?k32⟩ ⟨?a33,?l33,?c33,?k33⟩ ⟨?a34,?l34,?c34,?k34⟩ ⟨?a35,?l35,?c35,?k35⟩ ?z1 ?z2 ?z3 ?z4 ?z5 ?z6 ?z7 ?z8 ?z9 ?z10 ?z11 ?z12 ?z13 ?z14 ?z15 ?z16 ?z17 ?z18 ?z19 ?xo0 ?xo1 ?xm0 ?ck0 ?wa ?wk
  case a1|l1|c1|k1|a2|l2|c2|k2|a3|l3|c3|k3|a4|l4|c4|k4|a5|l5|c5|k5|a6|l6|c6|k6|a7|l7|c7|k7|a8|l8|c8|k8|a9|l9|c9|k9|a10|l10|c10|k10|a11|l11|c11|k11|a12|l12|c12|k12|a13|l13|c13|k13|a14|l14|c14|k14|a15|l15|c15|k15|a16|l16|c16|k16|a17|l17|c17|k17|a18|l18|c18|k18|a19|l19|c19|k19|a20|l20|c20|k20|a21|l21|c21|k21|a22|l22|c22|k22|a23|l23|c23|k23|a24|l24|c24|k24|a25|l25|c25|k25|a26|l26|c26|k26|a27|l27|c27|k27|a28|l28|c28|k28|a29|l29|c29|k29|a30|l30|c30|k30|a31|l31|c31|k31|a32|l32|c32|k32|a33|l33|c33|k33|a34|l34|c34|k34|a35|l35|c35|k35|z1|z2|z3|z4|z5|z6|z7|z8|z9|z10|z11|z12|z13|z14|z15|z16|z17|z18|z19=>k_is
  (case xo0=>refine'⟨?u1,?u2,?u3,?u4,?u5,?u6,?u7,?u8,?u9⟩;(case u1=>k_is);(case u2=>k_exc);(case u3=>k_is);(case u4=>k_is);(case u5=>k_is);(case u6=>k_is);(case u7=>k_is);(case u8=>k_is);(case u9=>k_is))
  (case xo1=>refine'⟨?u1,?u2,?u3,?u4,?u5,?u6,?u7,?u8,?u9⟩;(case u1=>k_is);(case u2=>k_exc);(case u3=>k_is);(case u4=>k_is);(case u5=>k_is);(case u6=>k_is);(case u7=>k_is);(case u8=>k_is);(case u9=>k_is))
  (case xm0=>k_is)
  (case ck0=>k_is)
  (case wa=>k_is)
  (case wk=>first |k_is |rfl)
