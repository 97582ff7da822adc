import PyProof.Rows.All
import Wide.All
import OpenK.AllK
import Wide.FinOn
import PyProof.EqAt
import PyProof.EqKinds
import PyProof.TupleCall
import PyProof.CompFree
import PyProof.EvalArms
import KE.BitLaws
import OpenK.KOwn
import KE.KIsAll
import PyProof.ExcArgsOwn
import PyProof.IsiH_list
import PyProof.NsDelKeeps
import PyProof.ExcAttrAll.ValueError
import PyProof.ExcBaseAll.ValueError
import PyProof.ZipIter
import PyProof.Rows.SumAny
import KE.LcSums
import PyProof.SetRoads
import PyProof.Rows.SetFrom
import KE.KSetDisp
import PyProof.DictIter
import PyProof.DictRoadsH
import PyProof.Rows.TupDisplay
import PyProof.FString
import PyProof.FactsAll.list_1
import PyProof.CollectWalk
import PyProof.StrWalks
import PyProof.StrLawsTight
import PyProof.StrLawsChain
import PyProof.StrLawsIn
import PyProof.StrCalls2
import PyProof.StrBlockG
import PyProof.SliceStr2
import KE.KIntText
import PyProof.CollectIter
import PyProof.Walks
import PyProof.SetKind
import PyProof.TupleKey
import PyProof.IsRules
import PyProof.SetNew
import PyProof.StrOps2
import PyProof.Rows.Range3
import PyProof.DictCompW
import KE.KDictSum
import PyProof.Rows.SeqMore
import PyProof.DictItems
import KE.KPairComp
import KE.KDictList
import PyProof.WalkInts
import PySem.Challenge.RW_turnline_k35_whole_runs_there_and_back
abbrev aa:=@List.length_map
abbrev ae:=@PySem.wpAny_bind
abbrev af:=@List.getElem?_eq_getElem
abbrev ah:=@List.getElem?_eq_some_iff
abbrev ai:=@List.length_append
abbrev aj:=@List.getElem?_append_left
abbrev ak:=@List.mem_map
abbrev ao:=@PySem.wpAny_pure
abbrev aq:=@List.getElem?_map
abbrev av:=@Nat.le_refl
abbrev aw:=@List.getElem?_append_right
abbrev ax:=@List.map_append
abbrev ay:=@List.mem_of_getElem?
abbrev az:=@List.mem_append
abbrev aA:=@List.mem_cons_of_mem
abbrev aB:=@PySem.Heap.get?_push_of_some
abbrev aC:=@List.mem_cons_self
abbrev aD:=@List.mem_append_right
abbrev aE:=@List.length_singleton
abbrev aF:=@PySem.Heap.lt_size
abbrev aG:=@List.getD_eq_getElem?_getD
abbrev aH:=@if_neg
abbrev aI:=@Bool.false_ne_true
abbrev aJ:=@List.size_toArray
abbrev aK:=@List.mem_append_left
abbrev aL:=@if_pos
abbrev aM:=@PySem.F.plainAttrs_list
abbrev aN:=@PySem.Heap.get?_push_size
abbrev aO:=@Nat.zero_le
abbrev aP:=@List.mem_cons
abbrev aQ:=@List.map_cons
abbrev aR:=@Nat.ne_of_lt
abbrev aS:=@PySem.F.type_list_append
abbrev aT:=@PySem.F.slot_list_append
abbrev aU:=@List.mem_iff_getElem
abbrev aV:=@Nat.sub_self
abbrev aW:=@Option.some.inj
abbrev aX:=@PySem.PassesOwn.never
abbrev aY:=@PySem.W.mg_none_of
abbrev aZ:=@List.take_add_one
abbrev bc:=@List.length_cons
abbrev bf:=@List.getLastD_eq_getLast?
abbrev bg:=@Nat.lt_of_lt_of_le
abbrev bh:=@List.mem_singleton
abbrev bj:=@List.length_take
abbrev bo:=@List.take_length
abbrev bq:=@decide_eq_false
abbrev br:=@PySem.wpAny_mono
abbrev bu:=@List.length_reverse
abbrev bx:=@List.map_map
abbrev bz:=@Nat.le_trans
abbrev bA:=@decide_eq_true
abbrev bB:=@Ne.symm
abbrev bC:=@PySem.F.excBase_ValueError
abbrev bD:=@List.prefix_refl
abbrev bE:=@Bool.false_eq_true
abbrev bF:=@List.lookup_cons
abbrev bG:=@List.length_drop
abbrev bH:=@List.getElem?_eq_none
abbrev bI:=@Nat.le_of_lt
abbrev bJ:=@List.foldl_append
abbrev bK:=@Int.emod_lt_of_pos
abbrev bL:=@List.nodup_cons
abbrev bM:=@List.take_of_length_le
abbrev bN:=@List.nodup_append
abbrev bO:=@List.length_filter_le
abbrev bP:=@List.dropLast_concat_getLast
abbrev bQ:=@Int.emod_nonneg
abbrev bR:=@Bool.eq_iff_iff
abbrev bS:=@PySem.wpAny_newObj_type
abbrev bT:=@PySem.Paired.length
abbrev bU:=@PyProof.Rows.callWith_type1
abbrev bV:=@PySem.F.slot_dict_keyiterator_next
abbrev bW:=@PySem.wpAny_call_entry
abbrev bX:=@congrArg
abbrev bY:=@List.append_assoc
abbrev bZ:=@List.find?_cons
abbrev b5:=@PySem.boot_len
abbrev b6:=@decide_eq_true_iff
abbrev b8:=@PySem.wpAny_standAt
abbrev b9:=@List.mem_filter
abbrev cf:=@List.length_zip
abbrev cg:=@PySem.mem_of_lookup
abbrev cj:=@List.reverse_append
abbrev ck:=@List.replicate_succ
abbrev cm:=@PySem.F.slot_dict_itemiterator_next
abbrev cq:=@PySem.wpAny_truthy_bool
abbrev cu:=@List.map_reverse
abbrev cv:=@Int.max_eq_right
abbrev cw:=@if_false
abbrev cx:=@Nat.lt_of_le_of_lt
abbrev cy:=@List.getLast?_eq_getElem?
abbrev cz:=@List.forIn_cons
abbrev cA:=@Int.min_eq_left
abbrev cB:=@List.length_dropLast
abbrev cC:=@Option.isSome_iff_exists
abbrev cD:=@Nat.lt_succ_iff_lt_or_eq
abbrev cE:=@Bool.not_true
abbrev cF:=@Array.length_toList
abbrev cG:=@Int.min_eq_right
abbrev cH:=@Option.map_eq_some_iff
abbrev cI:=@Nat.ne_of_gt
abbrev cJ:=@List.prefix_append
abbrev cK:=@PySem.wpAny_typeNameOfWhole_itemiter
abbrev cL:=@List.foldl_cons
abbrev cM:=@List.append_nil
abbrev cN:=@Int.max_eq_left
abbrev cO:=@List.map_drop
abbrev cP:=@PySem.wpAny_typeNameOfWhole_keyiter
abbrev cQ:=@List.reverse_cons
abbrev cR:=@PySem.wpAny_passesOwn
abbrev cS:=@PySem.wpAny_holding
abbrev cT:=@List.getElem_map
abbrev cU:=@List.getElem_inj
abbrev cV:=@PySem.wpAny_dictEntries
abbrev cW:=@PySem.PassesOwn.leaving
abbrev cX:=@List.getElem?_zip_eq_some
abbrev cY:=@Classical.byContradiction
abbrev cZ:=@Prod.ext
abbrev de:=@Nat.lt_irrefl
abbrev df:=@Nat.not_lt_zero
abbrev dg:=@List.length_nil
abbrev dh:=@List.getElem?_drop
abbrev di:=@PySem.wpAny_typeNameOf_itemiter
abbrev dj:=@PySem.wpAny_typeNameOf_keyiter
abbrev dt:=@PySem.wpAny_comprehension_free
abbrev dw:=@List.nodup_nil
abbrev dy:=@Int.toNat_natCast
abbrev dz:=@PySem.wpAny_dictEpoch
abbrev dA:=@PyProof.Rows.boot_tuple
abbrev dB:=@PySem.wpAny_setField_rec
abbrev dC:=@PySem.wpAny_callSpecial?_slot
abbrev dD:=@PySem.sizeLine_eq
abbrev dE:=@PyProof.Rows.boot_list
abbrev dG:=@List.take_append_drop
abbrev dH:=@Array.getElem?_toList
abbrev dN:=@List.any_eq_true
abbrev dO:=@List.nil_append
abbrev dQ:=@List.length_set
abbrev dS:=@beq_eq_false_iff_ne
abbrev dU:=@List.mem_map_of_mem
abbrev dW:=@List.map_congr_left
abbrev dX:=@List.filterMap_cons
abbrev dY:=@PySem.wpAny_isInstance
abbrev dZ:=@if_true
abbrev d6:=@PySem.wpAny_specialOf
abbrev d7:=@PySem.F.slot_dict_getitem
abbrev d8:=@List.mem_of_find?_eq_some
abbrev d9:=@Array.getElem?_eq_getElem
abbrev ed:=@Option.isSome_map
abbrev ef:=@List.pairwise_map
abbrev eg:=@List.flatten_cons
abbrev eh:=@PySem.F.slot_list_insert
abbrev eu:=@Nat.le_add_right
abbrev ez:=@List.mem_reverse
abbrev eA:=@List.getElem?_cons_succ
abbrev eB:=@List.cons_append
abbrev eC:=@Bool.and_eq_true
set_option Elab.async false
set_option linter.all false
set_option maxRecDepth 100000
namespace L2
open PySem PySem.Spec PyProof.Rows
abbrev Key:=Sum Int Str
def uv:Key->Value->Bool
 |.inl k,v=>Value.isInt k v
 |.inr x,v=>Value.isStrOf x v
def KQ (w:World):Key->Int
 |.inl k=>hashInt k
 |.inr x=>hashStr w x
theorem h7:∀ {k:Key}{v:Value},uv k v=true->(∃ i t,k=Sum.inl i/\v=Value.int i t)\/(∃ x t,k=Sum.inr x/\v=Value.str x t)
 |.inl i,v,h=>by
  obtain⟨t,e⟩:=Value.isInt_shape (k:=i) (v:=v) h
  exact .inl ⟨i,t,rfl,e⟩
 |.inr x,v,h=>by
  obtain⟨t,e⟩:=Value.isStrOf_shape (x:=x) (v:=v) h
  exact .inr ⟨x,t,rfl,e⟩
theorem Ao (i:Int)(t:Tok):uv (.inl i) (.int i t)=true:=by simp[uv,Value.isInt]
theorem An (x:Str)(t:Tok):uv (.inr x) (.str x t)=true:=by simp[uv,Value.isStrOf]
theorem EX (a b:Int):decide ((Sum.inl a:Key)=Sum.inl b)=(a==b):=by
 by_cases e:a=b
 ·subst e;simp
 ·have h:¬(Sum.inl a:Key)=Sum.inl b:=λq=>e (Sum.inl.inj q)
  rw[bq h]
  exact(dS.mpr e).symm
theorem EU (a b:Str):decide ((Sum.inr a:Key)=Sum.inr b)=decide (a=b):=by
 by_cases e:a=b
 ·subst e;simp
 ·have h:¬(Sum.inr a:Key)=Sum.inr b:=λq=>e (Sum.inr.inj q)
  rw[bq h,bq e]
theorem EW (a:Int)(b:Str):decide ((Sum.inl a:Key)=Sum.inr b)=false:=bq (λq=>nomatch q)
theorem EV (a:Str)(b:Int):decide ((Sum.inr a:Key)=Sum.inl b)=false:=bq (λq=>nomatch q)
def gq (prog:Program)(w:World):PySem.KeyKind prog w Key where
 is:=uv
 hash:=KQ w
 inj:=λv a b ha hb=>by
  rcases h7 ha with⟨i,t,rfl,rfl⟩|⟨x,t,rfl,rfl⟩
  ·rcases h7 hb with⟨j,u,rfl,e⟩|⟨y,u,rfl,e⟩
   ·injection e with e1 _;rw[e1]
   ·exact nomatch e
  ·rcases h7 hb with⟨j,u,rfl,e⟩|⟨y,u,rfl,e⟩
   ·exact nomatch e
   ·injection e with e1 _;rw[e1]
 byValue:=λk v h=>by
  rcases h7 h with⟨i,t,rfl,rfl⟩|⟨x,t,rfl,rfl⟩<;>rfl
 pyHash:=λhv h=>by
  rcases h7 hv with⟨i,t,rfl,rfl⟩|⟨x,t,rfl,rfl⟩
  ·exact wpAny_pyHash_int h
  ·exact wpAny_pyHash_str h
 eqBool:=λhu hv h=>by
  rcases h7 hu with⟨i,t,rfl,rfl⟩|⟨x,t,rfl,rfl⟩
  ·rcases h7 hv with⟨j,u,rfl,rfl⟩|⟨y,u,rfl,rfl⟩
   ·rw[EX]at h;exact wpAny_eqBool_int h
   ·rw[EW]at h;exact SeqAt.EqAt.int_str i t y u _ _ _ _ h
  ·rcases h7 hv with⟨j,u,rfl,rfl⟩|⟨y,u,rfl,rfl⟩
   ·rw[EV]at h;exact SeqAt.EqAt.str_int x t j u _ _ _ _ h
   ·rw[EU]at h;exact wpAny_eqBool_str h
 «strs» :=λk x t v h=>by
  rcases h7 h with⟨i,u,rfl,e⟩|⟨y,u,rfl,e⟩
  ·exact nomatch e
  ·injection e with e1 _
   subst e1
   cases v<;>rfl
theorem wZ (prog:Program)(w:World)(i:Int)(t:Tok):(gq prog w).is (.inl i) (.int i t)=true:=Ao i t
theorem wY (prog:Program)(w:World)(x:Str)(t:Tok):(gq prog w).is (.inr x) (.str x t)=true:=An x t
inductive V where
 |non |bl (b:Bool)|int (i:Int)|str (x:Str)|byt (b:Array UInt8)|flt (b:UInt64)|ref (a:Addr)|ty (n:String)
 deriving DecidableEq
def RelV:V->Value->Prop
 |.non,u=>u=Value.none
 |.bl b,u=>u=Value.bool b
 |.int i,u=>∃ t,u=Value.int i t
 |.str x,u=>∃ t,u=Value.str x t
 |.byt b,u=>∃ t,u=Value.bytes b t
 |.flt b,u=>∃ t,u=Value.float b t
 |.ref a,u=>u=Value.ref a
 |.ty n,u=>u=Value.type n
abbrev Vals:List V->List Value->Prop:=Paired RelV
theorem Vals.length {xs:List V}{us:List Value}(r:Vals xs us):xs.length=us.length:=bT r
theorem Vals.get:∀ {xs:List V}{us:List Value}{i:Nat}{x:V},Vals xs us->xs[i]? = some x->∃ u,us[i]? = some u/\RelV x u
 |_,_,_,_,.nil,e=>by simp at e
 |_,_,0,_,.cons r _,e=>by simp at e;subst e;exact⟨_,rfl,r⟩
 |_,_,i+1,x,.cons _ t,e=>by
  obtain⟨u,h1,h2⟩:=Vals.get (i:=i) (x:=x) t (by simpa using e)
  exact⟨u,by simpa using h1,h2⟩
theorem Vals.set {x:V}{u:Value}(r:RelV x u):∀ {xs:List V}{us:List Value} (i:Nat),Vals xs us->Vals (xs.set i x) (us.set i u)
 |_,_,_,.nil=>.nil
 |_,_,0,.cons _ t=>.cons r t
 |_,_,i+1,.cons q t=>.cons q (Vals.set r i t)
theorem Vals.append:∀ {xs ys:List V}{us ws:List Value},Vals xs us->Vals ys ws->Vals (xs++ys) (us++ws)
 |_,_,_,_,.nil,s=>s
 |_,_,_,_,.cons r t,s=>.cons r (Vals.append t s)
theorem Vals.take:∀ {xs:List V}{us:List Value} (n:Nat),Vals xs us->Vals (xs.take n) (us.take n)
 |_,_,0,_=>.nil
 |_,_,_+1,.nil=>.nil
 |_,_,n+1,.cons r t=>.cons r (Vals.take n t)
theorem Vals.drop:∀ {xs:List V}{us:List Value} (n:Nat),Vals xs us->Vals (xs.drop n) (us.drop n)
 |_,_,0,r=>r
 |_,_,_+1,.nil=>.nil
 |_,_,n+1,.cons _ t=>Vals.drop n t
def qQ:Option V->Option Value->Prop
 |some v,some u=>RelV v u
 |none,none=>True
 |_,_=>False
def KV {κ:Type} :List (κ×V)->List (κ×Value)->Prop:=Paired λ(p:κ×V) (q:κ×Value)=>p.1=q.1/\RelV p.2 q.2
def kV:Key->V
 |.inl i=>.int i
 |.inr x=>.str x
inductive HO where
 /-- a list -/
 |lst (xs:List V)
 /-- a tuple (never changes) -/
 |tup (xs:List V)
 /-- a dict FA keys are ints and texts;one FA keys are tuples of ints and texts (the empty one is both) -/
 |dK (kvs:List (Key×V))|dT (kvs:List (List Key×V))
 /-- a set of ints:its members,its size -/
 |set (S:Int->Bool) (n:Nat)
 /-- an instance of the class at C,its dict at dx,its attributes -/
 |ins (C dx:Addr) (fs:List (Str×V))
 /-- the dict of the instance at x -/
 |own (x:Addr)
 /-- the dict of an exception -/
 |xd (fs:List (Str×V))
 /-- a bound method,f of x -/
 |met (f x:Addr)
 /-- a range object lo,lo+1,.. below hi -/
 |rng (lo hi:Int)
 /-- a FH OD is known to the object (the IB;a dict while a loop walks it):read,never written while it is so -/
 |frz (o:Obj) (u:HO)
 /-- a code Gp table -/
 |tbl (ps:Array Value)
 /-- any other FH,by OC is true of its one object (a def of OB own:Ow a S n:=HO.ext λh=>..) -/
 |ext (φ:Heap->Prop)
abbrev Hp:=Addr->Option HO
def upd (H:Hp)(a:Addr)(o:HO):Hp:=λb=>if b=a then some o else H b
theorem eG {H:Hp}{a:Addr}{o:HO} :upd H a o a=some o:=by unfold upd;rw[aL rfl]
theorem eL {H:Hp}{a b:Addr}{o:HO}(h:b≠a):upd H a o b=H b:=by unfold upd;rw[aH h]
theorem pf {H:Hp}{a:Addr}{o u:HO} :upd (upd H a o) a u=upd H a u:=by
 funext b;unfold upd;split<;>rfl
theorem fz {H:Hp}{a b:Addr}{o u:HO}(h:H a=some o)(h':H b=some u)(d:o≠u):a≠b:=by
 intro e;subst e;rw[h]at h';exact d (aW h')
theorem eN {H:Hp}{a b:Addr}{o:HO}(h:H a=some o)(h':H b=none):a≠b:=by
 intro e;subst e;rw[h]at h';cases h'
section
variable (P:Program)(w:World)
def iq (H:Hp)(h:Heap)(a:Addr):HO->Prop
 |.lst xs=>xs.length<=sizeLine/\∃ (its:List Value) (n:Nat),Vals xs its/\h.get? a=some {cls:=.type "list",data:=.seq its.toArray n}
 |.tup xs=>xs.length<=sizeLine/\∃ its:List Value,Vals xs its/\IsTup h a its.toArray
 |.dK kvs=>kvs.length<=sizeLine/\(a==sysModules)=false/\∃ vs,KV kvs vs/\h.DictOf (gq P w) a vs
 |.dT kvs=>kvs.length<=sizeLine/\(a==sysModules)=false/\∃ xs:List (List Key×Addr×Value),
   Paired (λ(p:List Key×V) (q:List Key×Addr×Value)=>p.1=q.1/\H q.2.1=some (.tup (p.1.map kV))/\RelV p.2 q.2.2) kvs xs/\
   ∃ o es ep,h.get? a=some o/\o.ExactDict/\o.data = .dict es ep/\es.toList=xs.map (entryOfKey (tupleKind (gq P w)))/\(xs.map (·.1)).Nodup
 |.set S n=>h.SetOf (intKind P w) a S n
 |.ins C dx fs=>H dx=some (.own a)/\fs.length<=1000/\dx≠a/\h.get? a=some (PySem.W.instObj C dx)/\
   ∃ mA,h.Ns1 dx mA/\(∀ f,qQ (fs.lookup f) (mA f))/\PySem.Within mA (fs.map (·.1))
 |.own _=>∃ o,h.get? a=some o
 |.xd fs=>∃ mA,h.Ns1 a mA/\∀ f,qQ (fs.lookup f) (mA f)
 |.rng lo hi=>∃ t u v,h.get? a=some {cls:=.type "range",data:=.fields #[.int lo t,.int hi u,.int 1 v]}
 |.frz o u=>h.get? a=some o/\iq H h a u
 |.tbl ps=>h.get? a=some {cls:=.none,data:=.fields ps}
 |.met f x=>h.get? a=some (PySem.W.methodObj (.ref f) (.ref x))
 |.ext φ=>φ h/\(∃ o,h.get? a=some o)/\∀ h1 h2:Heap,φ h1->(∀ o,h1.get? a=some o->h2.get? a=some o)->φ h2
def HOk (H:Hp)(h:Heap):Prop:=∀ a o,H a=some o->iq P w H h a o
end
section
variable {P:Program}{w:World}{H H':Hp}{h h':Heap}{a:Addr}{o:HO}
theorem iq.lt (x:iq P w H h a o):a<h.objs.size:=by
 cases o with
 |lst xs=>obtain⟨_,_,_,_,e⟩:=x;exact aF e
 |tup xs=>obtain⟨_,_,_,p⟩:=x;exact p.lt
 |dK kvs=>obtain⟨_,_,_,_,o,_,_,e,_⟩:=x;exact aF e
 |dT kvs=>obtain⟨_,_,_,_,o,_,_,e,_⟩:=x;exact aF e
 |set S n=>obtain⟨o,_,_,_,e,_⟩:=x;exact aF e
 |ins C dx fs=>obtain⟨_,_,_,e,_⟩:=x;exact aF e
 |own y=>obtain⟨_,e⟩:=x;exact aF e
 |xd fs=>obtain⟨_,⟨_,_,_,e,_⟩,_⟩:=x;exact aF e
 |rng lo hi=>obtain⟨_,_,_,e⟩:=x;exact aF e
 |frz ob u=>obtain⟨e,_⟩:=x;exact aF e
 |tbl ps=>exact aF (show h.get? a=some _ from x)
 |met f y=>exact aF (show h.get? a=some _ from x)
 |ext φ=>obtain⟨_,⟨_,e⟩,_⟩:=x;exact aF e
theorem Paired.EO {α β:Type}{F G:α->β->Prop} :∀ {l₁:List α}{l₂:List β},Paired F l₁ l₂->(∀ a b,F a b->G a b)->Paired G l₁ l₂
 |_,_,.nil,_=>.nil
 |_,_,.cons r t,f=>.cons (f _ _ r) (Paired.EO t f)
theorem iq.lH (x:iq P w H h a o)(k:∀ b u,(b=a\/H b=some (.own a))->h.get? b=some u->h'.get? b=some u)
  (ho:∀ b,H b=some (.own a)->H' b=some (.own a)) (ht:∀ b xs,H b=some (.tup xs)->H' b=some (.tup xs)):iq P w H' h' a o:=by
 induction o with
 |lst xs=>obtain⟨z,its,n,r,e⟩:=x;exact⟨z,its,n,r,k _ _ (.inl rfl) e⟩
 |tup xs=>obtain⟨z,its,r,ob,e,c⟩:=x;exact⟨z,its,r,ob,k _ _ (.inl rfl) e,c⟩
 |dK kvs=>obtain⟨z,y,vs,r,ob,es,ep,e,c⟩:=x;exact⟨z,y,vs,r,ob,es,ep,k _ _ (.inl rfl) e,c⟩
 |dT kvs=>
  obtain⟨z,y,xs,r,ob,es,ep,e,c⟩:=x
  exact⟨z,y,xs,Paired.EO r λp q z=>⟨z.1,ht _ _ z.2.1,z.2.2⟩,ob,es,ep,k _ _ (.inl rfl) e,c⟩
 |set S n=>obtain⟨ob,es,ep,t,e,c⟩:=x;exact⟨ob,es,ep,t,k _ _ (.inl rfl) e,c⟩
 |ins C dx fs=>
  obtain⟨d,z,ne,e,mA,⟨od,es,ep,e2,c⟩,r⟩:=x
  exact⟨ho _ d,z,ne,k _ _ (.inl rfl) e,mA,⟨od,es,ep,k _ _ (.inr d) e2,c⟩,r⟩
 |own y=>obtain⟨ob,e⟩:=x;exact⟨ob,k _ _ (.inl rfl) e⟩
 |xd fs=>obtain⟨mA,⟨od,es,ep,e,c⟩,r⟩:=x;exact⟨mA,⟨od,es,ep,k _ _ (.inl rfl) e,c⟩,r⟩
 |rng lo hi=>obtain⟨t,u,v,e⟩:=x;exact⟨t,u,v,k _ _ (.inl rfl) e⟩
 |frz ob u ih=>obtain⟨e,q⟩:=x;exact⟨k _ _ (.inl rfl) e,ih q⟩
 |tbl ps=>
  have e:h.get? a=some {cls:=.none,data:=.fields ps} :=x
  show h'.get? a=some {cls:=.none,data:=.fields ps}
  exact k a _ (.inl rfl) e
 |met f y=>
  have e:h.get? a=some (PySem.W.methodObj (.ref f) (.ref y)):=x
  show h'.get? a=some (PySem.W.methodObj (.ref f) (.ref y))
  exact k a _ (.inl rfl) e
 |ext φ=>obtain⟨p,⟨o,e⟩,st⟩:=x;exact⟨st _ _ p λo q=>k _ _ (.inl rfl) q,⟨o,k _ _ (.inl rfl) e⟩,st⟩
theorem HOk.lt (x:HOk P w H h)(e:H a=some o):a<h.objs.size:=(x a o e).lt
theorem HOk.fresh (x:HOk P w H h)(e:h.objs.size<=a):H a=none:=by
 cases q:H a with
 |none=>rfl
 |some u=>exact absurd (bg (x.lt q) e) (de _)
theorem HOk.kept (x:HOk P w H h)(k:∀ b u,h.get? b=some u->h'.get? b=some u):HOk P w H h':=λa o e=>
 (x a o e).lH (λb u _ q=>k b u q) (λ_ q=>q) λ_ _ q=>q
theorem HOk.laid (x:HOk P w H h)(k:∀ b u,h.get? b=some u->h'.get? b=some u)(hp:h.objs.size<=a)(new:iq P w (upd H a o) h' a o):HOk P w (upd H a o) h':=λb u e=>by
 have hn:=x.fresh hp
 by_cases hb:b=a
 ·subst hb;rw[eG]at e;cases e;exact new
 ·rw[eL hb]at e
  exact(x b u e).lH (λc v _ q=>k c v q) (λc q=>by rw[eL (eN q hn)];exact q) λc xs q=>by rw[eL (eN q hn)];exact q
end
def Rd (H:Hp)(a:Addr)(u:HO):Prop:=H a=some u\/∃ o,H a=some (.frz o u)
theorem Rd.ok {P:Program}{w:World}{H:Hp}{h:Heap}{a:Addr}{u:HO}(r:Rd H a u)(x:HOk P w H h):iq P w H h a u:=by
 rcases r with r |⟨o,r⟩
 ·exact x a u r
 ·obtain⟨_,q⟩:=x a _ r
  exact q
def Mut:Option HO->Prop
 |some (.lst _)=>True
 |some (.dK _)=>True
 |some (.dT _)=>True
 |some (.set _ _)=>True
 |some (.ins _ _ _)=>True
 |some (.ext _)=>True
 |_=>False
section
variable {P:Program}{w:World}{H:Hp}{h h':Heap}{x e:Addr}{o':HO}
theorem HOk.write (ok:HOk P w H h)(mu:Mut (H x))(he:e=x\/H e=some (.own x))(k:∀ b u,b≠e->h.get? b=some u->h'.get? b=some u)(heo:∃ u,h'.get? e=some u)
  (new:iq P w (upd H x o') h' x o'):HOk P w (upd H x o') h':=λb u q=>by
 have Gq:∀ c y,H c=some (.own y)->c≠x:=λc y r z=>by subst z;rw[r]at mu;exact mu
 have KC:∀ c xs,H c=some (.tup xs)->c≠x:=λc xs r z=>by subst z;rw[r]at mu;exact mu
 by_cases hb:b=x
 ·subst hb;rw[eG]at q;cases q;exact new
 ·rw[eL hb]at q
  by_cases hbe:b=e
  ·have q':H b=some (.own x):=by
    rcases he with z |z
    ·exact absurd (hbe.trans z) hb
    ·rw[hbe];exact z
   rw[q]at q';cases q'
   obtain⟨v,hv⟩:=heo
   exact⟨v,by rw[hbe];exact hv⟩
  ·refine(ok b u q).lH (λc v hc r=>k c v ?_ r) (λc r=>by rw[eL (Gq c b r)];exact r) λc xs r=>by rw[eL (KC c xs r)];exact r
   rcases hc with rfl |hc
   ·exact hbe
   ·rintro rfl
    rcases he with z |z
    ·exact Gq c b hc z
    ·rw[hc]at z;cases z;exact hb rfl
end
structure Un (fs ex:List Addr)(H H':Hp)(h h':Heap):Prop where
 keep:∀ b o,h.get? b=some o->H b=none->b∉fs->b∉ex->h'.get? b=some o
 slot:∀ b o,h.get? b=some o->H b=none->b∈fs->b∉ex->∃ sl,h'.get? b=some {o with slots:=sl}
 free:∀ b o,h.get? b=some o->H b=none->b∉ex->H' b=none
 there:∀ b o,h.get? b=some o->b∉ex->∃ o',h'.get? b=some o'
 ke:∀ b xs,H b=some (.tup xs)->H' b=some (.tup xs)
 oH:∀ b o u,H b=some (.frz o u)->H' b=some (.frz o u)
 pX:∀ b ps,H b=some (.tbl ps)->∃ more,H' b=some (.tbl (ps++more))
section
variable {fs fs' ex ex':List Addr}{H H1 H2:Hp}{h h1 h2 h':Heap}{a x e:Addr}{o:HO}
theorem Un.any (u:Un fs ex H H1 h h1){b:Addr}{ob:Obj}(q:h.get? b=some ob)(n:H b=none)(hx:b∉ex):∃ sl,h1.get? b=some {ob with slots:=sl} :=by
 by_cases hb:b∈fs
 ·exact u.slot b ob q n hb hx
 ·exact⟨ob.slots,u.keep b ob q n hb hx⟩
theorem Un.trans (a:Un fs ex H H1 h h1)(b:Un fs ex H1 H2 h1 h2):Un fs ex H H2 h h2 where
 keep:=λc ob q n hc hx=>b.keep c ob (a.keep c ob q n hc hx) (a.free c ob q n hx) hc hx
 slot:=λc ob q n hc hx=>by
  obtain⟨sl,e1⟩:=a.slot c ob q n hc hx
  obtain⟨sl',e2⟩:=b.slot c _ e1 (a.free c ob q n hx) hc hx
  exact⟨sl',e2⟩
 free:=λc ob q n hx=>by
  obtain⟨o',e1⟩:=a.there c ob q hx
  exact b.free c o' e1 (a.free c ob q n hx) hx
 there:=λc ob q hx=>by
  obtain⟨o',e1⟩:=a.there c ob q hx
  exact b.there c o' e1 hx
 ke:=λc xs q=>b.ke c xs (a.ke c xs q)
 oH:=λc ob xs q=>b.oH c ob xs (a.oH c ob xs q)
 pX:=λc ps q=>by
  obtain⟨m1,e1⟩:=a.pX c ps q
  obtain⟨m2,e2⟩:=b.pX c _ e1
  exact⟨m1++m2,by rw[e2,Array.append_assoc]⟩
theorem Un.kept (k:∀ b u,h.get? b=some u->h'.get? b=some u):Un fs ex H H h h':=
 ⟨λb ob q _ _ _=>k b ob q,λb ob q _ _ _=>⟨ob.slots,k b ob q⟩,λ_ _ _ n _=>n,λb ob q _=>⟨ob,k b ob q⟩,λ_ _ q=>q,λ_ _ _ q=>q,λ_ ps q=>⟨#[],by rw[q];simp⟩⟩
theorem Un.refl:Un fs ex H H h h:=Un.kept λ_ _ q=>q
theorem Un.laid (k:∀ b u,h.get? b=some u->h'.get? b=some u)(hp:h.objs.size<=a)(hn:H a=none):Un fs ex H (upd H a o) h h' where
 keep:=λb u q _ _ _=>k b u q
 slot:=λb u q _ _ _=>⟨u.slots,k b u q⟩
 free:=λb u q n _=>by rw[eL (aR (bg (aF q) hp))];exact n
 there:=λb u q _=>⟨u,k b u q⟩
 ke:=λb xs q=>by rw[eL (eN q hn)];exact q
 oH:=λb u xs q=>by rw[eL (eN q hn)];exact q
 pX:=λb ps q=>⟨#[],by rw[eL (eN q hn),q];simp⟩
theorem Un.write (mu:Mut (H x))(he:e=x\/H e=some (.own x))(k:∀ b u,b≠e->h.get? b=some u->h'.get? b=some u)(heo:∃ u,h'.get? e=some u):Un fs ex H (upd H x o) h h':=by
 have hx:∀ b,H b=none->b≠x:=λb n z=>by subst z;rw[n]at mu;exact mu
 have hb:∀ b,H b=none->b≠e:=λb n z=>by
  subst z
  rcases he with r |r
  ·exact hx b n r
  ·rw[n]at r;cases r
 have hm:∀ b u,H b=some u->¬Mut (some u)->b≠x:=λb u q nm z=>by subst z;rw[q]at mu;exact nm mu
 refine⟨λb u q n _ _=>k b u (hb b n) q,λb u q n _ _=>⟨u.slots,k b u (hb b n) q⟩,λb u q n _=>by rw[eL (hx b n)];exact n,λb u q _=>?_,
  λb xs q=>by rw[eL (hm b _ q λz=>z)];exact q,λb u xs q=>by rw[eL (hm b _ q λz=>z)];exact q,λb ps q=>⟨#[],by rw[eL (hm b _ q λz=>z),q];simp⟩⟩
 by_cases hbe:b=e
 ·subst hbe;exact heo
 ·exact⟨u,k b u hbe q⟩
end
def trk (h:Heap)(H:Hp):List Addr:=(List.range h.objs.size).filter λa=>(H a).isSome
def vC (h:Heap)(H:Hp):Heap:=PySem.W.hideAll h (trk h H)
theorem Ar (h:Heap)(H:Hp):(vC h H).objs.size=h.objs.size:=PySem.W.hideAll_size _ _
theorem BK {h:Heap}{H:Hp}{b:Addr}{o:Obj}(e:h.get? b=some o)(n:H b=none):(vC h H).get? b=some o:=
 PySem.W.hideAll_get _ e λhm=>by
  have q:(H b).isSome=true:=(b9.mp hm).2
  rw[n]at q;simp at q
theorem CV {h:Heap}{H:Hp}{b:Addr}{o:Obj}(e:(vC h H).get? b=some o):h.get? b=some o/\H b=none:=by
 have e':h.get? b=some o:=PySem.W.of_hideAll (trk h H) e
 refine⟨e',?_⟩
 cases q:H b with
 |none=>rfl
 |some x=>
  have hm:b∈trk h H:=b9.mpr ⟨List.mem_range.mpr (aF e'),by simp[q]⟩
  have z:(vC h H).get? b=none:=PySem.W.hideAll_none (trk h H) hm
  rw[z]at e;cases e
structure Mod (K:PySem.W.Frag)(mg:Str->Option Value)(base:Heap):Prop where
 kin:K.In base
 glob:base.Ns mainGlobals mg
 blt:∃ mb,base.Ns builtinsNs mb/\∀ x:Str,x≠ "__name__" ->mb x=bootBuiltins x
 nolimit:base.NoLimit
structure Cx where
 prog:Program
 w:World
 K:PySem.W.Frag
 mg:Str->Option Value
 base:Heap
 A:Around
 N:List Str
 s₀:Shared
 H₀:Hp
 env:Env
 outer:List Env
 stack:List Env
 ex:List Addr
 fn:Str->Bool
 calm:Bool
 pn:List (Addr×Obj)
 xe:Value->Shared->Prop
def frs (l:List Env):List Addr:=l.filterMap (·.frame)
abbrev Cx.fs (X:Cx):List Addr:=frs X.outer
def Vis (sc:Scope)(x:Str):Prop:=sc.names.lookup x=some .local\/sc.names.lookup x=some .cell\/sc.names.lookup x=some .free
def Loc (sc:Scope)(x:Str):Prop:=sc.names.lookup x=some .local\/sc.names.lookup x=some .cell
def Look (env:Env)(h:Heap)(m:Str->Option Value)(x:Str)(u:Value):Prop:=
 (env.kindOf x=some .local/\m x=some u)\/((env.kindOf x=some .cell\/env.kindOf x=some .free)/\∃ c,env.cells.lookup x=some c/\h.IsCell c (some u))
structure Cx.Ok (X:Cx):Prop where
 mod:Mod X.K X.mg X.base
 kind:X.env.scope.kind = .function
 glob:X.env.globals=mainGlobals
 blt:X.env.builtins=builtinsNs
 above:X.s₀.heap.objs.size<=X.env.locals
 inj:∀ x y c,X.env.cells.lookup x=some c->X.env.cells.lookup y=some c->x=y
 has:∀ x,(X.env.kindOf x=some .cell\/X.env.kindOf x=some .free)->∃ c,X.env.cells.lookup x=some c
 cab:∀ x c,X.fn x=true->X.env.cells.lookup x=some c->X.s₀.heap.objs.size<=c
 hd:X.calm=true->X.A.handled=none
 frames:X.A.frames=some X.stack
 stk:X.stack=X.outer\/(X.stack=X.env::X.outer/\X.env.frame=some X.env.locals)
 exf:∀ b∈X.ex,b≠X.env.locals/\∀ x c,X.env.cells.lookup x=some c->c≠b
 bs:∀ b o,X.base.get? b=some o->X.s₀.heap.get? b=some o/\X.H₀ b=none
 bsz:X.base.objs.size<=X.s₀.heap.objs.size
 Bq:∀ b o,X.base.get? b=some o->b∉X.ex
 Dp:∀ b∈X.ex,b∉X.fs
 sQ:X.s₀.heap.FunFrames X.base X.outer
 frf:∀ b∈X.fs,X.H₀ b=none
structure Inv (X:Cx)(pins:List (Addr×Obj))(σ:List (Option V))(H:Hp)(s:Shared):Prop where
 ok:X.Ok
 os:s.os=X.s₀.os
 bare:AllBare s.gens
 base:Un X.fs X.ex X.H₀ H X.s₀.heap s.heap
 loc:∃ m,s.heap.Ns X.env.locals m/\∀ (i:Nat) (x:Str) (v:V),X.N[i]? = some x->σ[i]? = some (some v)->Vis X.env.scope x->∃ u,RelV v u/\Look X.env s.heap m x u
 cell:∀ x c,X.env.cells.lookup x=some c->∃ v,s.heap.IsCell c v
 free:H X.env.locals=none
 mz:∀ x c,X.env.cells.lookup x=some c->H c=none
 pin:∀ p∈X.pn++pins,s.heap.get? p.1=some p.2/\H p.1=none/\p.1≠X.env.locals/\p.1∉X.fs/\∀ v,p.2.data≠ .cell v
 hok:HOk X.prog X.w H s.heap
 len:σ.length=X.N.length
section
variable {X:Cx}{pins:List (Addr×Obj)}{σ:List (Option V)}{H H':Hp}{s:Shared}{h':Heap}
theorem Cx.Ok.KI (ok:X.Ok){b:Addr}{o:Obj}(e:X.base.get? b=some o):b∉X.fs:=λhb=>by
 have:=(ok.sQ.mem hb).1
 rw[e]at this;cases this
theorem Inv.bs (I:Inv X pins σ H s):∀ b o,X.base.get? b=some o->s.heap.get? b=some o/\H b=none:=λb o e=>
 ⟨I.base.keep b o (I.ok.bs b o e).1 (I.ok.bs b o e).2 (I.ok.KI e) (I.ok.Bq b o e),I.base.free b o (I.ok.bs b o e).1 (I.ok.bs b o e).2 (I.ok.Bq b o e)⟩
theorem Inv.bk (I:Inv X pins σ H s):∀ b o,X.base.get? b=some o->s.heap.get? b=some o:=λb o e=>(I.bs b o e).1
theorem Inv.mod (I:Inv X pins σ H s):Mod X.K X.mg X.base:=I.ok.mod
theorem Inv.kIn (I:Inv X pins σ H s):X.K.In s.heap:=I.ok.mod.kin.keeps I.bk
theorem Inv.lt (I:Inv X pins σ H s):X.env.locals<s.heap.objs.size:=let ⟨_,hn,_⟩:=I.loc;hn.lt
theorem Inv.sz (I:Inv X pins σ H s):X.s₀.heap.objs.size<=s.heap.objs.size:=bz I.ok.above (bI I.lt)
theorem Inv.KH (I:Inv X pins σ H s){a:Addr}(h:s.heap.objs.size<=a):a∉X.fs:=λhb=>by
 obtain⟨_,o,ho,_⟩:=I.ok.sQ.mem hb
 exact absurd (bg (aF ho) (bz I.sz h)) (de _)
theorem Inv.cne (I:Inv X pins σ H s):∀ x c,X.env.cells.lookup x=some c->c≠X.env.locals:=λx c e z=>by
 obtain⟨v,o,ho,hd⟩:=I.cell x c e
 obtain⟨m,⟨o',es,ep,ho',hd',_⟩,_⟩:=I.loc
 rw[z,ho']at ho;cases ho;rw[hd']at hd;cases hd
theorem Inv.sQ (I:Inv X pins σ H s):s.heap.FunFrames X.base X.outer:=by
 have all:∀ (l:List Env),(∀ b∈frs l,b∈X.fs)->X.s₀.heap.FunFrames X.base l->s.heap.FunFrames X.base l:=by
  intro l
  induction l with
  |nil=>intro _ _;trivial
  |cons env r ih=>
   intro hs hl
   obtain⟨hk,⟨L,o,hf,hn,ho,hd⟩,hr⟩:=hl
   have hL:L∈X.fs:=hs L (by unfold frs;rw[dX,hf];exact aC)
   obtain⟨sl,e⟩:=I.base.slot L o ho (I.ok.frf L hL) hL λz=>I.ok.Dp L z hL
   exact⟨hk,⟨L,_,hf,hn,e,hd⟩,ih (λb hb=>hs b (by unfold frs;rw[dX,hf];exact aA _ hb)) hr⟩
 exact all X.outer (λ_ hb=>hb) I.ok.sQ
theorem Inv.stack (I:Inv X pins σ H s):s.heap.FunFrames X.base X.stack:=by
 rcases I.ok.stk with e |⟨e,hf⟩
 ·rw[e];exact I.sQ
 ·rw[e]
  obtain⟨m,hn,_⟩:=I.loc
  refine .cons (by rw[I.ok.kind];decide) hf hn ?_ I.sQ
  exact Heap.get?_none_of_le (bz I.ok.bsz I.ok.above)
theorem Inv.oR (I:Inv X pins σ H s):∀ b∈frs X.stack,b∈X.env.locals::X.fs:=λb hb=>by
 rcases I.ok.stk with e |⟨e,hf⟩
 ·rw[e]at hb;exact aA _ hb
 ·rw[e]at hb
  unfold frs at hb
  rw[dX,hf]at hb
  exact hb
theorem Inv.uI (I:Inv X pins σ H s):∀ b∈frs X.stack,H b=none:=λb hb=>by
 rcases aP.mp (I.oR b hb)with e |hb
 ·rw[e];exact I.free
 ·obtain⟨_,o,ho,_⟩:=I.ok.sQ.mem hb
  exact I.base.free b o ho (I.ok.frf b hb) λz=>I.ok.Dp b z hb
theorem Inv.step {g':Array GenState}{t':Nat}{d':Drawn}{ch:List Addr}(I:Inv X pins σ H s)
  (hch:∀ b∈ch,(b∈X.ex\/X.s₀.heap.objs.size<=b)/\b≠X.env.locals/\(∀ x c,X.env.cells.lookup x=some c->c≠b)/\∀ p∈X.pn++pins,p.1≠b)
  (keep:∀ b o,b≠X.env.locals->b∉X.fs->b∉ch->s.heap.get? b=some o->H b=none->h'.get? b=some o)
  (slot:∀ b o,b≠X.env.locals->b∈X.fs->b∉ch->s.heap.get? b=some o->H b=none->∃ sl,h'.get? b=some {o with slots:=sl}) (free:∀ b o,b∉ch->s.heap.get? b=some o->H b=none->H' b=none)
  (there:∀ b o,b∉ch->s.heap.get? b=some o->∃ o',h'.get? b=some o')
  (ke:∀ b xs,H b=some (.tup xs)->H' b=some (.tup xs)) (oH:∀ b o u,H b=some (.frz o u)->H' b=some (.frz o u)) (pX:∀ b ps,H b=some (.tbl ps)->∃ more,H' b=some (.tbl (ps++more)))
  (ns:∀ m,s.heap.Ns X.env.locals m->h'.Ns X.env.locals m) (hok:HOk X.prog X.w H' h') (hg:AllBare g'):
  Inv X pins σ H' {s with heap:=h',gens:=g',drawn:=d',toks:=t'} :=by
 have neL:∀ b o,X.s₀.heap.get? b=some o->b≠X.env.locals:=λb o e=>aR (bg (aF e) I.ok.above)
 have neC:∀ b o,X.s₀.heap.get? b=some o->b∉X.ex->b∉ch:=λb o e hx hb=>by
  rcases(hch b hb).1 with z |z
  ·exact hx z
  ·exact absurd (bg (aF e) z) (de _)
 have cellK:∀ x c,X.env.cells.lookup x=some c->∀ v,s.heap.IsCell c v->h'.IsCell c v:=λx c e v ⟨o,ho,hd⟩=>by
  have nch:c∉ch:=λz=>(hch c z).2.2.1 x c e rfl
  by_cases hc:c∈X.fs
  ·obtain⟨sl,q⟩:=slot c o (I.cne x c e) hc nch ho (I.mz x c e)
   exact⟨_,q,hd⟩
  ·exact⟨o,keep c o (I.cne x c e) hc nch ho (I.mz x c e),hd⟩
 refine⟨I.ok,I.os,hg,⟨λb o e n hb hx=>?_,λb o e n hb hx=>?_,λb o e n hx=>?_,λb o e hx=>?_,λb xs e=>ke b xs (I.base.ke b xs e),λb o xs e=>oH b o xs (I.base.oH b o xs e),λb ps e=>?_⟩,?_,λx c e=>?_,?_,λx c e=>?_,λp hp=>?_,hok,I.len⟩
 ·exact keep b o (neL b o e) hb (neC b o e hx) (I.base.keep b o e n hb hx) (I.base.free b o e n hx)
 ·obtain⟨sl,e1⟩:=I.base.slot b o e n hb hx
  obtain⟨sl',e2⟩:=slot b _ (neL b o e) hb (neC b o e hx) e1 (I.base.free b o e n hx)
  exact⟨sl',e2⟩
 ·obtain⟨o',e1⟩:=I.base.there b o e hx
  exact free b o' (neC b o e hx) e1 (I.base.free b o e n hx)
 ·obtain⟨o',e1⟩:=I.base.there b o e hx
  exact there b o' (neC b o e hx) e1
 ·obtain⟨m1,e1⟩:=I.base.pX b ps e
  obtain⟨m2,e2⟩:=pX b _ e1
  exact⟨m1++m2,by rw[e2,Array.append_assoc]⟩
 ·obtain⟨m,hn,hl⟩:=I.loc
  refine⟨m,ns m hn,λi x v e1 e2 e3=>?_⟩
  obtain⟨u,r,l⟩:=hl i x v e1 e2 e3
  refine⟨u,r,?_⟩
  rcases l with l |⟨k,c,e,z⟩
  ·exact .inl l
  ·exact .inr ⟨k,c,e,cellK x c e _ z⟩
 ·obtain⟨v,z⟩:=I.cell x c e
  exact⟨v,cellK x c e v z⟩
 ·obtain⟨m,⟨o,_,_,ho,_⟩,_⟩:=I.loc
  exact free _ o (λz=>(hch _ z).2.1 rfl) ho I.free
 ·obtain⟨v,o,ho,hd⟩:=I.cell x c e
  exact free c o (λz=>(hch c z).2.2.1 x c e rfl) ho (I.mz x c e)
 ·obtain⟨e,n,ne,nf,d⟩:=I.pin p hp
  have nch:p.1∉ch:=λz=>(hch p.1 z).2.2.2 p hp rfl
  exact⟨keep p.1 p.2 ne nf nch e n,free p.1 p.2 nch e n,ne,nf,d⟩
theorem Inv.un {t':Nat}(I:Inv X pins σ H s)(u:Un X.fs [] H H' s.heap h')(hok:HOk X.prog X.w H' h'):Inv X pins σ H' {s with heap:=h',toks:=t'} :=by
 obtain⟨m,⟨o,es,ep,ho,r⟩,_⟩:=id I.loc
 obtain⟨sl,hL⟩:=u.any ho I.free (by simp)
 exact I.step (g':=s.gens) (d':=s.drawn) (ch:=[]) (λ_ z=>nomatch z) (λb o _ hb _ e n=>u.keep b o e n hb (by simp)) (λb o _ hb _ e n=>u.slot b o e n hb (by simp)) (λb o _ e n=>u.free b o e n (by simp)) (λb o _ e=>u.there b o e (by simp)) u.ke u.oH u.pX (λm' hm=>by
  obtain⟨o',es',ep',ho',r'⟩:=hm
  rw[ho]at ho';cases ho'
  exact⟨_,es',ep',hL,r'⟩) hok I.bare
theorem Inv.call {g':Array GenState}{t':Nat}{d':Drawn}{ch:List Addr}(I:Inv X pins σ H s)(u:Un (frs X.stack) ch H H' s.heap h')(hok:HOk X.prog X.w H' h')(hg:AllBare g')
  (hch:∀ b∈ch,(b∈X.ex\/X.s₀.heap.objs.size<=b)/\b≠X.env.locals/\(∀ x c,X.env.cells.lookup x=some c->c≠b)/\∀ p∈X.pn++pins,p.1≠b):
  Inv X pins σ H' {s with heap:=h',gens:=g',drawn:=d',toks:=t'} :=by
 obtain⟨m,⟨o,es,ep,ho,r⟩,_⟩:=id I.loc
 obtain⟨sl,hL⟩:=u.any ho I.free λz=>(hch _ z).2.1 rfl
 exact I.step (ch:=ch) hch (λb o hL hb hc e n=>u.keep b o e n (λz=>(aP.mp (I.oR b z)).elim hL hb) hc) (λb o _ _ hc e n=>u.any e n hc) (λb o hc e n=>u.free b o e n hc) (λb o hc e=>u.there b o e hc) u.ke u.oH u.pX (λm' hm=>by
  obtain⟨o',es',ep',ho',r'⟩:=hm
  rw[ho]at ho';cases ho'
  exact⟨_,es',ep',hL,r'⟩) hok hg
theorem Inv.turned {t':Nat}{it:Addr}(I:Inv X pins σ H s)(k:∀ b o,b≠it->s.heap.get? b=some o->h'.get? b=some o)(hn:H it=none)(hL:it≠X.env.locals)
  (h1:it∈X.ex\/X.s₀.heap.objs.size<=it) (h2:∀ x c,X.env.cells.lookup x=some c->c≠it) (h3:∀ p∈X.pn++pins,p.1≠it):Inv X pins σ H {s with heap:=h',toks:=t'} :=by
 have nit:∀ b u,H b=some u->b≠it:=λb u e z=>by rw[z,hn]at e;cases e
 refine I.step (g':=s.gens) (d':=s.drawn) (ch:=[it]) (λb hb=>?_) (λb o _ _ hc e _=>k b o (λz=>hc (by simp[z])) e) (λb o _ _ hc e _=>⟨o.slots,k b o (λz=>hc (by simp[z])) e⟩) (λ_ _ _ _ n=>n)
  (λb o hc e=>⟨o,k b o (λz=>hc (by simp[z])) e⟩) (λ_ _ e=>e) (λ_ _ _ e=>e) (λb ps e=>⟨#[],by rw[e];simp⟩) (λm hm=>?_) (λb u e=>?_) I.bare
 ·have e:b=it:=by simpa using hb
  subst e
  exact⟨h1,hL,h2,h3⟩
 ·obtain⟨o,es,ep,ho,r⟩:=hm
  exact⟨o,es,ep,k _ o (bB hL) ho,r⟩
 ·refine(I.hok b u e).lH (λc v hc q=>k c v ?_ q) (λ_ q=>q) λ_ _ q=>q
  rcases hc with z |z
  ·rw[z];exact nit b u e
  ·exact nit c _ z
theorem Inv.tok (I:Inv X pins σ H s)(t:Nat):Inv X pins σ H {s with toks:=t} :=I.un (h':=s.heap) (t':=t) Un.refl I.hok
theorem Inv.kept {t':Nat}(I:Inv X pins σ H s)(k:∀ b u,s.heap.get? b=some u->h'.get? b=some u):Inv X pins σ H {s with heap:=h',toks:=t'} :=I.un (Un.kept k) (I.hok.kept k)
theorem Inv.laid {a:Addr}{o:HO}{t':Nat}(I:Inv X pins σ H s)(k:∀ b u,s.heap.get? b=some u->h'.get? b=some u)(hp:s.heap.objs.size<=a)(new:iq X.prog X.w (upd H a o) h' a o):
  Inv X pins σ (upd H a o) {s with heap:=h',toks:=t'} :=I.un (Un.laid k hp (I.hok.fresh hp)) (I.hok.laid k hp new)
theorem Inv.write {x e:Addr}{o:HO}{t':Nat}(I:Inv X pins σ H s)(mu:Mut (H x))(he:e=x\/H e=some (.own x))(k:∀ b u,b≠e->s.heap.get? b=some u->h'.get? b=some u)(heo:∃ u,h'.get? e=some u)
  (new:iq X.prog X.w (upd H x o) h' x o):Inv X pins σ (upd H x o) {s with heap:=h',toks:=t'} :=I.un (Un.write mu he k heo) (I.hok.write mu he k heo new)
theorem Inv.weak {σ':List (Option V)}(I:Inv X pins σ H s)(hl:σ'.length=σ.length)(w:∀ (i:Nat) v,σ'[i]? = some (some v)->σ[i]? = some (some v)):Inv X pins σ' H s:=
 ⟨I.ok,I.os,I.bare,I.base,let ⟨m,hn,hl'⟩:=I.loc;⟨m,hn,λi x v e1 e2 e3=>hl' i x v e1 (w i v e2) e3⟩,I.cell,I.free,I.mz,I.pin,I.hok,hl.trans I.len⟩
theorem Inv.zc {ug:List (Addr×Obj)}(I:Inv X pins σ H s)(h:∀ p∈ug,s.heap.get? p.1=some p.2/\H p.1=none/\p.1≠X.env.locals/\p.1∉X.fs/\∀ v,p.2.data≠ .cell v):Inv X ug σ H s:=
 ⟨I.ok,I.os,I.bare,I.base,I.loc,I.cell,I.free,I.mz,λp hp=>(az.mp hp).elim (λz=>I.pin p (aK _ z)) (h p),I.hok,I.len⟩
theorem wW {N:List Str}(hN:N.Nodup){i j:Nat}{x:Str}(a:N[i]? = some x)(b:N[j]? = some x):i=j:=by
 obtain⟨h1,e1⟩:=ah.mp a
 obtain⟨h2,e2⟩:=ah.mp b
 exact(cU hN).mp (e1.trans e2.symm)
theorem pY {M:Model}{A:Around}{E:Value->Shared->Prop}{i:Nat}{x:Str}{v:V}{u:Value}{Q:Unit->Shared->Prop}(I:Inv X pins σ H s)(hN:X.N.Nodup)(hi:X.N[i]? = some x)(hx:Loc X.env.scope x)(r:RelV v u)
  (h:∀ s',Inv X pins (σ.set i (some v)) H s'->(∃ a,Heap.SameBut a s.heap s'.heap/\(a=X.env.locals\/X.env.cells.lookup x=some a))->Q () s') (hf:X.fn x=true\/X.env.scope.names.lookup x=some .local:=by first |exact .inl rfl |exact .inr rfl |assumption):wpAny M A (storeName X.env x u) Q E s:=by
 obtain⟨m,hn,hl⟩:=id I.loc
 have LK:(X.env.scope.kind == .class||(X.env.scope.kind == .module&&X.env.locals !=X.env.globals))=false:=by rw[I.ok.kind];rfl
 have hiσ:i<σ.length:=by rw[I.len];exact(ah.mp hi).1
 have cne:=I.cne
 have tracked:∀ {a:Addr}{h':Heap},(∃ o,s.heap.get? a=some o/\H a=none)->Heap.SameBut a s.heap h'->HOk X.prog X.w H h':=λ{a h'} ha hs b ob e=>by
  obtain⟨_,_,oO⟩:=ha
  refine(I.hok b ob e).lH (λc w' hc q=>(hs.2 c ?_).trans q) (λ_ q=>q) λ_ _ q=>q
  rintro rfl
  rcases hc with rfl |hc
  ·rw[oO]at e;cases e
  ·rw[oO]at hc;cases hc
 rcases hx with hk |hk
 ·refine wpAny_storeName_local hk hn (λh' hn' hs=>?_) LK
  obtain⟨oL,_,_,hoL,_⟩:=id hn
  refine h _ ⟨I.ok,I.os,I.bare,⟨λb o e n hb hx=>?_,λb o e n hb hx=>?_,I.base.free,λb o e hx=>?_,I.base.ke,I.base.oH,I.base.pX⟩,⟨_,hn',λj y v' e1 e2 e3=>?_⟩,λy c e=>?_,I.free,I.mz,λp hp=>?_,tracked ⟨oL,hoL,I.free⟩ hs,by simpa using I.len⟩ ⟨_,hs,.inl rfl⟩
  ·exact(hs.2 b (aR (bg (aF e) I.ok.above))).trans (I.base.keep b o e n hb hx)
  ·obtain⟨sl,e1⟩:=I.base.slot b o e n hb hx
   exact⟨sl,(hs.2 b (aR (bg (aF e) I.ok.above))).trans e1⟩
  ·obtain⟨o',e1⟩:=I.base.there b o e hx
   exact⟨o',(hs.2 b (aR (bg (aF e) I.ok.above))).trans e1⟩
  ·by_cases hj:j=i
   ·subst hj
    rw[hi]at e1;cases e1
    rw[List.getElem?_set_self hiσ]at e2
    cases e2
    exact⟨u,r,.inl ⟨hk,by simp⟩⟩
   ·rw[List.getElem?_set_ne (bB hj)]at e2
    obtain⟨u',r',q⟩:=hl j y v' e1 e2 e3
    refine⟨u',r',?_⟩
    rcases q with⟨k,e⟩|⟨k,c,e,z⟩
    ·refine .inl ⟨k,?_⟩
     have:y≠x:=λe=>hj (wW hN e1 (e ▸ hi))
     simp[this,e]
    ·exact .inr ⟨k,c,e,z.sameBut hs (cne y c e)⟩
  ·obtain⟨w',z⟩:=I.cell y c e
   exact⟨w',z.sameBut hs (cne y c e)⟩
  ·obtain⟨e,n,ne,nf,d⟩:=I.pin p hp
   exact⟨(hs.2 p.1 ne).trans e,n,ne,nf,d⟩
 ·have hfn:X.fn x=true:=by
   rcases hf with z |z
   ·exact z
   ·rw[z]at hk;cases hk
  obtain⟨c,hc⟩:=I.ok.has x (.inl hk)
  obtain⟨w',z⟩:=I.cell x c hc
  refine wpAny_storeName_cell I.ok.kind hk hc z (λh' hc' hs=>?_)
  obtain⟨oc,hoc,LB⟩:=id z
  refine h {s with heap:=h'} ⟨I.ok,I.os,I.bare,⟨λb o e n hb hx=>?_,λb o e n hb hx=>?_,I.base.free,λb o e hx=>?_,I.base.ke,I.base.oH,I.base.pX⟩,⟨m,hn.sameBut hs (bB (cne x c hc)),λj y v' e1 e2 e3=>?_⟩,λy c' e=>?_,I.free,I.mz,λp hp=>?_,tracked ⟨oc,hoc,I.mz x c hc⟩ hs,by simpa using I.len⟩ ⟨c,hs,.inr hc⟩
  ·exact(hs.2 b (aR (bg (aF e) (I.ok.cab x c hfn hc)))).trans (I.base.keep b o e n hb hx)
  ·obtain⟨sl,e1⟩:=I.base.slot b o e n hb hx
   exact⟨sl,(hs.2 b (aR (bg (aF e) (I.ok.cab x c hfn hc)))).trans e1⟩
  ·obtain⟨o',e1⟩:=I.base.there b o e hx
   exact⟨o',(hs.2 b (aR (bg (aF e) (I.ok.cab x c hfn hc)))).trans e1⟩
  ·by_cases hj:j=i
   ·subst hj
    rw[hi]at e1;cases e1
    rw[List.getElem?_set_self hiσ]at e2
    cases e2
    exact⟨u,r,.inr ⟨.inl hk,c,hc,hc'⟩⟩
   ·rw[List.getElem?_set_ne (bB hj)]at e2
    obtain⟨u',r',q⟩:=hl j y v' e1 e2 e3
    refine⟨u',r',?_⟩
    rcases q with q |⟨k,c',e,z'⟩
    ·exact .inl q
    ·refine .inr ⟨k,c',e,z'.sameBut hs ?_⟩
     rintro rfl
     exact hj (wW hN e1 (I.ok.inj _ _ _ e hc ▸ hi))
  ·by_cases hcc:c'=c
   ·subst hcc;exact⟨_,hc'⟩
   ·obtain⟨w2,z2⟩:=I.cell y c' e
    exact⟨w2,z2.sameBut hs hcc⟩
  ·obtain⟨e,n,ne,nf,d⟩:=I.pin p hp
   refine⟨(hs.2 p.1 ?_).trans e,n,ne,nf,d⟩
   intro q
   rw[q,hoc]at e
   have q':oc=p.2:=aW e
   exact d w' (by rw[<-q'];exact LB)
theorem nk {M:Model}{A:Around}{E:Value->Shared->Prop}{i:Nat}{x:Str}{v:V}{u:Value}{Q:Unit->Shared->Prop}(I:Inv X pins σ H s)(hN:X.N.Nodup)(hi:X.N[i]? = some x)(hx:Loc X.env.scope x)(r:RelV v u)
  (h:∀ s',Inv X pins (σ.set i (some v)) H s'->Q () s') (hf:X.fn x=true\/X.env.scope.names.lookup x=some .local:=by first |exact .inl rfl |exact .inr rfl |assumption):wpAny M A (storeName X.env x u) Q E s:=
 pY I hN hi hx r (λs' I' _=>h s' I') hf
theorem Inv.DZ {s':Shared}{ch:List Addr}(I:Inv X pins σ H s)(ho:s'.os=s.os)(u:Un (frs X.stack) ch H H' s.heap s'.heap)(hok:HOk X.prog X.w H' s'.heap)(hg:AllBare s'.gens)
  (hch:∀ b∈ch,(b∈X.ex\/X.s₀.heap.objs.size<=b)/\b≠X.env.locals/\(∀ x c,X.env.cells.lookup x=some c->c≠b)/\∀ p∈X.pn++pins,p.1≠b):Inv X pins σ H' s':=by
 obtain⟨h',g',d',t',o'⟩:=s'
 have e:o'=s.os:=ho
 subst e
 exact I.call (g':=g') (t':=t') (d':=d') u hok hg hch
end
abbrev XK:=Value->Option Addr->Hp->Prop
abbrev St:=List (Option V)
abbrev VK:=V->Hp->Prop
abbrev TE:=St->Hp->VK->Prop
abbrev TT:=St->Hp->(Bool->Hp->Prop)->Prop
abbrev TA:=St->Hp->(List V->Hp->Prop)->Prop
structure Ends where
 nx:St->Hp->Prop
 rt:VK
 bk:St->Hp->Prop:=λ_ _=>False
 ct:St->Hp->Prop:=λ_ _=>False
abbrev TS:=Ends->St->Hp->Prop
def EP (X:Cx)(pins:List (Addr×Obj))(σ:St)(Q:VK)(u:Value)(s':Shared):Prop:=∃ v H',Inv X pins σ H' s'/\RelV v u/\Q v H'
def TP (X:Cx)(pins:List (Addr×Obj))(σ:St)(Q:Bool->Hp->Prop)(b:Bool)(s':Shared):Prop:=∃ H',Inv X pins σ H' s'/\Q b H'
def AP (X:Cx)(pins:List (Addr×Obj))(σ:St)(Q:List V->Hp->Prop)(us:List Value)(s':Shared):Prop:=∃ vs H',Inv X pins σ H' s'/\Vals vs us/\Q vs H'
def SP (X:Cx)(pins:List (Addr×Obj))(D:Ends)(f:Flow)(s':Shared):Prop:=
 match f with
 |.next=>∃ σ' H',Inv X pins σ' H' s'/\D.nx σ' H'
 |.brk=>∃ σ' H',Inv X pins σ' H' s'/\D.bk σ' H'
 |.cont=>∃ σ' H',Inv X pins σ' H' s'/\D.ct σ' H'
 |.ret u=>∃ v σ' H',Inv X pins σ' H' s'/\RelV v u/\D.rt v H'
def PE (X:Cx)(e:Expr)(t:TE):Prop:=
 ∀ (pins:List (Addr×Obj)) (s:Shared) (σ:St) (H:Hp) (Q:VK),Inv X pins σ H s->t σ H Q->wpAny (model X.prog X.w) X.A (eval e X.env) (EP X pins σ Q) X.xe s
def PT (X:Cx)(e:Expr)(t:TT):Prop:=
 ∀ (pins:List (Addr×Obj)) (s:Shared) (σ:St) (H:Hp) (Q:Bool->Hp->Prop),Inv X pins σ H s->t σ H Q->wpAny (model X.prog X.w) X.A (isTrue e X.env (eval e X.env)) (TP X pins σ Q) X.xe s
def PW (X:Cx)(e:Expr)(t:TT):Prop:=
 ∀ (whole:Sem Value) (pins:List (Addr×Obj)) (s:Shared) (σ:St) (H:Hp) (Q:Bool->Hp->Prop),Inv X pins σ H s->t σ H Q->wpAny (model X.prog X.w) X.A (isTrue e X.env whole) (TP X pins σ Q) X.xe s
theorem PW.pt {X:Cx}{e:Expr}{t:TT}(h:PW X e t):PT X e t:=h _
def PA (X:Cx)(es:List Expr)(t:TA):Prop:=
 ∀ (pos:Pos) (pins:List (Addr×Obj)) (s:Shared) (σ:St) (H:Hp) (Q:List V->Hp->Prop),Inv X pins σ H s->t σ H Q->wpAny (model X.prog X.w) X.A (spliced (backTo pos (starEach es X.env))) (AP X pins σ Q) X.xe s
def PS (X:Cx)(st:Stmt)(t:TS):Prop:=
 ∀ (pins:List (Addr×Obj)) (s:Shared) (σ:St) (H:Hp) (D:Ends),Inv X pins σ H s->t D σ H->wpAny (model X.prog X.w) X.A (exec st X.env) (SP X pins D) X.xe s
def PSs (X:Cx)(st:List Stmt)(t:TS):Prop:=
 ∀ (pins:List (Addr×Obj)) (s:Shared) (σ:St) (H:Hp) (D:Ends),Inv X pins σ H s->t D σ H->wpAny (model X.prog X.w) X.A (execs st X.env) (SP X pins D) X.xe s
theorem thn {α:Type}{t:Sem α}{Q Q':α->Shared->Prop}{M:Model}{A:Around}{E:Value->Shared->Prop}{s:Shared}(h:wpAny M A t Q E s)(hQ:∀ a s,Q a s->Q' a s):wpAny M A t Q' E s:=br h hQ λ_ _ x=>x
section
variable {X:Cx}
theorem bin {a b:Expr}{ta tb:TE}(ha:PE X a ta)(hb:PE X b tb){pins:List (Addr×Obj)}{s:Shared}{σ:St}{H:Hp}{R:V->V->Hp->Prop}(I:Inv X pins σ H s)(h:ta σ H λx H1=>tb σ H1 λy H2=>R x y H2)
  {α:Type}{Q:α->Shared->Prop}{f:Value->Value->Sem α}
  (hf:∀ v u s2 x y H2,Inv X pins σ H2 s2->RelV x v->RelV y u->R x y H2->wpAny (model X.prog X.w) X.A (f v u) Q X.xe s2):
  wpAny (model X.prog X.w) X.A (eval a X.env) (λv s₁=>wpAny (model X.prog X.w) X.A (eval b X.env) (λu s₂=>wpAny (model X.prog X.w) X.A (f v u) Q X.xe s₂) X.xe s₁) X.xe s:=by
 refine thn (ha pins s σ H _ I h) λv s1 ⟨x,H1,I1,r1,q1⟩=>?_
 refine thn (hb pins s1 σ H1 _ I1 q1) λu s2 ⟨y,H2,I2,r2,q2⟩=>?_
 exact hf v u s2 x y H2 I2 r1 r2 q2
def FI (i:Nat):TE:=λσ H Q=>∃ v,σ[i]? = some (some v)/\Q v H
def tC (v:V):TE:=λ_ H Q=>Q v H
theorem Ex {i:Nat}{x:Str}{pos:Pos}(hN:X.N[i]? = some x)(hv:Vis X.env.scope x)(hd:(x==("__debug__" :Str))=false:=by decide)(hcd:(x==("__classdict__" :Str))=false:=by decide):PE X (.Name x pos) (FI i):=by
 intro pins s σ H Q I h
 obtain⟨v,e,h⟩:=h
 obtain⟨m,hn,hl⟩:=I.loc
 obtain⟨u,r,l⟩:=hl i x v hN e hv
 have fin:EP X pins σ Q u s:=⟨v,H,I,r,h⟩
 rcases l with⟨hk,hm⟩|⟨hk,c,hc,zp⟩
 ·exact wpAny_Name (wpAny_loadName_local I.ok.kind hk hn hm fin) hd
 ·rcases hk with hk |hk
  ·exact wpAny_Name (wpAny_loadName_cell I.ok.kind hk hc zp fin) hd
  ·exact wpAny_Name (wpAny_loadName_free I.ok.kind hk hc zp fin hcd) hd
theorem eK {i j pos} :PE X (.Constant (.int i) j pos) (tC (.int i)):=λ_ _ _ H _ I h=>wpAny_Constant_int ⟨.int i,H,I.tok _,⟨_,rfl⟩,h⟩
theorem oK {b j pos} :PE X (.Constant (.bool b) j pos) (tC (.bl b)):=λ_ _ _ H _ I h=>Constant_bool ⟨.bl b,H,I,rfl,h⟩
theorem se {j pos} :PE X (.Constant .none j pos) (tC .non):=λ_ _ _ H _ I h=>Constant_none ⟨.non,H,I,rfl,h⟩
theorem fS {x j pos} :PE X (.Constant (.str x) j pos) (tC (.str x)):=λ_ _ _ H _ I h=>Calls.Constant_str ⟨.str x,H,I.tok _,⟨_,rfl⟩,h⟩
def Gl (X:Cx)(x:Str):Prop:=X.env.kindOf x=some .globalImplicit
theorem qY {E:Value->Shared->Prop}{pins:List (Addr×Obj)}{s:Shared}{σ:St}{H:Hp}{x:Str}{u:Value}{pos:Pos}{Q:Value->Shared->Prop}(I:Inv X pins σ H s)(hg:Gl X x)(hm:X.mg x=some u)(h:Q u s)
  (hd:(x==("__debug__" :Str))=false:=by decide):wpAny (model X.prog X.w) X.A (eval (.Name x pos) X.env) Q E s:=
 Calls.Name_function_global I.ok.kind hg (Calls.loadGlobal_global (by rw[I.ok.glob];exact I.mod.glob.keeps I.bk) hm h) hd
theorem oX {E:Value->Shared->Prop}{pins:List (Addr×Obj)}{s:Shared}{σ:St}{H:Hp}{x:Str}{u:Value}{pos:Pos}{Q:Value->Shared->Prop}(I:Inv X pins σ H s)(hg:Gl X x)(hm:X.mg x=none)(hv:bootBuiltins x=some u)(h:Q u s)
  (hn:x≠ "__name__" :=by decide) (hd:(x==("__debug__" :Str))=false:=by decide):wpAny (model X.prog X.w) X.A (eval (.Name x pos) X.env) Q E s:=by
 obtain⟨mb,h1,h2⟩:=I.mod.blt
 exact Calls.Name_function_global I.ok.kind hg (Calls.loadGlobal_builtin (by rw[I.ok.glob];exact I.mod.glob.keeps I.bk) hm (by rw[I.ok.blt];exact h1.keeps I.bk) ((h2 x hn).trans hv) h) hd
theorem zd {x:Str}{v:V}{u:Value}{pos:Pos}(hg:Gl X x)(hm:X.mg x=some u)(r:RelV v u)(hd:(x==("__debug__" :Str))=false:=by decide):PE X (.Name x pos) (tC v):=
 λ_ _ _ H _ I h=>qY I hg hm ⟨v,H,I,r,h⟩ hd
def t2I (ta tb:TE)(k:Int->Int->Hp->Prop):St->Hp->Prop:=λσ H=>ta σ H λx H1=>tb σ H1 λy H2=>∃ i j,x = .int i/\y = .int j/\k i j H2
variable {a b:Expr}{ta tb:TE}{pos:Pos}
def PC (X:Cx)(op:CmpOp)(a b:Expr)(t:TE):Prop:=
 ∀ (pins:List (Addr×Obj)) (s:Shared) (σ:St) (H:Hp) (Q:VK),Inv X pins σ H s->t σ H Q->
  wpAny (model X.prog X.w) X.A (eval a X.env) (λv s₁=>wpAny (model X.prog X.w) X.A (eval b X.env) (λu s₂=>wpAny (model X.prog X.w) X.A (compareOp op v u) (EP X pins σ Q) X.xe s₂) X.xe s₁) X.xe s
theorem wX (b:Expr){op:CmpOp}(h:op≠ .In)(h2:op≠ .NotIn):behindInMarks op b=false:=by
 have e1:(op==CmpOp.In)=false:=by cases op<;>first |rfl |exact absurd rfl h
 have e2:(op==CmpOp.NotIn)=false:=by cases op<;>first |rfl |exact absurd rfl h2
 cases b<;>simp[behindInMarks,e1,e2]
def xU (p:Int->Int->Bool)(ta tb:TE):TE:=λσ H Q=>t2I ta tb (λi j H2=>Q (.bl (p i j)) H2) σ H
abbrev tLt:TE->TE->TE:=xU λi j=>decide (i<j)
abbrev tLe:TE->TE->TE:=xU λi j=>decide (i<=j)
abbrev tGt:TE->TE->TE:=xU λi j=>decide (j<i)
abbrev tGe:TE->TE->TE:=xU λi j=>decide (j<=i)
abbrev HH:TE->TE->TE:=xU λi j=>decide (i=j)
abbrev HA:TE->TE->TE:=xU λi j=> !decide (i=j)
theorem qf {op:CmpOp}{p:Int->Int->Bool}(ha:PE X a ta)(hb:PE X b tb)
  (rule:∀ (i j:Int) (t u:Tok) (Q:Value->Shared->Prop) (s:Shared),Q (.bool (p i j)) s->wpAny (model X.prog X.w) X.A (compareOp op (.int i t) (.int j u)) Q X.xe s):PC X op a b (xU p ta tb):=by
 intro pins s σ H Q I h
 refine bin ha hb I h λv u s2 x y H2 I2 rx ry q=>?_
 obtain⟨i,j,rfl,rfl,q⟩:=q
 obtain⟨t,rfl⟩:=rx
 obtain⟨t',rfl⟩:=ry
 exact rule i j t t' _ s2 ⟨.bl _,H2,I2,rfl,q⟩
theorem sf (ha:PE X a ta)(hb:PE X b tb):PC X .Lt a b (tLt ta tb):=qf ha hb λ_ _ _ _ _ _ h=>lt_int h
theorem ze (ha:PE X a ta)(hb:PE X b tb):PC X .LtE a b (tLe ta tb):=qf ha hb λ_ _ _ _ _ _ h=>le_int h
theorem sg (ha:PE X a ta)(hb:PE X b tb):PC X .Gt a b (tGt ta tb):=qf ha hb λ_ _ _ _ _ _ h=>gt_int h
theorem DL (ha:PE X a ta)(hb:PE X b tb):PC X .GtE a b (tGe ta tb):=qf ha hb λ_ _ _ _ _ _ h=>ge_int h
theorem mU (ha:PE X a ta)(hb:PE X b tb):PC X .Eq a b (HH ta tb):=qf ha hb λ_ _ _ _ _ _ h=>eq_int (by rw[Bool.beq_eq_decide_eq];exact h)
theorem ye (ha:PE X a ta)(hb:PE X b tb):PC X .NotEq a b (HA ta tb):=qf ha hb λ_ _ _ _ _ _ h=>ne_int (by rw[bne,Bool.beq_eq_decide_eq];exact h)
def HC (ta:TE):TE:=λσ H Q=>ta σ H λx H1=>Q (.bl (decide (x = .non))) H1
def FL (ta:TE):TE:=λσ H Q=>ta σ H λx H1=>Q (.bl (!decide (x = .non))) H1
theorem RelV.wV {x:V}{v:Value}(r:RelV x v):(v==Value.none)=decide (x = .non):=by
 cases x with
 |non=>cases r;rfl
 |bl _=>cases r;rfl
 |int _=>obtain⟨t,rfl⟩:=r;rfl
 |str _=>obtain⟨t,rfl⟩:=r;rfl
 |byt _=>obtain⟨t,rfl⟩:=r;rfl
 |flt _=>obtain⟨t,rfl⟩:=r;rfl
 |ref _=>cases r;rfl
 |ty _=>cases r;rfl
theorem Bc {j pos'}(ha:PE X a ta):PC X .Is a (.Constant .none j pos') (HC ta):=by
 intro pins s σ H Q I h
 refine thn (ha pins s σ H _ I h) λv s1 ⟨x,H1,I1,r1,q1⟩=>?_
 exact Constant_none (is_none_gen ⟨.bl _,H1,I1,by rw[r1.wV];rfl,q1⟩)
theorem qX {j pos'}(ha:PE X a ta):PC X .IsNot a (.Constant .none j pos') (FL ta):=by
 intro pins s σ H Q I h
 refine thn (ha pins s σ H _ I h) λv s1 ⟨x,H1,I1,r1,q1⟩=>?_
 exact Constant_none (isnot_none_gen ⟨.bl _,H1,I1,by rw[r1.wV];rfl,q1⟩)
def tB (t:TE):TT:=λσ H Q=>t σ H λx H1=>∃ c,x = .bl c/\Q c H1
theorem Ez {op:CmpOp}{t:TE}(h:PC X op a b t)(h1:behindInMarks op b=false:=by first |exact wX _ (by decide) (by decide)|rfl):PE X (.Compare a [op] [b] pos) t:=λpins s σ H Q I hw=>wpAny_Compare1 (h pins s σ H Q I hw) h1
theorem fE {op:CmpOp}{t:TE}(h:PC X op a b t)(h1:behindInMarks op b=false:=by first |exact wX _ (by decide) (by decide)|rfl):PT X (.Compare a [op] [b] pos) (tB t):=by
 intro pins s σ H Q I hw
 refine wpAny_isTrue_Compare1 (thn (h pins s σ H _ I hw) λv s1 h1=>thn h1 λu s2 h2=>thn h2 λc s3 ⟨x,H1,I1,r1,q1⟩=>?_) h1
 obtain⟨d,rfl,q⟩:=q1
 cases r1
 exact cq ⟨H1,I1,q⟩
theorem rZ {e:Expr}{t:TE}(h:PE X e t)(he:∀ whole,isTrue e X.env whole=(do let v <-whole;standAt e.pos;holding [v] (truthy v)):=by intro _;rfl):PT X e (tB t):=by
 intro pins s σ H Q I hw
 refine isTrue_plain (thn (h pins s σ H _ I hw) λv s1 ⟨x,H1,I1,r1,q1⟩=>?_) (he _)
 obtain⟨d,rfl,q⟩:=q1
 cases r1
 exact cq ⟨H1,I1,q⟩
variable {tA tB':TT}{rest:List Expr}
def HL (t u:TT):TT:=λσ H Q=>t σ H λc H1=>if c=true then u σ H1 Q else Q false H1
def tOr (t u:TT):TT:=λσ H Q=>t σ H λc H1=>if c=true then Q true H1 else u σ H1 Q
def Hy (t:TT):TT:=λσ H Q=>t σ H λc H1=>Q (!c) H1
theorem qV (ha:PT X a tA):PW X (.BoolOp .And [a] pos) tA:=by
 intro wh pins s σ H Q I h
 refine isTrue_and (thn (ha pins s σ H Q I h) λc s1 e=>?_)
 cases c with
 |true=>exact isTrue_and_nil e
 |false=>exact e
theorem ny (ha:PT X a tA):PW X (.BoolOp .Or [a] pos) tA:=by
 intro wh pins s σ H Q I h
 refine isTrue_or (thn (ha pins s σ H Q I h) λc s1 e=>?_)
 cases c with
 |false=>exact isTrue_or_nil e
 |true=>exact e
theorem rW (ha:PT X a tA)(hb:PW X (.BoolOp .And (b::rest) pos) tB'):PW X (.BoolOp .And (a::b::rest) pos) (HL tA tB'):=by
 intro wh pins s σ H Q I h
 refine isTrue_and (thn (ha pins s σ H _ I h) λc s1 ⟨H1,I1,q1⟩=>?_)
 cases c with
 |true=>exact hb wh pins s1 σ H1 Q I1 q1
 |false=>exact⟨H1,I1,q1⟩
theorem nz (ha:PT X a tA)(hb:PW X (.BoolOp .Or (b::rest) pos) tB'):PW X (.BoolOp .Or (a::b::rest) pos) (tOr tA tB'):=by
 intro wh pins s σ H Q I h
 refine isTrue_or (thn (ha pins s σ H _ I h) λc s1 ⟨H1,I1,q1⟩=>?_)
 cases c with
 |true=>exact⟨H1,I1,q1⟩
 |false=>exact hb wh pins s1 σ H1 Q I1 q1
theorem qe (ha:PT X a tA):PT X (.UnaryOp .Not a pos) (Hy tA):=by
 intro pins s σ H Q I h
 exact isTrue_not (ha pins s σ H (λc H1=>Q (!c) H1) I h)
def Hx (ta tb:TE):TE:=λσ H Q=>ta σ H λx H1=>∃ c,x = .bl c/\if c=true then Q (.bl true) H1 else tb σ H1 Q
theorem Ey {op}{t:TE}(h:PE X a t):PE X (.BoolOp op [a] pos) t:=λpins s σ H Q I hw=>BoolOp_one (h pins s σ H Q I hw)
theorem Gg (ha:PE X a ta)(hb:PE X (.BoolOp .Or (b::rest) pos) tb):PE X (.BoolOp .Or (a::b::rest) pos) (Hx ta tb):=by
 intro pins s σ H Q I h
 refine BoolOp_or (thn (ha pins s σ H _ I h) λv s1 ⟨x,H1,I1,r1,q1⟩=>?_)
 obtain⟨c,rfl,q1⟩:=q1
 cases r1
 refine cq ?_
 cases c with
 |false=>exact hb pins s1 σ H1 Q I1 q1
 |true=>exact⟨.bl true,H1,I1,rfl,q1⟩
def tIf (t:TT)(ta tb:TE):TE:=λσ H Q=>t σ H λc H1=>if c=true then ta σ H1 Q else tb σ H1 Q
theorem wJ {c:Expr}(hc:PT X c tA)(ha:PE X a ta)(hb:PE X b tb):PE X (.IfExp c a b pos) (tIf tA ta tb):=by
 intro pins s σ H Q I h
 refine wpAny_IfExp (thn (hc pins s σ H _ I h) λd s1 ⟨H1,I1,q1⟩=>?_)
 cases d with
 |true=>exact ha pins s1 σ H1 Q I1 q1
 |false=>exact hb pins s1 σ H1 Q I1 q1
end
def SqL (K:PySem.W.Frag)(H:Hp)(a:Addr)(xs:List V):Prop:=
 Rd H a (.lst xs)\/
  ∃ (o:Obj) (its:Array Value) (n:Nat),K.lookup a=some o/\o.cls = .type "list" /\o.dict=none/\o.data = .seq its n/\its.size<=sizeLine/\Vals xs its.toList
def SqT (K:PySem.W.Frag)(H:Hp)(a:Addr)(xs:List V):Prop:=
 Rd H a (.tup xs)\/
  ∃ (o:Obj) (its:Array Value) (n:Nat),K.lookup a=some o/\o.cls = .type "tuple" /\o.data = .seq its n/\its.size<=sizeLine/\Vals xs its.toList
def Ot:Value->Option V
 |.none=>some .non
 |.bool b=>some (.bl b)
 |.int i _=>some (.int i)
 |.str x _=>some (.str x)
 |.bytes b _=>some (.byt b)
 |.float b _=>some (.flt b)
 |.ref a=>some (.ref a)
 |.type n=>some (.ty n)
 |_=>none
theorem RelV.abs {x:V}{u:Value}(r:RelV x u):Ot u=some x:=by
 cases x with
 |non=>cases r;rfl
 |bl _=>cases r;rfl
 |int _=>obtain⟨t,rfl⟩:=r;rfl
 |str _=>obtain⟨t,rfl⟩:=r;rfl
 |byt _=>obtain⟨t,rfl⟩:=r;rfl
 |flt _=>obtain⟨t,rfl⟩:=r;rfl
 |ref _=>cases r;rfl
 |ty _=>cases r;rfl
theorem RelV.inj {x y:V}{u:Value}(r:RelV x u)(q:RelV y u):x=y:=aW (r.abs.symm.trans q.abs)
theorem Vals.inj:∀ {xs ys:List V}{us:List Value},Vals xs us->Vals ys us->xs=ys
 |_,_,_,.nil,.nil=>rfl
 |_,_,_,.cons r t,.cons r' t'=>by rw[r.inj r',Vals.inj t t']
section
variable {X:Cx}{pins:List (Addr×Obj)}{σ:St}{H:Hp}{s:Shared}{a:Addr}{xs ys:List V}
theorem SqL.of {K:PySem.W.Frag}(h:H a=some (.lst xs)):SqL K H a xs:=.inl (.inl h)
theorem SqT.of {K:PySem.W.Frag}(h:H a=some (.tup xs)):SqT K H a xs:=.inl (.inl h)
theorem Inv.list (I:Inv X pins σ H s)(h:SqL X.K H a xs):∃ its:List Value,Vals xs its/\PlainL s.heap a its.toArray/\xs.length<=sizeLine:=by
 rcases h with h |⟨o,its,n,hk,hc,hd,hs,hz,r⟩
 ·obtain⟨z,its,n,r,e⟩:=h.ok I.hok
  exact⟨its,r,⟨_,n,e,rfl,rfl,rfl⟩,z⟩
 ·refine⟨its.toList,r,⟨o,n,I.kIn a o hk,hc,hd,by simpa using hs⟩,?_⟩
  have e:=r.length
  simp only[cF]at e
  omega
theorem Inv.tuple (I:Inv X pins σ H s)(h:SqT X.K H a xs):∃ its:List Value,Vals xs its/\IsTup s.heap a its.toArray/\xs.length<=sizeLine:=by
 rcases h with h |⟨o,its,n,hk,hc,hs,hz,r⟩
 ·obtain⟨z,its,r,p⟩:=h.ok I.hok
  exact⟨its,r,p,z⟩
 ·refine⟨its.toList,r,⟨o,I.kIn a o hk,hc,n,by simpa using hs⟩,?_⟩
  have e:=r.length
  simp only[cF]at e
  omega
theorem Inv.mr (I:Inv X pins σ H s)(h:SqL X.K H a xs)(h':SqL X.K H a ys):xs=ys:=by
 obtain⟨its,r,⟨o,n,e,_,_,d⟩,_⟩:=I.list h
 obtain⟨its',r',⟨o',n',e',_,_,d'⟩,_⟩:=I.list h'
 rw[e]at e';cases e'
 rw[d]at d'
 injection d' with d1 _
 have:its=its':=by simpa using bX Array.toList d1
 subst this
 exact r.inj r'
end
abbrev Cx.rA (X:Cx)(E:Value->Shared->Prop):Cx:={X with xe:=E}
abbrev Cx.nox (X:Cx):Cx:=X.rA λ_ _=>False
theorem Cx.Ok.rA {X:Cx}(ok:X.Ok)(E:Value->Shared->Prop):(X.rA E).Ok:=
 ⟨ok.mod,ok.kind,ok.glob,ok.blt,ok.above,ok.inj,ok.has,ok.cab,ok.hd,ok.frames,ok.stk,ok.exf,ok.bs,ok.bsz,ok.Bq,ok.Dp,ok.sQ,ok.frf⟩
theorem Cx.Ok.nj {X:Cx}{E:Value->Shared->Prop}(ok:(X.rA E).Ok):X.Ok:=
 ⟨ok.mod,ok.kind,ok.glob,ok.blt,ok.above,ok.inj,ok.has,ok.cab,ok.hd,ok.frames,ok.stk,ok.exf,ok.bs,ok.bsz,ok.Bq,ok.Dp,ok.sQ,ok.frf⟩
section
variable {X:Cx}{pins:List (Addr×Obj)}{σ:St}{H:Hp}{s:Shared}{E:Value->Shared->Prop}
theorem Inv.rA (I:Inv X pins σ H s)(E:Value->Shared->Prop):Inv (X.rA E) pins σ H s:=⟨I.ok.rA E,I.os,I.bare,I.base,I.loc,I.cell,I.free,I.mz,I.pin,I.hok,I.len⟩
theorem Inv.nj (I:Inv (X.rA E) pins σ H s):Inv X pins σ H s:=⟨I.ok.nj,I.os,I.bare,I.base,I.loc,I.cell,I.free,I.mz,I.pin,I.hok,I.len⟩
theorem SP.nj {D:Ends}{f:Flow}{s':Shared}(h:SP (X.rA E) pins D f s'):SP X pins D f s':=by
 cases f with
 |next=>obtain⟨σ',H',I,q⟩:=h;exact⟨σ',H',I.nj,q⟩
 |brk=>obtain⟨σ',H',I,q⟩:=h;exact⟨σ',H',I.nj,q⟩
 |cont=>obtain⟨σ',H',I,q⟩:=h;exact⟨σ',H',I.nj,q⟩
 |ret u=>obtain⟨v,σ',H',I,r,q⟩:=h;exact⟨v,σ',H',I.nj,r,q⟩
theorem PSs.nox {st:List Stmt}{t:TS}(h:PSs X.nox st t):PSs X st t:=λpins s σ H D I hw=>
 br (h pins s σ H D (I.rA _) hw) (λ_ _ q=>q.nj) λ_ _ z=>False.elim z
end
section
variable {X:Cx}{st:Stmt}{rest:List Stmt}{t u:TS}{e:Expr}{te:TE}{pos:Pos}
def FN:TS:=λD σ H=>D.nx σ H
def oE (t u:TS):TS:=λD σ H=>t {D with nx:=u D} σ H
theorem fu:PSs X [] FN:=λ_ _ σ H _ I h=>wpAny_execs_nil ⟨σ,H,I,h⟩
theorem eJ (h1:PS X st t)(h2:PSs X rest u):PSs X (st::rest) (oE t u):=by
 intro pins s σ H D I h
 refine wpAny_execs_cons (thn (h1 pins s σ H {D with nx:=u D} I h) λf s1 q=>?_)
 cases f with
 |next=>
  obtain⟨σ',H',I',q⟩:=q
  exact h2 pins s1 σ' H' D I' q
 |ret v=>exact q
 |brk=>exact q
 |cont=>exact q
theorem eM (h1:PS X st t):PSs X [st] t:=by
 intro pins s σ H D I h
 refine wpAny_execs_cons (thn (h1 pins s σ H D I h) λf s1 q=>?_)
 cases f with
 |next=>exact wpAny_execs_nil q
 |ret v=>exact q
 |brk=>exact q
 |cont=>exact q
theorem Inv.quiet {pins:List (Addr×Obj)}{σ:St}{H:Hp}{s:Shared}(I:Inv X pins σ H s):interactive X.env=false:=by simp[interactive,I.ok.kind]
def FP (te:TE):TS:=λD σ H=>te σ H λ_ H1=>D.nx σ H1
theorem gF (he:PE X e te)(hs:swapsWith e none pos.line X.env=pure false:=by rfl):PS X (.Expr e pos) (FP te):=by
 intro pins s σ H D I h
 exact wpAny_Expr_any (thn (he pins s σ H _ I h) λv s1 ⟨x,H1,I1,r1,q1⟩=>⟨σ,H1,I1,q1⟩) I.quiet hs
def Hv (te:TE):TS:=λD σ H=>te σ H D.rt
theorem fj (he:PE X e te):PS X (.Return (some e) pos) (Hv te):=by
 intro pins s σ H D I h
 exact wpAny_Return_some (thn (he pins s σ H _ I h) λv s1 ⟨x,H1,I1,r1,q1⟩=>⟨x,σ,H1,I1,r1,q1⟩)
def HD (c:TT)(t u:TS):TS:=λD σ H=>c σ H λb H1=>if b=true then t D σ H1 else u D σ H1
theorem gA {c:Expr}{a b:List Stmt}{tc:TT}(hc:PT X c tc)(ha:PSs X a t)(hb:PSs X b u):PS X (.If c a b pos) (HD tc t u):=by
 intro pins s σ H D I h
 refine wpAny_If (thn (hc pins s σ H _ I h) λd s1 ⟨H1,I1,q1⟩=>?_)
 cases d with
 |true=>exact ha pins s1 σ H1 D I1 q1
 |false=>exact hb pins s1 σ H1 D I1 q1
end
abbrev TG:=V->St->Hp->(St->Hp->Prop)->Prop
abbrev TGs:=List V->St->Hp->(St->Hp->Prop)->Prop
def PG (X:Cx)(target:Expr)(t:TG):Prop:=
 ∀ (pins:List (Addr×Obj)) (s:Shared) (σ:St) (H:Hp) (v:V) (u:Value) (Q:St->Hp->Prop),Inv X pins σ H s->RelV v u->t v σ H Q->
  wpAny (model X.prog X.w) X.A (assign target X.env u) (λ_ s'=>∃ σ' H',Inv X pins σ' H' s'/\Q σ' H') X.xe s
def PGs (X:Cx)(ts:List Expr)(t:TGs):Prop:=
 ∀ (pins:List (Addr×Obj)) (s:Shared) (σ:St) (H:Hp) (vs:List V) (us:List Value) (Q:St->Hp->Prop),Inv X pins σ H s->Vals vs us->t vs σ H Q->
  wpAny (model X.prog X.w) X.A (assignInOrder ((assignEach ts X.env).map (·.2)) us) (λ_ s'=>∃ σ' H',Inv X pins σ' H' s'/\Q σ' H') X.xe s
abbrev Fu:=V->V->V->Hp->(Hp->Prop)->Prop
def Hm (X:Cx)(t:Fu):Prop:=
 ∀ (pins:List (Addr×Obj)) (s:Shared) (σ:St) (H:Hp) (o i v:V) (ov iv u:Value) (Q:Hp->Prop),Inv X pins σ H s->RelV o ov->RelV i iv->RelV v u->t o i v H Q->
  wpAny (model X.prog X.w) X.A (setItem ov iv u) (λ_ s'=>∃ H',Inv X pins σ H' s'/\Q H') X.xe s
abbrev TIp:=V->V->Hp->VK->Prop
def PIp (X:Cx)(op:Operator)(t:TIp):Prop:=
 ∀ (pins:List (Addr×Obj)) (s:Shared) (σ:St) (H:Hp) (x y:V) (v u:Value) (Q:VK),Inv X pins σ H s->RelV x v->RelV y u->t x y H Q->
  wpAny (model X.prog X.w) X.A (inplaceOp op v u) (EP X pins σ Q) X.xe s
section
variable {X:Cx}{pos:Pos}
def oP (i:Nat):TG:=λv σ H Q=>Q (σ.set i (some v)) H
theorem eU {i:Nat}{x:Str}(hN:X.N.Nodup)(hi:X.N[i]? = some x)(hx:Loc X.env.scope x)(hf:X.fn x=true\/X.env.scope.names.lookup x=some .local:=by first |exact .inl rfl |exact .inr rfl |assumption):PG X (.Name x pos) (oP i):=by
 intro pins s σ H v u Q I r h
 exact wpAny_assign_Name (nk I hN hi hx r (λs' I'=>⟨_,H,I',h⟩) hf)
def GW:TGs:=λvs σ H Q=>vs = []/\Q σ H
def DR (t:TG)(u:TGs):TGs:=λvs σ H Q=>∃ v r,vs=v::r/\t v σ H λσ' H'=>u r σ' H' Q
theorem gB:PGs X [] GW:=by
 intro pins s σ H vs us Q I r h
 obtain⟨e,h⟩:=h
 subst e
 cases r
 exact assignInOrder_nil ⟨σ,H,I,h⟩
theorem fc {e:Expr}{es:List Expr}{t:TG}{u:TGs}(h1:PG X e t)(h2:PGs X es u)
  (hs:(assignEach (e::es) X.env).map (·.2)=assign e X.env::(assignEach es X.env).map (·.2):=by rfl):PGs X (e::es) (DR t u):=by
 intro pins s σ H vs us Q I r h
 obtain⟨v,vr,e1,h⟩:=h
 subst e1
 cases r with
 |cons r rr=>
  rw[hs]
  refine assignInOrder_cons (thn (h1 pins s σ H _ _ _ I r h) λ_ s1 ⟨σ1,H1,I1,q1⟩=>?_)
  exact h2 pins s1 σ1 H1 _ _ Q I1 rr q1
def GV (K:PySem.W.Frag)(n:Nat)(t:TGs):TG:=λv σ H Q=>∃ a xs,v = .ref a/\SqT K H a xs/\xs.length=n/\t xs σ H Q
theorem g7 {es:List Expr}{k:Nat}{t:TGs}{n:Nat}(hc:X.calm=true)(h:PGs X es t)
  (hn:(assignEach es X.env).length=n:=by rfl) (hst:(assignEach es X.env).findIdx? (·.1)=none:=by rfl):PG X (.Tuple es k pos) (GV X.K n t):=by
 intro pins s σ H v u Q I r hw
 obtain⟨a,xs,e1,hq,hl,hw⟩:=hw
 subst e1
 cases r
 obtain⟨its,rv,ht,hz⟩:=I.tuple hq
 refine assign_Tuple_tuple (I.ok.hd hc) ht (by simp[hn,<-hl,rv.length]) hst λh' hx=>?_
 have I1:Inv X pins σ H {s with heap:=h'} :=I.kept (t':=s.toks) λb o e=>hx b o (aR (aF e)) e
 exact h pins _ σ H xs _ Q I1 (by simpa using rv) hw
def LM (to ti:TE)(t:Fu):TG:=λv σ H Q=>to σ H λo H1=>ti σ H1 λi H2=>t o i v H2 λH3=>Q σ H3
theorem A5 {o i:Expr}{to ti:TE}{t:Fu}(ho:PE X o to)(hi:PE X i ti)(hs:Hm X t)
  (ha:∀ v,assign (.Subscript o i pos) X.env v=(do
   let ov <-holding [v] (eval o X.env)
   let iv <-holding [v,ov] (eval i X.env)
   standAt pos
   holding [v,ov,iv] (setItem ov iv v)
   release [v,ov,iv] []):=by intro _;rfl):PG X (.Subscript o i pos) (LM to ti t):=by
 intro pins s σ H v u Q I r h
 rw[ha]
 refine ae (cS (thn (ho pins s σ H _ I h) λov s1 ⟨x,H1,I1,r1,q1⟩=>?_))
 refine ae (cS (thn (hi pins s1 σ H1 _ I1 q1) λiv s2 ⟨y,H2,I2,r2,q2⟩=>?_))
 refine ae (b8 (ae (cS (thn (hs pins s2 σ H2 x y v ov iv u _ I2 r1 r2 r q2) λ_ s3 ⟨H3,I3,q3⟩=>?_))))
 exact wpAny_release ⟨σ,H3,I3,q3⟩
def AL (te:TE)(g:TG):TS:=λD σ H=>te σ H λx H1=>g x σ H1 D.nx
theorem oV {tg e:Expr}{te:TE}{g:TG}(he:PE X e te)(hg:PG X tg g)(hs:swapsWithSole [tg] e pos.line X.env=pure false:=by rfl)(hw:swappedStores [tg] e X.env=pure none:=by rfl)
  (h1:(assignEach [tg] X.env).map (·.2) = [assign tg X.env]:=by rfl):PS X (.Assign [tg] e pos) (AL te g):=by
 intro pins s σ H D I h
 refine wpAny_Assign_stores (thn (he pins s σ H _ I h) λv s1 ⟨x,H1,I1,r1,q1⟩=>?_) hs hw
 rw[h1]
 exact thn (hg pins s1 σ H1 x v _ I1 r1 q1) λ_ s2 q=>q
theorem eW {i:Nat}{x:Str}{e:Expr}{te:TE}{pos':Pos}(hN:X.N.Nodup)(hi:X.N[i]? = some x)(hx:Loc X.env.scope x)(he:PE X e te)(hs:swapsWith e (some (.Name x pos')) pos.line X.env=pure false:=by rfl)(hf:X.fn x=true\/X.env.scope.names.lookup x=some .local:=by first |exact .inl rfl |exact .inr rfl |assumption):
  PS X (.Assign [.Name x pos'] e pos) (AL te (oP i)):=by
 intro pins s σ H D I h
 refine wpAny_Assign_Name (thn (he pins s σ H _ I h) λv s1 ⟨y,H1,I1,r1,q1⟩=>?_) hs
 exact nk I1 hN hi hx r1 (λs2 I2=>⟨_,H1,I2,q1⟩) hf
def Hw (i j:Nat)(ta:TA):TS:=λD σ H=>ta σ H λvs H1=>∃ v w,vs = [v,w]/\D.nx ((σ.set i (some v)).set j (some w)) H1
theorem Es {i j:Nat}{x y:Str}{a b:Expr}{ta:TA}{px py pt:Pos}{kt k2 pt2}(hc:X.calm=true)(hN:X.N.Nodup)(hi:X.N[i]? = some x)(hj:X.N[j]? = some y)(hij:i≠j)
  (hx:X.env.scope.names.lookup x=some .local) (hy:X.env.scope.names.lookup y=some .local) (ha:PA X [a,b] ta)
  (hw:swappedStores [.Tuple [.Name x px,.Name y py] kt pt] (.Tuple [a,b] k2 pt2) X.env=pure (some [x,y]))
  (hs:swapsWithSole [.Tuple [.Name x px,.Name y py] kt pt] (.Tuple [a,b] k2 pt2) pos.line X.env=pure false:=by rfl):
  PS X (.Assign [.Tuple [.Name x px,.Name y py] kt pt] (.Tuple [a,b] k2 pt2) pos) (Hw i j ta):=by
 intro pins s σ H D I h
 rw[exec_Assign_arm]
 refine ae (b8 ?_)
 rw[hs]
 refine ae (ao ?_)
 rw[aH (by decide)]
 refine ae (Tuple_ (thn (ha _ pins s σ H _ I h) λus s1 ⟨vs,H1,I1,r1,q1⟩=>?_))
 obtain⟨v,w,e1,q1⟩:=q1
 subst e1
 obtain⟨u1,u2,rfl,rv,rw'⟩:∃ u1 u2,us = [u1,u2]/\RelV v u1/\RelV w u2:=by
  cases r1 with
  |cons p q=>
   cases q with
   |cons p' q'=>
    cases q'
    exact⟨_,_,rfl,p,p'⟩
 refine bS ?_ (by show 2<=sizeLine;decide)
 have I2:Inv X pins σ H1 {s1 with heap:=s1.heap.push {cls:=.type "tuple",data:=.seq [u1,u2].toArray}} :=I1.kept (t':=s1.toks) λb o e=>aB _ e
 rw[hw]
 refine ae (ao ?_)
 show wpAny (model X.prog X.w) X.A (do rule "assign.swapped-stores";let items <-unpackItems (.ref s1.heap.objs.size) 2 none;assignInOrder [λv=>bindName X.env y v,λv=>bindName X.env x v] items.reverse;pure Flow.next) _ _ _
 refine ae (wpAny_rule (ae (unpackItems_tuple (items:= #[u1,u2]) (I.ok.hd hc) (IsTup.new s1.heap _) λh' hx'=>?_)))
 have I3:=I2.kept (h':=h') (t':=s1.toks) λb o e=>hx' b o (aR (aF e)) e
 show wpAny _ _ (assignInOrder [λv=>bindName X.env y v,λv=>bindName X.env x v] [u2,u1] >>= λ_=>pure Flow.next) _ _ _
 refine ae (assignInOrder_cons (wpAny_bindName (nk I3 hN hj (.inl hy) rw' (λs2 I4=>?_) (.inr hy))))
 refine assignInOrder_cons (wpAny_bindName (nk I4 hN hi (.inl hx) rv (λs3 I5=>assignInOrder_nil (ao ?_)) (.inr hx)))
 rw[List.set_comm _ _ (bB hij)]at I5
 exact⟨_,H1,I5,q1⟩
def HK (i:Nat)(te:TE)(ti:TIp):TS:=λD σ H=>∃ x,σ[i]? = some (some x)/\te σ H λy H1=>ti x y H1 λz H2=>D.nx (σ.set i (some z)) H2
theorem yd {i:Nat}{x:Str}{e:Expr}{te:TE}{op:Operator}{ti:TIp}{pos':Pos}(hN:X.N.Nodup)(hi:X.N[i]? = some x)(hx:Loc X.env.scope x)(he:PE X e te)(ho:PIp X op ti)(hf:X.fn x=true\/X.env.scope.names.lookup x=some .local:=by first |exact .inl rfl |exact .inr rfl |assumption):
  PS X (.AugAssign (.Name x pos') op e pos) (HK i te ti):=by
 intro pins s σ H D I h
 obtain⟨v,e1,h⟩:=h
 obtain⟨m,hn,hl⟩:=I.loc
 have vis:Vis X.env.scope x:=by rcases hx with k |k;exact .inl k;exact .inr (.inl k)
 obtain⟨u,r,l⟩:=hl i x v hi e1 vis
 refine wpAny_AugAssign_Name ?_
 have go:wpAny (model X.prog X.w) X.A (eval e X.env) (λw s₂=>wpAny (model X.prog X.w) X.A (inplaceOp op u w) (λr s₃=>wpAny (model X.prog X.w) X.A (storeName X.env x r) (λ_=>SP X pins D .next) X.xe s₃) X.xe s₂) X.xe s:=by
  refine thn (he pins s σ H _ I h) λw s1 ⟨y,H1,I1,r1,q1⟩=>?_
  refine thn (ho pins s1 σ H1 v y u w _ I1 r r1 q1) λz s2 ⟨zv,H2,I2,r2,q2⟩=>?_
  exact nk I2 hN hi hx r2 (λs3 I3=>⟨_,H2,I3,q2⟩) hf
 rcases l with⟨hk,hm⟩|⟨hk,c,hc,zp⟩
 ·exact wpAny_loadName_local I.ok.kind hk hn hm go
 ·rcases hk with hk |hk
  ·exact wpAny_loadName_cell I.ok.kind hk hc zp go
  ·rcases hx with k |k
   ·have:X.env.scope.names.lookup x=some .free:=hk
    rw[k]at this;cases this
   ·have:X.env.scope.names.lookup x=some .free:=hk
    rw[k]at this;cases this
def ipI (f:Int->Int->Int):TIp:=λx y H Q=>∃ i j,x = .int i/\y = .int j/\Q (.int (f i j)) H
theorem yu:PIp X .Add (ipI λi j=>i+j):=by
 intro pins s σ H x y v u Q I r1 r2 h
 obtain⟨i,j,e1,e2,q⟩:=h
 subst e1;subst e2
 obtain⟨t,rfl⟩:=r1
 obtain⟨t',rfl⟩:=r2
 exact iadd_int ⟨.int _,H,I.tok _,⟨_,rfl⟩,q⟩
end
section
variable {X:Cx}{pos:Pos}
def rJ (c:TT)(tb:TS):TS:=λD σ H=>∃ W:Nat->St->Hp->Prop,(∃ m,W m σ H)/\∀ m σ H,W m σ H->
 c σ H λb H1=>if b=true then ∃ N:St->Hp->Prop,(∀ σ' H',N σ' H'->∃ m',m'<m/\W m' σ' H')/\tb {D with nx:=N,ct:=N,bk:=D.nx} σ H1 else D.nx σ H1
theorem mj {c:Expr}{body:List Stmt}{tc:TT}{tb:TS}(hp:PassesOwn (model X.prog X.w) X.A X.env X.xe)(hc:PT X c tc)(hb:PSs X body tb):PS X (.While c body [] pos) (rJ tc tb):=by
 intro pins s σ H D I h
 obtain⟨W,⟨m0,w0⟩,turn⟩:=h
 refine wpAny_While (codeAny_whileLoop (λn s'=>∃ σ' H',Inv X pins σ' H' s'/\W n σ' H') ?_ m0 ⟨σ,H,I,w0⟩)
 rintro n s1 ⟨σ1,H1,I1,w1⟩
 refine cR hp (thn (hc pins s1 σ1 H1 _ I1 (turn n σ1 H1 w1)) λb s2 ⟨H2,I2,q2⟩=>?_)
 cases b with
 |true=>
  obtain⟨N,hN,q2⟩:=q2
  rw[aL rfl]
  refine cR hp (thn (hb pins s2 σ1 H2 _ I2 q2) λf s3 q3=>?_)
  cases f with
  |next=>
   obtain⟨σ3,H3,I3,n3⟩:=q3
   obtain⟨m',hm,w3⟩:=hN σ3 H3 n3
   exact⟨m',hm,σ3,H3,I3,w3⟩
  |cont=>
   obtain⟨σ3,H3,I3,n3⟩:=q3
   obtain⟨m',hm,w3⟩:=hN σ3 H3 n3
   exact⟨m',hm,σ3,H3,I3,w3⟩
  |brk=>exact q3
  |ret v=>exact q3
 |false=>
  rw[aH aI]
  exact wpAny_execs_nil ⟨σ1,H2,I2,q2⟩
end
structure It where
 go:Nat->Hp->Prop
 yld:Nat->Hp->V->Hp->Prop
 stop:Nat->Hp->Prop
def nh (X:Cx)(pins:List (Addr×Obj))(H:Hp)(b:Addr):Prop:=
 H b=none/\b≠X.env.locals/\b∉X.fs/\(b∈X.ex\/X.s₀.heap.objs.size<=b)/\(∀ x c,X.env.cells.lookup x=some c->c≠b)/\∀ p∈X.pn++pins,p.1≠b
theorem Inv.yD {X:Cx}{pins:List (Addr×Obj)}{σ:St}{H H':Hp}{s:Shared}{b:Addr}(I:Inv X pins σ H s)(hb:s.heap.objs.size<=b)(hn:H' b=none):nh X pins H' b:=by
 refine⟨hn,cI (bg I.lt hb),I.KH hb,.inr (bz I.sz hb),λx c e z=>?_,λp hp z=>?_⟩
 ·obtain⟨v,q⟩:=I.cell x c e
  exact absurd (bg q.lt (by rw[z];exact hb)) (de _)
 ·exact absurd (bg (aF (I.pin p hp).1) (by rw[z];exact hb)) (de _)
structure Turn (P:Program)(w:World)(K:PySem.W.Frag)(tg:Expr)(J:It)(fp:List Addr)(it:Addr)(tn:Nat->Heap->Prop):Prop where
 mem:it∈fp
 obj:∀ i h,tn i h->∀ b∈fp,∃ o,h.get? b=some o/\∀ v,o.data≠ .cell v
 keep:∀ i h h',tn i h->(∀ b∈fp,∀ o,h.get? b=some o->h'.get? b=some o)->tn i h'
 item:∀ (X:Cx),X.prog=P->X.w=w->X.K=K->X.calm=true->∀ (i:Nat) (pins:List (Addr×Obj)) (s:Shared) (σ:St) (H:Hp) (E:Value->Shared->Prop),Inv X pins σ H s->(∀ b∈fp,nh X pins H b)->tn i s.heap->J.go i H->
  wpAny (model P w) X.A (pyNext (.ref it)) (λr s1=>∃ u,r=some u/\
   wpAny (model P w) X.A (letOwnedTupleGo tg (.ref it) u) (λ_ s2=>∃ x H',Inv X pins σ H' s2/\RelV x u/\J.yld i H x H'/\tn (i+1) s2.heap/\∀ b∈fp,H' b=none) E s1) E s
 done:∀ (X:Cx),X.prog=P->X.w=w->X.K=K->X.calm=true->∀ (i:Nat) (pins:List (Addr×Obj)) (s:Shared) (σ:St) (H:Hp) (E:Value->Shared->Prop),Inv X pins σ H s->(∀ b∈fp,nh X pins H b)->tn i s.heap->J.stop i H->
  wpAny (model P w) X.A (pyNext (.ref it)) (λr s1=>r=none/\Inv X pins σ H s1) E s
 self:∀ (A:Around) (i:Nat) (s:Shared) (Q:Value->Shared->Prop) (E:Value->Shared->Prop),tn i s.heap->Q (.ref it) s->wpAny (model P w) A (pyIter (.ref it)) Q E s
abbrev TI:=St->Hp->(It->Hp->Prop)->Prop
def PIE (X:Cx)(pins:List (Addr×Obj))(σ:St)(tg:Expr)(R:It->Hp->Prop)(itv:Value)(s2:Shared):Prop:=
 ∃ (it:Addr) (fp:List Addr) (tn:Nat->Heap->Prop) (J:It) (H':Hp),itv = .ref it/\Inv X pins σ H' s2/\Turn X.prog X.w X.K tg J fp it tn/\tn 0 s2.heap/\(∀ b∈fp,nh X pins H' b)/\R J H'
def PI (X:Cx)(tg iter:Expr)(wi:TI):Prop:=
 ∀ (pins:List (Addr×Obj)) (s:Shared) (σ:St) (H:Hp) (R:It->Hp->Prop),Inv X pins σ H s->wi σ H R->
  wpAny (model X.prog X.w) X.A (eval iter X.env) (λv s1=>wpAny (model X.prog X.w) X.A (pyIter v) (PIE X pins σ tg R) X.xe s1) X.xe s
theorem BM {M : Model} {A : Around} {E : Value → Shared → Prop} {s : Shared} {tg : Expr} {it : Addr} {u : Value} {o : Obj} {n : String} {vs : Array Value} {Q : Unit → Shared → Prop} (ho : s.heap.get? it = some o) (hc : o.cls = .type n) (hd : o.data = .fields vs)
    (hn : ["enumerate", "zip", "dict_itemiterator", "dict_reverseitemiterator", "odict_iterator", "itertools.zip_longest", "itertools.pairwise"].contains n = false) (hQ : Q () s) : wpAny M A (letOwnedTupleGo tg (.ref it) u) Q E s := by
  unfold letOwnedTupleGo
  cases tg <;> first
    | exact ao hQ
    | (cases u <;> first
        | exact ao hQ
        | (refine ae (wpAny_load ho ?_)
           rw [hc, hd]
           show wpAny M A (if (["enumerate", "zip", "dict_itemiterator", "dict_reverseitemiterator", "odict_iterator", "itertools.zip_longest", "itertools.pairwise"].contains n && vs[0]? == some (rawInt _)) = true then _ else _) Q E s
           rw [aH (by intro h; rw [hn, Bool.false_and] at h; cases h)]
           exact ao hQ))
def Itl (K:PySem.W.Frag)(a:Addr):It:=
 ⟨λi H=>∃ xs x,SqL K H a xs/\xs[i]? = some x,λi H x H'=>H'=H/\∀ xs,SqL K H a xs->xs[i]? = some x,λi H=>∃ xs,SqL K H a xs/\xs.length<=i⟩
def Itr (lo:Int)(n:Nat):It:=⟨λi _=>i<n,λi H x H'=>H'=H/\x = .int (lo+i),λi _=>n<=i⟩
theorem zN {P:Program}{w:World}{K:PySem.W.Frag}{tg:Expr}(a it:Addr):Turn P w K tg (Itl K a) [it] it (λi h=>h.IsListIter it a i) where
 mem:=by simp
 obj:=λi h st b hb=>by
  have e:b=it:=by simpa using hb
  subst e
  obtain⟨o,e,c,d⟩:=st
  exact⟨o,e,λv z=>by rw[d]at z;cases z⟩
 keep:=λi h h' st k=>st.at λo e=>k it (by simp) o e
 item:=by
  intro X hP hw hK hc i pins s σ H E I hf st hg
  subst hP hw hK
  obtain⟨xs,x,hq,hx⟩:=hg
  obtain⟨its,rv,p,hz⟩:=I.list hq
  obtain⟨u,hu,ru⟩:=rv.get hx
  obtain⟨f0,f1,f2,f3,f4,f5⟩:=hf it (by simp)
  refine wpAny_pyNext_list_item st p.isList (x:=u) (by simpa using hu) λh' st' sb=>?_
  have I1:Inv X pins σ H {s with heap:=h'} :=I.turned (t':=s.toks) (λb o hb e=>(sb.2 b hb).trans e) f0 f1 f3 f4 f5
  obtain⟨o,e,c,d⟩:=id st'
  exact⟨u,rfl,BM (s:={s with heap:=h'}) e c d (by decide) ⟨x,H,I1,ru,⟨rfl,λys hy=>by rw[I.mr hy hq];exact hx⟩,st',λb hb=>(hf b hb).1⟩⟩
 done:=by
  intro X hP hw hK hc i pins s σ H E I hf st hg
  subst hP hw hK
  obtain⟨xs,hq,hx⟩:=hg
  obtain⟨its,rv,p,hz⟩:=I.list hq
  obtain⟨f0,f1,f2,f3,f4,f5⟩:=hf it (by simp)
  have hl:=rv.length
  exact wpAny_pyNext_list_end (I.ok.hd hc) st p.isList (by simp;omega) λh' eb=>⟨rfl,I.turned (t':=s.toks) (λb o hb e=>eb b o hb e) f0 f1 f3 f4 f5⟩
 self:=λ_ _ _ _ _ st h=>wpAny_pyIter_listiter st h
theorem xP {P:Program}{w:World}{K:PySem.W.Frag}{tg:Expr}(it:Addr)(lo:Int)(n:Nat):Turn P w K tg (Itr lo n) [it] it (λi h=>IsRangeIter h it (lo+(i:Nat)*1) ((n:Int)-(i:Nat)) 1) where
 mem:=by simp
 obj:=λi h st b hb=>by
  have e:b=it:=by simpa using hb
  subst e
  exact⟨_,st,λv z=>by
   have z':Data.fields _=Data.cell v:=z
   cases z'⟩
 keep:=λi h h' st k=>k it (by simp) _ st
 item:=by
  intro X hP hw hK hc i pins s σ H E I hf st hg
  subst hP hw hK
  obtain⟨f0,f1,f2,f3,f4,f5⟩:=hf it (by simp)
  have W:=Walks.range (prog:=X.prog) (w:=X.w) (I.ok.hd hc) it lo 1 n
  refine W.item i s _ _ hg st λv h' tk hv st' kk=>?_
  obtain⟨t,rfl⟩:=hv
  have I1:Inv X pins σ H {s with heap:=h',toks:=tk} :=I.turned (λb o hb e=>kk b o (by simpa using hb) e) f0 f1 f3 f4 f5
  refine⟨_,rfl,BM (s:={s with heap:=h',toks:=tk}) (n:= "range_iterator") st' rfl rfl (by decide) ⟨.int (lo+i),H,I1,⟨t,?_⟩,⟨rfl,rfl⟩,st',λb hb=>(hf b hb).1⟩⟩
  rw[Int.mul_one]
 done:=by
  intro X hP hw hK hc i pins s σ H E I hf st hg
  subst hP hw hK
  obtain⟨f0,f1,f2,f3,f4,f5⟩:=hf it (by simp)
  exact wpAny_pyNext_range_end (I.ok.hd hc) st (by have:n<=i:=hg;omega) λh' eb=>⟨rfl,I.turned (t':=s.toks) (λb o hb e=>eb b o hb e) f0 f1 f3 f4 f5⟩
 self:=λ_ _ _ _ _ st h=>wpAny_pyIter_rangeiter st h
section
variable {X:Cx}{tg:Expr}
def Gz (K:PySem.W.Frag)(tl:TE):TI:=λσ H R=>tl σ H λx H1=>∃ a,x = .ref a/\(∃ xs,SqL K H1 a xs)/\R (Itl K a) H1
theorem fF {l:Expr}{tl:TE}(hl:PE X l tl):PI X tg l (Gz X.K tl):=by
 intro pins s σ H R I h
 refine thn (hl pins s σ H _ I h) λv s1 ⟨x,H1,I1,r1,q1⟩=>?_
 obtain⟨a,e,⟨xs,hq⟩,q⟩:=q1
 subst e
 cases r1
 obtain⟨its,rv,p,hz⟩:=I1.list hq
 refine wpAny_pyIter_list p.isList ?_
 refine⟨s1.heap.objs.size,[s1.heap.objs.size],_,_,H1,rfl,I1.kept (t':=s1.toks) λb o e=>aB _ e,zN a _,⟨_,aN _ rfl,rfl,rfl⟩,λb hb=>?_,q⟩
 have e:b=s1.heap.objs.size:=by simpa using hb
 subst e
 exact I1.yD (av _) (I1.hok.fresh (av _))
theorem wC {pins:List (Addr×Obj)}{σ:St}{H:Hp}{s:Shared}{R:It->Hp->Prop}{E:Value->Shared->Prop}{lo hi:Int}{t u v:Tok}{tk:Nat}(I:Inv X pins σ H s)(h1: -(2 ^ 62)<=lo)(h2:lo<2 ^ 62)(h3: -(2 ^ 62)<=hi)(h4:hi<2 ^ 62)
  (q:R (Itr lo (hi-lo).toNat) H):wpAny (model X.prog X.w) X.A (pyIter (.ref s.heap.objs.size)) (PIE X pins σ tg R) E {s with heap:=s.heap.push {cls:=.type "range",data:=.fields #[.int lo t,.int hi u,.int 1 v]},toks:=tk} :=by
 refine wpAny_pyIter_range (IsRange.new ..) (small_one h1 h2 h3 h4) ?_
 have I1:Inv X pins σ H {s with heap:=s.heap.push {cls:=.type "range",data:=.fields #[.int lo t,.int hi u,.int 1 v]},toks:=tk} :=I.kept λb o e=>aB _ e
 refine⟨(s.heap.push {cls:=.type "range",data:=.fields #[.int lo t,.int hi u,.int 1 v]}).objs.size,[(s.heap.push {cls:=.type "range",data:=.fields #[.int lo t,.int hi u,.int 1 v]}).objs.size],_,_,H,rfl,
  I1.kept (t':=tk) λb o e=>aB _ e,xP _ lo (hi-lo).toNat,?_,λb hb=>?_,q⟩
 ·have e1:lo+((0:Nat):Int)*1=lo:=by simp
  have e2:(((hi-lo).toNat:Nat):Int)-((0:Nat):Int)=Builtin.Range.rangeSize lo hi 1:=by rw[rangeSize_one];split<;>omega
  show IsRangeIter _ _ (lo+((0:Nat):Int)*1) ((((hi-lo).toNat:Nat):Int)-((0:Nat):Int)) 1
  rw[e1,e2]
  exact aN _ rfl
 ·have e:b=(s.heap.push {cls:=.type "range",data:=.fields #[.int lo t,.int hi u,.int 1 v]}).objs.size:=by simpa using hb
  subst e
  exact I1.yD (av _) (I1.hok.fresh (av _))
def Gy (ta:TA):TI:=λσ H R=>ta σ H λvs H1=>∃ j:Int,vs = [.int j]/\ -(2 ^ 62)<=j/\j<2 ^ 62/\R (Itr 0 j.toNat) H1
def Gx (ta:TA):TI:=λσ H R=>ta σ H λvs H1=>∃ i j:Int,vs = [.int i,.int j]/\(-(2 ^ 62)<=i/\i<2 ^ 62/\ -(2 ^ 62)<=j/\j<2 ^ 62)/\R (Itr i (j-i).toNat) H1
theorem mm {a:Expr}{ta:TA}{p pos:Pos}(hg:Gl X "range")(hm:X.mg "range" = none)(ha:PA X [a] ta)(hs:starEach [a] X.env = [(false,eval a X.env)]:=by rfl):PI X tg (.Call (.Name "range" p) [a] [] pos) (Gy ta):=by
 intro pins s σ H R I h
 refine Call_ (oX I hg hm boot_range (bU (thn (ha pos pins s σ H _ I h) λus s1 ⟨vs,H1,I1,r1,q1⟩=>?_) hs rfl))
 obtain⟨j,e,q1,q2,q⟩:=q1
 subst e
 cases r1 with
 |cons r rr=>
  cases rr
  obtain⟨t,rfl⟩:=r
  exact call_range_1 (wC I1 (by omega) (by omega) q1 q2 (by simpa using q))
theorem Ac {a b:Expr}{ta:TA}{p pos:Pos}(hg:Gl X "range")(hm:X.mg "range" = none)(ha:PA X [a,b] ta)(hs:starEach [a,b] X.env = [(false,eval a X.env),(false,eval b X.env)]:=by rfl)(hs2:starEach [b] X.env = [(false,eval b X.env)]:=by rfl):
  PI X tg (.Call (.Name "range" p) [a,b] [] pos) (Gx ta):=by
 intro pins s σ H R I h
 refine Call_ (oX I hg hm boot_range (bU (thn (ha pos pins s σ H _ I h) λus s1 ⟨vs,H1,I1,r1,q1⟩=>?_) (by rw[hs,hs2]) (by rw[hs2];rfl)))
 obtain⟨i,j,e,⟨q1,q2,q3,q4⟩,q⟩:=q1
 subst e
 cases r1 with
 |cons r rr=>
  cases rr with
  |cons r' rr=>
   cases rr
   obtain⟨t,rfl⟩:=r
   obtain⟨t',rfl⟩:=r'
   exact call_range_2 (wC I1 q1 q2 q3 q4 q)
def HG (wi:TI)(g:TG)(tb:TS):TS:=λD σ H=>wi σ H λJ H1=>∃ W:Nat->Nat->St->Hp->Prop,(∃ m,W 0 m σ H1)/\∀ i m σ H,W i m σ H->
 (J.stop i H/\D.nx σ H)\/(J.go i H/\∃ N:St->Hp->Prop,(∀ σ' H',N σ' H'->∃ m',m'<m/\W (i+1) m' σ' H')/\∀ x H',J.yld i H x H'->g x σ H' λσ2 H2=>tb {D with nx:=N,ct:=N,bk:=D.nx} σ2 H2)
def oW (fp:List Addr)(h:Heap):List (Addr×Obj):=fp.filterMap λb=>(h.get? b).map λo=>(b,o)
theorem iW {fp:List Addr}{h:Heap}{b:Addr}{o:Obj}(hb:b∈fp)(e:h.get? b=some o):(b,o)∈oW fp h:=List.mem_filterMap.mpr ⟨b,hb,by rw[e];rfl⟩
theorem Ag {fp:List Addr}{h:Heap}{p:Addr×Obj}(hp:p∈oW fp h):p.1∈fp/\h.get? p.1=some p.2:=by
 obtain⟨b,hb,e⟩:=List.mem_filterMap.mp hp
 cases q:h.get? b with
 |none=>rw[q]at e;cases e
 |some o=>
  rw[q]at e
  have e':(b,o)=p:=aW e
  subst e'
  exact⟨hb,q⟩
theorem Inv.pinned {pins:List (Addr×Obj)}{σ:St}{H:Hp}{s:Shared}{fp:List Addr}(I:Inv X pins σ H s)(hf:∀ b∈fp,nh X pins H b)(ho:∀ b∈fp,∃ o,s.heap.get? b=some o/\∀ v,o.data≠ .cell v):Inv X (pins++oW fp s.heap) σ H s:=
 I.zc λp hp=>(az.mp hp).elim (λz=>I.pin p (aD _ z)) λz=>by
  obtain⟨hb,e⟩:=Ag z
  obtain⟨f0,f1,f2,_⟩:=hf p.1 hb
  obtain⟨o,e',d⟩:=ho p.1 hb
  rw[e]at e';cases e'
  exact⟨e,f0,f1,f2,d⟩
theorem Inv.lZ {pins pl:List (Addr×Obj)}{σ:St}{H:Hp}{s:Shared}(I:Inv X (pins++pl) σ H s):Inv X pins σ H s:=I.zc λp hp=>I.pin p (aD _ (aK _ hp))
theorem gU {iter:Expr}{body:List Stmt}{wi:TI}{g:TG}{tb:TS}{pos:Pos}(hp:PassesOwn (model X.prog X.w) X.A X.env X.xe)(hc:X.calm=true)(hi:PI X tg iter wi)(hg:PG X tg g)(hb:PSs X body tb)
  (hs:∀ x,foldedSetIterable iter X.env x=pure x:=by intro _;rfl):PS X (.For tg iter body [] pos) (HG wi g tb):=by
 intro pins s σ H D I h
 refine wpAny_For (thn (hi pins s σ H _ I h) λv s1 h1=>thn h1 λitv s2 h2=>?_) hs
 obtain⟨it,fp,tn,J,H2,e,I2,T,st2,f2,W,⟨m0,w0⟩,turn⟩:=h2
 subst e
 have Ek:∀ {H':Hp},(∀ b∈fp,H' b=none)->∀ b∈fp,nh X pins H' b:=λhn b hb=>⟨hn b hb,(f2 b hb).2⟩
 refine codeAny_forLoop_any (λn s'=>∃ i σ' H',Inv X pins σ' H' s'/\tn i s'.heap/\(∀ b∈fp,H' b=none)/\W i n σ' H') ?_ m0 ⟨0,σ,H2,I2,st2,λb hb=>(f2 b hb).1,w0⟩
 rintro n s3 ⟨i,σ3,H3,I3,st3,fr3,w3⟩
 rcases turn i n σ3 H3 w3 with⟨stop,qn⟩|⟨go,N,hN,step⟩
 ·refine cR hp (thn (T.done X rfl rfl rfl hc i pins s3 σ3 H3 X.xe I3 (Ek fr3) st3 stop) λr s4 ⟨hr,I4⟩=>?_)
  subst hr
  exact wpAny_execs_nil ⟨σ3,H3,I4,qn⟩
 ·refine cR hp (thn (T.item X rfl rfl rfl hc i pins s3 σ3 H3 X.xe I3 (Ek fr3) st3 go) λr s4 ⟨u,hr,h4⟩=>?_)
  subst hr
  refine cR hp (thn h4 λ_ s5 ⟨x,H5,I5,r5,y5,st5,fr5⟩=>?_)
  have I5':=I5.pinned (Ek fr5) (T.obj _ _ st5)
  refine cR hp (thn (hg _ s5 σ3 H5 x u _ I5' r5 (step x H5 y5)) λ_ s6 ⟨σ6,H6,I6,q6⟩=>?_)
  refine cR hp (thn (hb _ s6 σ6 H6 _ I6 q6) λf s7 q7=>?_)
  have again:∀ {σ7:St}{H7:Hp},Inv X (pins++oW fp s5.heap) σ7 H7 s7->N σ7 H7->∃ m,m<n/\∃ i σ' H',Inv X pins σ' H' s7/\tn i s7.heap/\(∀ b∈fp,H' b=none)/\W i m σ' H':=λ{σ7 H7} I7 n7=>by
   obtain⟨m',hm,w7⟩:=hN σ7 H7 n7
   refine⟨m',hm,i+1,σ7,H7,I7.lZ,T.keep _ _ _ st5 λb hb o e=>(I7.pin (b,o) (aD _ (aD _ (iW hb e)))).1,λb hb=>?_,w7⟩
   obtain⟨o,e,d⟩:=T.obj _ _ st5 b hb
   exact(I7.pin (b,o) (aD _ (aD _ (iW hb e)))).2.1
  cases f with
  |next=>obtain⟨σ7,H7,I7,n7⟩:=q7;exact again I7 n7
  |cont=>obtain⟨σ7,H7,I7,n7⟩:=q7;exact again I7 n7
  |brk=>obtain⟨σ7,H7,I7,q7⟩:=q7;exact⟨σ7,H7,I7.lZ,q7⟩
  |ret v=>obtain⟨x7,σ7,H7,I7,r7,q7⟩:=q7;exact⟨x7,σ7,H7,I7.lZ,r7,q7⟩
end
theorem nI {K:PySem.W.Frag}{a:Addr}{xs:List V}{g:TG}{tb:TS}{D:Ends}{σ:St}{H:Hp}(Pv:Nat->St->Hp->Prop)(h0:Pv 0 σ H)(hl:∀ i σ H,i<=xs.length->Pv i σ H->SqL K H a xs)
  (hs:∀ i x σ H,xs[i]? = some x->Pv i σ H->g x σ H λσ2 H2=>tb {D with nx:=Pv (i+1),ct:=Pv (i+1),bk:=D.nx} σ2 H2) (hd:∀ σ H,Pv xs.length σ H->D.nx σ H):
  ∃ W:Nat->Nat->St->Hp->Prop,(∃ m,W 0 m σ H)/\∀ i m σ H,W i m σ H->
   ((Itl K a).stop i H/\D.nx σ H)\/((Itl K a).go i H/\∃ N:St->Hp->Prop,(∀ σ' H',N σ' H'->∃ m',m'<m/\W (i+1) m' σ' H')/\∀ x H',(Itl K a).yld i H x H'->g x σ H' λσ2 H2=>tb {D with nx:=N,ct:=N,bk:=D.nx} σ2 H2):=by
 refine⟨λi m σ H=>m=xs.length-i/\i<=xs.length/\Pv i σ H,⟨xs.length,by simp,aO _,h0⟩,?_⟩
 rintro i m σ H ⟨rfl,hi,p⟩
 have q:=hl i σ H hi p
 by_cases hlt:i<xs.length
 ·refine .inr ⟨⟨xs,xs[i],q,by simp[hlt]⟩,Pv (i+1),λσ' H' p'=>⟨xs.length-(i+1),by omega,rfl,hlt,p'⟩,λx H' y=>?_⟩
  obtain⟨e,y⟩:=y
  subst e
  exact hs i x σ _ (y xs q) p
 ·have e:i=xs.length:=by omega
  subst e
  exact .inl ⟨⟨xs,q,av _⟩,hd σ H p⟩
theorem ox {lo:Int}{n:Nat}{g:TG}{tb:TS}{D:Ends}{σ:St}{H:Hp}(Pv:Nat->St->Hp->Prop)(h0:Pv 0 σ H)
  (hs:∀ i σ H,i<n->Pv i σ H->g (.int (lo+i)) σ H λσ2 H2=>tb {D with nx:=Pv (i+1),ct:=Pv (i+1),bk:=D.nx} σ2 H2) (hd:∀ σ H,Pv n σ H->D.nx σ H):
  ∃ W:Nat->Nat->St->Hp->Prop,(∃ m,W 0 m σ H)/\∀ i m σ H,W i m σ H->
   ((Itr lo n).stop i H/\D.nx σ H)\/((Itr lo n).go i H/\∃ N:St->Hp->Prop,(∀ σ' H',N σ' H'->∃ m',m'<m/\W (i+1) m' σ' H')/\∀ x H',(Itr lo n).yld i H x H'->g x σ H' λσ2 H2=>tb {D with nx:=N,ct:=N,bk:=D.nx} σ2 H2):=by
 refine⟨λi m σ H=>m=n-i/\i<=n/\Pv i σ H,⟨n,by simp,aO _,h0⟩,?_⟩
 rintro i m σ H ⟨rfl,hi,p⟩
 by_cases hlt:i<n
 ·refine .inr ⟨hlt,Pv (i+1),λσ' H' p'=>⟨n-(i+1),by omega,rfl,hlt,p'⟩,λx H' y=>?_⟩
  obtain⟨e,y⟩:=y
  subst e y
  exact hs i σ _ hlt p
 ·have e:i=n:=by omega
  subst e
  exact .inl ⟨av _,hd σ H p⟩
theorem AE {c:TT}{tb:TS}{D:Ends}{σ:St}{H:Hp}(Pv:St->Hp->Prop)(μ:St->Hp->Nat)(h0:Pv σ H)
  (hs:∀ σ H,Pv σ H->c σ H λb H1=>if b=true then tb {D with nx:=λσ' H'=>Pv σ' H'/\μ σ' H'<μ σ H,ct:=λσ' H'=>Pv σ' H'/\μ σ' H'<μ σ H,bk:=D.nx} σ H1 else D.nx σ H1)
  (mono:∀ σ H Q Q',(∀ b H1,Q b H1->Q' b H1)->c σ H Q->c σ H Q'):rJ c tb D σ H:=by
 refine⟨λm σ H=>m=μ σ H/\Pv σ H,⟨_,rfl,h0⟩,?_⟩
 rintro m σ H ⟨rfl,p⟩
 refine mono σ H _ _ (λb H1 q=>?_) (hs σ H p)
 cases b with
 |true=>exact⟨_,λσ' H' ⟨p',l⟩=>⟨_,l,rfl,p'⟩,q⟩
 |false=>exact q
abbrev R2:=V->V->Hp->VK->Prop
def OpR (X:Cx)(f:Value->Value->Sem Value)(r:R2):Prop:=
 ∀ (pins:List (Addr×Obj)) (s:Shared) (σ:St) (H:Hp) (x y:V) (v u:Value) (Q:VK),Inv X pins σ H s->RelV x v->RelV y u->r x y H Q->
  wpAny (model X.prog X.w) X.A (f v u) (EP X pins σ Q) X.xe s
def UnR (X:Cx)(f:Value->Sem Value)(r:V->Hp->VK->Prop):Prop:=
 ∀ (pins:List (Addr×Obj)) (s:Shared) (σ:St) (H:Hp) (x:V) (v:Value) (Q:VK),Inv X pins σ H s->RelV x v->r x H Q->
  wpAny (model X.prog X.w) X.A (f v) (EP X pins σ Q) X.xe s
def mO (X:Cx)(f:Value)(r:List V->Hp->VK->Prop):Prop:=
 ∀ (pins:List (Addr×Obj)) (s:Shared) (σ:St) (H:Hp) (xs:List V) (us:List Value) (Q:VK),Inv X pins σ H s->Vals xs us->r xs H Q->
  wpAny (model X.prog X.w) X.A (call f us) (EP X pins σ Q) X.xe s
def Ov (X:Cx)(r:V->Hp->(Bool->Hp->Prop)->Prop):Prop:=
 ∀ (pins:List (Addr×Obj)) (s:Shared) (σ:St) (H:Hp) (x:V) (v:Value) (Q:Bool->Hp->Prop),Inv X pins σ H s->RelV x v->r x H Q->
  wpAny (model X.prog X.w) X.A (truthy v) (TP X pins σ Q) X.xe s
def tOp (r:R2)(ta tb:TE):TE:=λσ H Q=>ta σ H λx H1=>tb σ H1 λy H2=>r x y H2 Q
def tUn (r:V->Hp->VK->Prop)(ta:TE):TE:=λσ H Q=>ta σ H λx H1=>r x H1 Q
def rI (C:Int->Int->Prop)(g:Int->Int->V):R2:=λx y H Q=>∃ i j,x = .int i/\y = .int j/\C i j/\Q (g i j) H
def rI0 (g:Int->Int->V):R2:=λx y H Q=>∃ i j,x = .int i/\y = .int j/\Q (g i j) H
def rU (g:Int->V):V->Hp->VK->Prop:=λx H Q=>∃ i,x = .int i/\Q (g i) H
section
variable {X:Cx}{a b c:Expr}{ta tb tc:TE}{pos:Pos}
theorem Fq (ha:PE X a ta)(hb:PE X b tb){pins:List (Addr×Obj)}{s:Shared}{σ:St}{H:Hp}{R:V->V->Hp->Prop}(I:Inv X pins σ H s)
  (h:ta σ H λx H1=>tb σ H1 λy H2=>R x y H2) {Q:Value->Shared->Prop}{f:Value->Value->Sem Value}
  (hf:∀ v u s2 x y H2,Inv X pins σ H2 s2->RelV x v->RelV y u->R x y H2->wpAny (model X.prog X.w) X.A (f v u) Q X.xe s2):
  wpAny (model X.prog X.w) X.A (eval a X.env) (λv s₁=>wpAny (model X.prog X.w) X.A (eval b X.env) (λu s₂=>wpAny (model X.prog X.w) X.A (f v u) Q X.xe s₂) X.xe s₁) X.xe s:=by
 refine thn (ha pins s σ H _ I h) λv s1 ⟨x,H1,I1,r1,q1⟩=>?_
 refine thn (hb pins s1 σ H1 _ I1 q1) λu s2 ⟨y,H2,I2,r2,q2⟩=>?_
 exact hf v u s2 x y H2 I2 r1 r2 q2
theorem eX {op:Operator}{r:R2}(ho:OpR X (binaryOp op) r)(ha:PE X a ta)(hb:PE X b tb):PE X (.BinOp a op b pos) (tOp r ta tb):=by
 intro pins s σ H Q I h
 exact wpAny_BinOp (Fq ha hb I h λv u s2 x y H2 I2 rx ry q=>ho pins s2 σ H2 x y v u Q I2 rx ry q)
theorem nA {op:UnaryOp}{r:V->Hp->VK->Prop}(ho:UnR X (unaryOp op) r)(ha:PE X a ta):PE X (.UnaryOp op a pos) (tUn r ta):=by
 intro pins s σ H Q I h
 exact UnaryOp_ (thn (ha pins s σ H _ I h) λv s1 ⟨x,H1,I1,r1,q1⟩=>ho pins s1 σ H1 x v Q I1 r1 q1)
theorem opI {f:Value->Value->Sem Value}{C:Int->Int->Prop}{g:Int->Int->Int}
  (rule:∀ (i j:Int) (t u:Tok) (s:Shared) (Q:Value->Shared->Prop) (E:Value->Shared->Prop),C i j->Q (.int (g i j) s.toks) {s with toks:=s.toks+1} ->wpAny (model X.prog X.w) X.A (f (.int i t) (.int j u)) Q E s):
  OpR X f (rI C λi j=>.int (g i j)):=by
 intro pins s σ H x y v u Q I rx ry h
 obtain⟨i,j,rfl,rfl,hc,q⟩:=h
 obtain⟨t,rfl⟩:=rx
 obtain⟨t',rfl⟩:=ry
 exact rule i j t t' s _ _ hc ⟨.int (g i j),H,I.tok _,⟨_,rfl⟩,q⟩
theorem EC {f:Value->Value->Sem Value}{g:Int->Int->Int}
  (rule:∀ (i j:Int) (t u:Tok) (s:Shared) (Q:Value->Shared->Prop) (E:Value->Shared->Prop),Q (.int (g i j) s.toks) {s with toks:=s.toks+1} ->wpAny (model X.prog X.w) X.A (f (.int i t) (.int j u)) Q E s):
  OpR X f (rI0 λi j=>.int (g i j)):=by
 intro pins s σ H x y v u Q I rx ry h
 obtain⟨i,j,rfl,rfl,q⟩:=h
 obtain⟨t,rfl⟩:=rx
 obtain⟨t',rfl⟩:=ry
 exact rule i j t t' s _ _ ⟨.int (g i j),H,I.tok _,⟨_,rfl⟩,q⟩
theorem Gm {f:Value->Value->Sem Value}{g:Int->Int->Bool}
  (rule:∀ (i j:Int) (t u:Tok) (s:Shared) (Q:Value->Shared->Prop) (E:Value->Shared->Prop),Q (.bool (g i j)) s->wpAny (model X.prog X.w) X.A (f (.int i t) (.int j u)) Q E s):
  OpR X f (rI0 λi j=>.bl (g i j)):=by
 intro pins s σ H x y v u Q I rx ry h
 obtain⟨i,j,rfl,rfl,q⟩:=h
 obtain⟨t,rfl⟩:=rx
 obtain⟨t',rfl⟩:=ry
 exact rule i j t t' s _ _ ⟨.bl (g i j),H,I,rfl,q⟩
def OA (i j:Int):Prop:=0<j/\j<1073741824
def Oz (i j:Int):Prop:=0<=j/\j<=1000000/\i.natAbs<2 ^ 64
def Fz (i j:Int):Prop:=(-(2 ^ 64)<i/\i<2 ^ 64)\/(-(2 ^ 64)<j/\j<2 ^ 64)
theorem Fz.ok {i j:Int}(h:Fz i j):IntMulOk i j:=by
 rcases h with⟨h1,h2⟩|⟨h1,h2⟩
 ·exact .of_left (intBits_le_64 h1 h2)
 ·exact .of_right (intBits_le_64 h1 h2)
theorem gH:OpR X (binaryOp .Add) (rI0 λi j=>.int (i+j)):=EC λ_ _ _ _ _ _ _ q=>add_int q
theorem vd:OpR X (binaryOp .Sub) (rI0 λi j=>.int (i-j)):=EC λ_ _ _ _ _ _ _ q=>sub_int q
theorem iL:OpR X (binaryOp .Mult) (rI Fz λi j=>.int (i*j)):=opI λ_ _ _ _ _ _ _ hc q=>mul_int q hc.ok
theorem hE:OpR X (binaryOp .FloorDiv) (rI OA λi j=>.int (i/j)):=opI λi j _ _ _ _ _ hc q=>by
 have h1:(0:Int)<j:=hc.1
 have h2:j<1073741824:=hc.2
 exact floordiv_int (by omega) (by rw[Int.fdiv_eq_ediv_of_nonneg i (by omega)];exact q) (.inl (PyProof.noPylong_small (by omega)))
theorem gE:OpR X (binaryOp .Mod) (rI (λ_ j=>0<j) λi j=>.int (i%j)):=opI λi j _ _ _ _ _ hc q=>by
 have h1:(0:Int)<j:=hc
 exact mod_int' (by omega) (by rw[Int.fmod_eq_emod_of_nonneg i (by omega)];exact q)
theorem yg:OpR X (binaryOp .Pow) (rI Oz λi j=>.int (i ^ j.toNat)):=opI λ_ _ _ _ _ _ _ hc q=>pow_int_small hc.1 hc.2.1 hc.2.2 q
theorem EA:OpR X (binaryOp .BitXor) (rI0 λi j=>.int (Builtin.bitXor i j)):=EC λ_ _ _ _ _ _ _ q=>xor_int q
theorem unI {f:Value->Sem Value}{g:Int->Int}
  (rule:∀ (i:Int) (t:Tok) (s:Shared) (Q:Value->Shared->Prop) (E:Value->Shared->Prop),Q (.int (g i) s.toks) {s with toks:=s.toks+1} ->wpAny (model X.prog X.w) X.A (f (.int i t)) Q E s):
  UnR X f (rU λi=>.int (g i)):=by
 intro pins s σ H x v Q I rx h
 obtain⟨i,rfl,q⟩:=h
 obtain⟨t,rfl⟩:=rx
 exact rule i t s _ _ ⟨.int (g i),H,I.tok _,⟨_,rfl⟩,q⟩
theorem kX:UnR X (unaryOp .USub) (rU λi=>.int (-i)):=unI λ_ _ _ _ _ q=>neg_int q
end
def FY:V->V->Bool
 |.non,.non=>true |.non,.int _=>true |.int _,.non=>true |.non,.bl _=>true |.bl _,.non=>true |.non,.str _=>true |.str _,.non=>true
 |.int _,.int _=>true |.bl _,.bl _=>true |.str _,.str _=>true |.byt _,.byt _=>true
 |.int _,.str _=>true |.str _,.int _=>true |.bl _,.str _=>true |.str _,.bl _=>true
 |_,_=>false
def rEq:R2:=λx y H Q=>FY x y=true/\Q (.bl (decide (x=y))) H
def rNe:R2:=λx y H Q=>FY x y=true/\Q (.bl (!decide (x=y))) H
theorem zB {i j:Int} :decide (V.int i=V.int j)=(i==j):=by
 rw[bR]
 simp
theorem BW {i j:Bool} :decide (V.bl i=V.bl j)=(i==j):=by
 rw[bR]
 simp
theorem zA {i j:Str} :decide (V.str i=V.str j)=(i==j):=by
 rw[bR]
 simp
theorem zC {i j:Array UInt8} :decide (V.byt i=V.byt j)=(i.toList==j.toList):=by
 rw[bR]
 cases i
 cases j
 simp
section
variable {X:Cx}{a b c:Expr}{ta tb tc:TE}{pos:Pos}
theorem gu {pins:List (Addr×Obj)}{σ:St}{H:Hp}{s:Shared}{Q:VK}{k k':Bool}(I:Inv X pins σ H s)(q:Q (.bl k) H)(e:k=k'):EP X pins σ Q (.bool k') s:=by
 subst e
 exact⟨.bl k,H,I,rfl,q⟩
theorem uk:OpR X (compareOp .Eq) rEq:=by
 intro pins s σ H x y v u Q I rx ry h
 obtain⟨hs,q⟩:=h
 cases x with
 |non=>
  cases rx
  cases y with
  |non=>cases ry;exact PySem.EqNone.eq_none_none (gu I q (by simp))
  |bl j=>cases ry;exact PySem.EqNone.eq_none_bool (gu I q (by simp))
  |int j=>obtain⟨t',rfl⟩:=ry;exact PySem.EqNone.eq_none_int (gu I q (by simp))
  |str j=>obtain⟨t',rfl⟩:=ry;exact PySem.EqNone.eq_none_str (gu I q (by simp))
  |_=>exact absurd (show false=true from hs) aI
 |bl i=>
  cases rx
  cases y with
  |non=>cases ry;exact PySem.EqNone.eq_bool_none (gu I q (by simp))
  |bl j=>cases ry;exact eq_bool (gu I q BW)
  |str j=>obtain⟨t',rfl⟩:=ry;exact PySem.EqMixed.eq_bool_str (gu I q (by simp))
  |_=>exact absurd (show false=true from hs) aI
 |int i=>
  obtain⟨t,rfl⟩:=rx
  cases y with
  |non=>cases ry;exact PySem.EqNone.eq_int_none (gu I q (by simp))
  |int j=>obtain⟨t',rfl⟩:=ry;exact eq_int (gu I q zB)
  |str j=>obtain⟨t',rfl⟩:=ry;exact PySem.EqMixed.eq_int_str (gu I q (by simp))
  |_=>exact absurd (show false=true from hs) aI
 |str i=>
  obtain⟨t,rfl⟩:=rx
  cases y with
  |non=>cases ry;exact PySem.EqNone.eq_str_none (gu I q (by simp))
  |bl j=>cases ry;exact PySem.EqMixed.eq_str_bool (gu I q (by simp))
  |int j=>obtain⟨t',rfl⟩:=ry;exact PySem.EqMixed.eq_str_int (gu I q (by simp))
  |str j=>obtain⟨t',rfl⟩:=ry;exact eq_str (gu I q zA)
  |_=>exact absurd (show false=true from hs) aI
 |byt i=>
  obtain⟨t,rfl⟩:=rx
  cases y with
  |byt j=>obtain⟨t',rfl⟩:=ry;exact PySem.W.eq_bytes (gu I q zC)
  |_=>exact absurd (show false=true from hs) aI
 |_=>cases y<;>exact absurd (show false=true from hs) aI
theorem Be:OpR X (compareOp .NotEq) rNe:=by
 intro pins s σ H x y v u Q I rx ry h
 obtain⟨hs,q⟩:=h
 cases x with
 |non=>
  cases rx
  cases y with
  |non=>cases ry;exact PySem.EqNone.ne_none_none (gu I q (by simp))
  |bl j=>cases ry;exact PySem.EqNone.ne_none_bool (gu I q (by simp))
  |int j=>obtain⟨t',rfl⟩:=ry;exact PySem.EqNone.ne_none_int (gu I q (by simp))
  |str j=>obtain⟨t',rfl⟩:=ry;exact PySem.EqNone.ne_none_str (gu I q (by simp))
  |_=>exact absurd (show false=true from hs) aI
 |bl i=>
  cases rx
  cases y with
  |non=>cases ry;exact PySem.EqNone.ne_bool_none (gu I q (by simp))
  |bl j=>cases ry;exact ne_bool (gu I q (bX not BW))
  |str j=>obtain⟨t',rfl⟩:=ry;exact PySem.EqMixed.ne_bool_str (gu I q (by simp))
  |_=>exact absurd (show false=true from hs) aI
 |int i=>
  obtain⟨t,rfl⟩:=rx
  cases y with
  |non=>cases ry;exact PySem.EqNone.ne_int_none (gu I q (by simp))
  |int j=>obtain⟨t',rfl⟩:=ry;exact ne_int (gu I q (bX not zB))
  |str j=>obtain⟨t',rfl⟩:=ry;exact PySem.EqMixed.ne_int_str (gu I q (by simp))
  |_=>exact absurd (show false=true from hs) aI
 |str i=>
  obtain⟨t,rfl⟩:=rx
  cases y with
  |non=>cases ry;exact PySem.EqNone.ne_str_none (gu I q (by simp))
  |bl j=>cases ry;exact PySem.EqMixed.ne_str_bool (gu I q (by simp))
  |int j=>obtain⟨t',rfl⟩:=ry;exact PySem.EqMixed.ne_str_int (gu I q (by simp))
  |str j=>obtain⟨t',rfl⟩:=ry;exact ne_str (gu I q (bX not zA))
  |_=>exact absurd (show false=true from hs) aI
 |byt i=>
  obtain⟨t,rfl⟩:=rx
  cases y with
  |byt j=>obtain⟨t',rfl⟩:=ry;exact PySem.W.ne_bytes (gu I q (bX not zC))
  |_=>exact absurd (show false=true from hs) aI
 |_=>cases y<;>exact absurd (show false=true from hs) aI
theorem Gj:OpR X (compareOp .Lt) (rI0 λi j=>.bl (decide (i<j))):=Gm λ_ _ _ _ _ _ _ q=>lt_int q
theorem Gk:OpR X (compareOp .LtE) (rI0 λi j=>.bl (decide (i<=j))):=Gm λ_ _ _ _ _ _ _ q=>le_int q
theorem jd (b:Expr){op:CmpOp}(h:op≠ .In:=by decide)(h2:op≠ .NotIn:=by decide):behindInMarks op b=false:=by
 have e1:(op==CmpOp.In)=false:=by cases op<;>first |rfl |exact absurd rfl h
 have e2:(op==CmpOp.NotIn)=false:=by cases op<;>first |rfl |exact absurd rfl h2
 cases b<;>simp[behindInMarks,e1,e2]
theorem pF {op:CmpOp}{r:R2}(ho:OpR X (compareOp op) r)(ha:PE X a ta)(hb:PE X b tb)(hm:behindInMarks op b=false):PE X (.Compare a [op] [b] pos) (tOp r ta tb):=by
 intro pins s σ H Q I h
 exact wpAny_Compare1 (Fq ha hb I h λv u s2 x y H2 I2 rx ry q=>ho pins s2 σ H2 x y v u Q I2 rx ry q) hm
def FJ (t:TE):TT:=λσ H Q=>t σ H λx H'=>∃ k,x = .bl k/\Q k H'
theorem gN {op:CmpOp}{r:R2}(ho:OpR X (compareOp op) r)(ha:PE X a ta)(hb:PE X b tb)(hm:behindInMarks op b=false):PT X (.Compare a [op] [b] pos) (FJ (tOp r ta tb)):=by
 intro pins s σ H Q I h
 refine wpAny_isTrue_Compare1 (thn (ha pins s σ H _ I h) λv s1 ⟨x,H1,I1,r1,q1⟩=>thn (hb pins s1 σ H1 _ I1 q1) λu s2 ⟨y,H2,I2,r2,q2⟩=>
  thn (ho pins s2 σ H2 x y v u _ I2 r1 r2 q2) λc s3 ⟨z,H3,I3,r3,k,e,q3⟩=>?_) hm
 subst e
 cases r3
 exact cq ⟨H3,I3,q3⟩
def Ej (r r':R2)(ta tb tc:TE):TE:=λσ H Q=>ta σ H λx H1=>tb σ H1 λy H2=>r x y H2 λz H3=>∃ k,z = .bl k/\
 (if k=true then tc σ H3 λw' H4=>r' y w' H4 Q else Q (.bl false) H3)
theorem A9 {op op':CmpOp}{r r':R2}(ho:OpR X (compareOp op) r)(ho':OpR X (compareOp op') r')(ha:PE X a ta)(hb:PE X b tb)(hc:PE X c tc)
  (hm:lastMarks [op,op'] [b,c]=false:=by with_unfolding_all rfl):PE X (.Compare a [op,op'] [b,c] pos) (Ej r r' ta tb tc):=by
 intro pins s σ H Q I h
 refine Compare_chain (thn (ha pins s σ H _ I h) λv s1 ⟨x,H1,I1,r1,q1⟩=>chain_link (thn (hb pins s1 σ H1 _ I1 q1) λu s2 ⟨y,H2,I2,r2,q2⟩=>
  thn (ho pins s2 σ H2 x y v u _ I2 r1 r2 q2) λd s3 ⟨z,H3,I3,r3,k,e,q3⟩=>?_)) hm
 subst e
 cases r3
 refine cq ?_
 cases k with
 |false=>exact ite_ff ⟨.bl false,H3,I3,rfl,q3⟩
 |true=>exact ite_tt (chain_last (thn (hc pins s3 σ H3 _ I3 q3) λw' s4 ⟨z',H4,I4,r4,q4⟩=>ho' pins s4 σ H4 y z' u w' Q I4 r2 r4 q4))
def Hl (K:PySem.W.Frag)(x:V)(H:Hp)(k:Bool):Prop:=
 match x with
 |.non=>k=false
 |.bl b=>k=b
 |.int i=>k=(i !=0)
 |.str y=>y.length<=sizeLine/\k=((y.length:Int) !=0)
 |.byt y=>y.size<=sizeLine/\k=((y.size:Int) !=0)
 |.ref p=>(∃ xs,SqL K H p xs/\k = !xs.isEmpty)\/(∃ xs,SqT K H p xs/\k = !xs.isEmpty)\/∃ kvs,H p=some (.dK kvs)/\k = !kvs.isEmpty
 |_=>False
theorem yt {κ:Type}{kvs:List (κ×V)}{vs:List (κ×Value)}(r:KV kvs vs):(!vs.isEmpty) = !kvs.isEmpty:=by
 cases r<;>rfl
theorem sH {xs:List V}{its:List Value}(r:Vals xs its):(!its.toArray.isEmpty) = !xs.isEmpty:=by
 cases r<;>simp
theorem sE:(sizeLine:Nat)<2 ^ 63:=by rw[dD];decide
theorem Ed:Ov X (λx H Q=>∃ k,Hl X.K x H k/\Q k H):=by
 intro pins s σ H x v Q I rx h
 obtain⟨k,e,q⟩:=h
 have hl:=sE
 have hs:sizeLine=16777216:=dD
 cases x with
 |non=>
  cases rx
  have e':k=false:=e
  subst e'
  exact truthy_none ⟨H,I,q⟩
 |bl b=>
  cases rx
  have e':k=b:=e
  subst e'
  exact cq ⟨H,I,q⟩
 |int i=>
  obtain⟨t,rfl⟩:=rx
  have e':k=(i !=0):=e
  subst e'
  exact PySem.P.truthy_int ⟨H,I,q⟩
 |str y=>
  obtain⟨t,rfl⟩:=rx
  obtain⟨hy,e'⟩:y.length<=sizeLine/\k=((y.length:Int) !=0):=e
  subst e'
  exact PySem.P.truthy_str (by omega) ⟨H,I.tok _,q⟩
 |byt y=>
  obtain⟨t,rfl⟩:=rx
  obtain⟨hy,e'⟩:y.size<=sizeLine/\k=((y.size:Int) !=0):=e
  subst e'
  exact PySem.W.truthy_bytes (by omega) ⟨H,I.tok _,q⟩
 |ref p=>
  cases rx
  have e':(∃ xs,SqL X.K H p xs/\k = !xs.isEmpty)\/(∃ xs,SqT X.K H p xs/\k = !xs.isEmpty)\/∃ kvs,H p=some (.dK kvs)/\k = !kvs.isEmpty:=e
  rcases e' with⟨xs,hx,e'⟩|⟨xs,hx,e'⟩|⟨kvs,hx,e'⟩
  ·subst e'
   obtain⟨its,r,pl,hz⟩:=I.list hx
   have hlen:=r.length
   exact wpAny_truthy_list pl.isList (by simp only[aJ];omega) ⟨H,I.tok _,by rw[sH r];exact q⟩
  ·subst e'
   obtain⟨its,r,pl,hz⟩:=I.tuple hx
   have hlen:=r.length
   exact truthy_tuple pl (by simp only[aJ];omega) ⟨H,I.tok _,by rw[sH r];exact q⟩
  ·subst e'
   obtain⟨hz,hS,vs,r,m⟩:kvs.length<=sizeLine/\(p==sysModules)=false/\∃ vs,KV kvs vs/\s.heap.DictOf (gq X.prog X.w) p vs:=I.hok p _ hx
   have hlen:kvs.length=vs.length:=bT r
   exact wpAny_truthy_dict hS m (by omega) ⟨H,I.tok _,by rw[yt r];exact q⟩
 |_=>exact(show False from e).elim
theorem wF (ha:PE X a ta)(he:∀ whole,isTrue a X.env whole=(do let v <-whole;standAt a.pos;holding [v] (truthy v))):
  PT X a (λσ H Q=>ta σ H λx H'=>∃ k,Hl X.K x H' k/\Q k H'):=by
 intro pins s σ H Q I h
 exact isTrue_plain (thn (ha pins s σ H _ I h) λv s1 ⟨x,H1,I1,r1,q1⟩=>Ed pins s1 σ H1 x v Q I1 r1 q1) (he _)
theorem vals1 {x:V}{us:List Value}(r:Vals [x] us):∃ u,us = [u]/\RelV x u:=by
 cases r with
 |cons r1 r2=>cases r2;exact⟨_,rfl,r1⟩
theorem vals2 {x y:V}{us:List Value}(r:Vals [x,y] us):∃ u w',us = [u,w']/\RelV x u/\RelV y w':=by
 cases r with
 |cons r1 r2=>
  cases r2 with
  |cons r3 r4=>cases r4;exact⟨_,_,rfl,r1,r3⟩
theorem kQ (hc:X.calm=true):mO X (.builtin "max") (λxs H Q=>∃ i j,xs = [.int i,.int j]/\Q (.int (if j>i then j else i)) H):=by
 intro pins s σ H xs us Q I r h
 obtain⟨i,j,rfl,q⟩:=h
 obtain⟨u,w',rfl,⟨t,rfl⟩,⟨t',rfl⟩⟩:=vals2 r
 refine max_two_ints (I.ok.hd hc) λh' tk k=>⟨_,H,I.kept k,?_,q⟩
 by_cases hj:j>i
 ·rw[aL hj,aL hj];exact⟨_,rfl⟩
 ·rw[aH hj,aH hj];exact⟨_,rfl⟩
theorem mF (hc:X.calm=true):mO X (.builtin "min") (λxs H Q=>∃ i j,xs = [.int i,.int j]/\Q (.int (if j<i then j else i)) H):=by
 intro pins s σ H xs us Q I r h
 obtain⟨i,j,rfl,q⟩:=h
 obtain⟨u,w',rfl,⟨t,rfl⟩,⟨t',rfl⟩⟩:=vals2 r
 refine min_two_ints (I.ok.hd hc) λh' tk k=>⟨_,H,I.kept k,?_,q⟩
 by_cases hj:j<i
 ·rw[aL hj,aL hj];exact⟨_,rfl⟩
 ·rw[aH hj,aH hj];exact⟨_,rfl⟩
end
section
variable {prog:Program}{w:World}{A:Around}{E:Value->Shared->Prop}{s:Shared}{K:PySem.W.Frag}{x dx C f:Addr}{mA:Str->Option Value}{name:Str}{v:Value}
end
theorem qQ.some_of {v:V}{o:Option Value}(r:qQ (some v) o):∃ u,o=some u/\RelV v u:=by
 cases o with
 |none=>exact(show False from r).elim
 |some u=>exact⟨u,rfl,r⟩
section
variable {P:Program}{w:World}{H H':Hp}{h h':Heap}{a C dx:Addr}{fs fs':List (Str×V)}
end
section
variable {X:Cx}{pins:List (Addr×Obj)}{σ:St}{H:Hp}{s:Shared}{a C dx:Addr}{fs:List (Str×V)}{f:Str}{v:V}{A:Around}{E:Value->Shared->Prop}
end
section
variable {X:Cx}{o e value:Expr}{f:Str}{pos pos' FG:Pos}{ta tv:TE}
end
section
variable {X:Cx}{pins:List (Addr×Obj)}{σ:St}{H:Hp}{s:Shared}{A:Around}{E:Value->Shared->Prop}{Q:Value->Shared->Prop}{c:Value}{b:Bool}
end
structure mH (k:Nat)(A:Around):Prop where
 hd:A.handled=none
 dp:A.depth+3*k+5<recursionLimit
 un:A.units+16*k+200<cLine
theorem mH.mono {j k:Nat}{A:Around}(r:mH k A)(h:j<=k):mH j A:=⟨r.hd,by have:=r.dp;omega,by have:=r.un;omega⟩
theorem mH.deeper {k:Nat}{A:Around}(r:mH (k+1) A)(env:Env):mH k (A.deeper env):=
 ⟨r.hd,by have:=r.dp;show A.depth+1+3*k+5<_;omega,by have:=r.un;show A.units+3+16*k+200<_;omega⟩
theorem mH.depth {k:Nat}{A:Around}(r:mH k A):A.depth<recursionLimit:=by have:=r.dp;omega
theorem mH.units {k:Nat}{A:Around}(r:mH k A):A.units+64<cLine:=by have:=r.un;omega
def Hz:TA:=λ_ H Q=>Q [] H
def FT (ta:TE)(tr:TA):TA:=λσ H Q=>ta σ H λx H1=>tr σ H1 λxs H2=>Q (x::xs) H2
section
variable {X:Cx}{e:Expr}{es:List Expr}{te:TE}{t:TA}{pos:Pos}
theorem eI:PA X [] Hz:=λ_ _ _ _ H Q I h=>Calls.spliced_nil ⟨[],H,I,.nil,h⟩
theorem eD (ha:PE X e te)(hr:PA X es t)(hs:starEach (e::es) X.env=(false,eval e X.env)::starEach es X.env:=by rfl):PA X (e::es) (FT te t):=by
 intro pos pins s σ H Q I h
 rw[hs]
 show wpAny _ _ (spliced ((false,eval e X.env)::backTo pos (starEach es X.env))) _ _ s
 refine Calls.spliced_cons (thn (ha pins s σ H _ I h) λu s1 ⟨x,H1,I1,r1,q1⟩=>?_)
 exact thn (hr pos pins s1 σ H1 _ I1 q1) λus s2 ⟨xs,H2,I2,r2,q2⟩=>⟨x::xs,H2,I2,.cons r1 r2,q2⟩
def Hu (t:TA):TE:=λσ H Q=>t σ H λxs H1=>xs.length<=sizeLine/\∀ p,H1 p=none->Q (.ref p) (upd H1 p (.tup xs))
def HB (t:TA):TE:=λσ H Q=>t σ H λxs H1=>xs.length<=sizeLine/\∀ p,H1 p=none->Q (.ref p) (upd H1 p (.lst xs))
theorem fC {x1}(h:PA X es t):PE X (.Tuple es x1 pos) (Hu t):=by
 intro pins s σ H Q I hq
 refine wpAny_Tuple_spliced (thn (h pos pins s σ H _ I hq) λus s1 ⟨xs,H1,I1,r,z,q⟩=>⟨by rw[<-r.length];exact z,?_⟩)
 have hf:H1 s1.heap.objs.size=none:=I1.hok.fresh (av _)
 refine⟨.ref s1.heap.objs.size,upd H1 s1.heap.objs.size (.tup xs),I1.laid (t':=s1.toks) (λb u e=>aB _ e) (av _) ?_,rfl,q _ hf⟩
 exact⟨z,us,r,⟨_,aN _ rfl,rfl,_,rfl⟩⟩
theorem gj (h:PA X es t):PE X (.List es pos) (HB t):=by
 intro pins s σ H Q I hq
 refine wpAny_List_spliced (thn (h pos pins s σ H _ I hq) λus s1 ⟨xs,H1,I1,r,z,q⟩=>⟨by rw[<-r.length];exact z,?_⟩)
 have hf:H1 s1.heap.objs.size=none:=I1.hok.fresh (av _)
 refine⟨.ref s1.heap.objs.size,upd H1 s1.heap.objs.size (.lst xs),I1.laid (t':=s1.toks) (λb u e=>aB _ e) (av _) ?_,rfl,q _ hf⟩
 exact⟨z,us,0,r,aN _ rfl⟩
end
abbrev Sp:=List V->Hp->VK->XK->Prop
abbrev CXT:=List Env->Hp->Shared->XK->Value->Shared->Prop
structure DC (P:Program)(w:World)(K:PySem.W.Frag)(mg:Str->Option Value)(base:Heap)(A:Around)(outer:List Env)(s:Shared)(H:Hp):Prop where
 frames:A.frames=some outer
 mod:Mod K mg base
 bs:∀ b o,base.get? b=some o->s.heap.get? b=some o/\H b=none
 bsz:base.objs.size<=s.heap.objs.size
 sQ:s.heap.FunFrames base outer
 frf:∀ b∈frs outer,H b=none
 hok:HOk P w H s.heap
 bare:AllBare s.gens
def CE (outer:List Env)(P:Program)(w:World)(H:Hp)(s:Shared)(Q:VK)(u:Value)(s':Shared):Prop:=
 ∃ v H',s'.os=s.os/\AllBare s'.gens/\Un (frs outer) [] H H' s.heap s'.heap/\HOk P w H' s'.heap/\RelV v u/\Q v H'
def CR (CX:CXT)(outer:List Env)(P:Program)(w:World)(H:Hp)(s:Shared)(Q:VK)(E:XK)(r:Result)(s':Shared):Prop:=
 match r with
 |.ok (.ret u)=>CE outer P w H s Q u s'
 |.ok _=>False
 |.error e=>CX outer H s E e s'
structure eY (P:Program)(w:World)(K:PySem.W.Frag)(mg:Str->Option Value)(base:Heap)(CX:CXT)(k:Nat)(f:Addr)(fd:FuncData)(ps:List Str)(sp:Sp):Prop where
 len:∀ vs H Q E,sp vs H Q E->vs.length=ps.length
 run:∀ (A:Around) (outer:List Env) (s:Shared) (H:Hp) (args:Args) (us:List Value) (vs:List V) (Q:VK) (E:XK),mH k A->DC P w K mg base A outer s H->BindsTo s fd args (ps.zip us)->Vals vs us->sp vs H Q E->
  codeAny (model P w) A (.call (.ref f) args) (CR CX outer P w H s Q E) s
section
variable {X:Cx}{pins:List (Addr×Obj)}{σ:St}{H:Hp}{s s':Shared}
theorem Inv.LN (I:Inv X pins σ H s):DC X.prog X.w X.K X.mg X.base X.A X.stack s H:=
 ⟨I.ok.frames,I.ok.mod,I.bs,bz I.ok.bsz I.sz,I.stack,I.uI,I.hok,I.bare⟩
theorem Inv.after {Q:VK}{u:Value}(I:Inv X pins σ H s)(h:CE X.stack X.prog X.w H s Q u s'):EP X pins σ Q u s':=by
 obtain⟨v,H',os,bare,un,hok,r,q⟩:=h
 obtain⟨hh,g,d,t,os'⟩:=s'
 obtain rfl:os'=s.os:=os
 exact⟨v,H',I.call (h':=hh) (g':=g) (d':=d) (t':=t) (ch:=[]) un hok bare (λb z=>absurd z (by simp)),r,q⟩
end
def FU (sp:Sp)(dvs:List V)(E:XK)(t:TA):TE:=λσ H Q=>t σ H λvs H1=>sp (vs++dvs) H1 Q E
def Binds (K:PySem.W.Frag)(fd:FuncData)(ps:List Str)(ds:List Value):Prop:=
 ∀ (s:Shared) (us:List Value),K.In s.heap->(us++ds).length=ps.length->BindsTo s fd ⟨us,[]⟩ (ps.zip (us++ds))
theorem Binds.all {K:PySem.W.Frag}{fd:FuncData}{ps:List Str}(h:∀ us:List Value,us.length=ps.length->bindArgs fd ⟨us,[]⟩=pure (ps.zip us)):Binds K fd ps []:=λs us _ hl=>by
 rw[cM]at hl ⊢
 exact .of_eq (h us hl)
def Passes (CX:CXT)(X:Cx)(E:XK):Prop:=∀ (pins:List (Addr×Obj)) (σ:St) (H:Hp) (s:Shared) (e:Value) (s':Shared),Inv X pins σ H s->CX X.stack H s E e s'->X.xe e s'
section
variable {X:Cx}{CX:CXT}{k:Nat}{f C:Addr}{fd:FuncData}{ps:List Str}{sp:Sp}{dvs:List V}{ds:List Value}{E:XK}{x m:Str}{p pos apos:Pos}{e o:Expr}{es:List Expr}{ta:TE}{t:TA}
theorem Em {pins:List (Addr×Obj)}{σ:St}{H:Hp}{s:Shared}{Q:VK}{us:List Value}{vs:List V}(F:eY X.prog X.w X.K X.mg X.base CX k f fd ps sp)(hr:mH k X.A)(hb:Binds X.K fd ps ds)(hd:Vals dvs ds)(hx:Passes CX X E)
  (I:Inv X pins σ H s) (r:Vals vs us) (h:sp (vs++dvs) H Q E):wpAny (model X.prog X.w) X.A (call (.ref f) us) (EP X pins σ Q) X.xe s:=by
 have r2:Vals (vs++dvs) (us++ds):=r.append hd
 have hl:(us++ds).length=ps.length:=by rw[<-r2.length];exact F.len _ _ _ _ h
 refine wpAny_call (codeAny_mono (F.run X.A X.stack s H ⟨us,[]⟩ (us++ds) (vs++dvs) Q E hr I.LN (hb s us I.kIn hl) r2 h) λr s' hq=>?_)
 cases r with
 |error e=>exact hx pins σ H s e s' I hq
 |ok fl=>
  cases fl with
  |ret u=>exact I.after hq
  |next=>exact False.elim hq
  |brk=>exact False.elim hq
  |cont=>exact False.elim hq
theorem eO (F:eY X.prog X.w X.K X.mg X.base CX k f fd ps sp)(hr:mH k X.A)(hg:Gl X x)(hm:X.mg x=some (.ref f))(hk:PySem.W.keepIn X.K (.ref f)=true)(hb:Binds X.K fd ps ds)(hd:Vals dvs ds)(hx:Passes CX X E)
  (ha:PA X (e::es) t) (hdb:(x==("__debug__" :Str))=false:=by decide) (he:starEach (e::es) X.env=(false,eval e X.env)::starEach es X.env:=by rfl) (hpl:(backTo pos (starEach es X.env)).any (·.1)=false:=by rfl):
  PE X (.Call (.Name x p) (e::es) [] pos) (FU sp dvs E t):=by
 intro pins s σ H Q I h
 refine wpAny_Call_Name_kw (qY I hg hm ?_ hdb)
 refine PySem.W.callWith_K (h₀:=X.base) I.ok.mod.kin hk (thn (ha pos pins s σ H _ I h) λus s1 ⟨vs,H1,I1,r,q⟩=>⟨I1.kIn,?_⟩) he hpl
 exact Em F hr hb hd hx I1 r q
end
section
variable {X:Cx}{CX:CXT}{k:Nat}{f C:Addr}{fd:FuncData}{ps ks:List Str}{sp:Sp}{E:XK}{x m:Str}{p pos apos OG:Pos}{e o:Expr}{es:List Expr}{kws:List Keyword}{te ta:TE}{t tk:TA}{nm:Option Str}
variable {g:List Value->List Value->List Value}{gV:List V->List V->List V}
end
structure fk (N P:List Str)(sc:Scope):Prop where
 kind:sc.kind = .function
 co:sc.isCoroutine=false
 gen:sc.isGenerator=false
 nd:N.Nodup
 pre:N.take P.length=P
 par:∀ x∈P,sc.names.lookup x=some .local\/sc.names.lookup x=some .cell
 EJ:∀ y∈sc.names,y.2≠ .free
theorem uz {kindOf:Str->Option NameKind}{x:Str} :∀ {binds:List (Str×Value)}{m:Str->Option Value},(∀ v,(x,v)∉binds)->bindL kindOf binds m x=m x
 |[],_,_=>rfl
 |(n,v)::r,m,h=>by
  unfold bindL
  rw[uz λw hw=>h w (aA _ hw)]
  split
  ·have:x≠n:=by rintro rfl;exact h v aC
   simp[this]
  ·rfl
theorem uB {kindOf:Str->Option NameKind}{x:Str} :∀ {binds:List (Str×Value)}{m:Str->Option Value},(∀ v,(x,v)∉binds)->bindC kindOf binds m x=m x
 |[],_,_=>rfl
 |(n,v)::r,m,h=>by
  unfold bindC
  rw[uB λw hw=>h w (aA _ hw)]
  split
  ·rfl
  ·have:x≠n:=by rintro rfl;exact h v aC
   simp[this]
theorem uA {kindOf:Str->Option NameKind}{x:Str}{v:Value} :∀ {P:List Str}{vs:List Value}{i:Nat}{m:Str->Option Value},P.Nodup->P[i]? = some x->vs[i]? = some v->kindOf x=some .local->
  bindL kindOf (P.zip vs) m x=some v
 |[],_,_,_,_,h,_,_=>by simp at h
 |_::_,[],_,_,_,_,h,_=>by simp at h
 |p::P,w::vs,0,m,nd,h1,h2,hk=>by
  simp at h1 h2;subst h1;subst h2
  show bindL kindOf ((p,w)::P.zip vs) m p=_
  unfold bindL
  rw[uz λv hv=>(bL.mp nd).1 (List.of_mem_zip hv).1,aL hk]
  simp
 |p::P,w::vs,i+1,m,nd,h1,h2,hk=>by
  show bindL kindOf ((p,w)::P.zip vs) m x=_
  unfold bindL
  exact uA (i:=i) (bL.mp nd).2 (by simpa using h1) (by simpa using h2) hk
theorem uC {kindOf:Str->Option NameKind}{x:Str}{v:Value} :∀ {P:List Str}{vs:List Value}{i:Nat}{m:Str->Option Value},P.Nodup->P[i]? = some x->vs[i]? = some v->kindOf x≠some .local->
  bindC kindOf (P.zip vs) m x=some v
 |[],_,_,_,_,h,_,_=>by simp at h
 |_::_,[],_,_,_,_,h,_=>by simp at h
 |p::P,w::vs,0,m,nd,h1,h2,hk=>by
  simp at h1 h2;subst h1;subst h2
  show bindC kindOf ((p,w)::P.zip vs) m p=_
  unfold bindC
  rw[uB λv hv=>(bL.mp nd).1 (List.of_mem_zip hv).1,aH hk]
  simp
 |p::P,w::vs,i+1,m,nd,h1,h2,hk=>by
  show bindC kindOf ((p,w)::P.zip vs) m x=_
  unfold bindC
  exact uC (i:=i) (bL.mp nd).2 (by simpa using h1) (by simpa using h2) hk
def start (N:List Str)(vs:List V):St:=vs.map some++List.replicate (N.length-vs.length) none
def vH (CX:CXT)(P:Program)(w:World)(K:PySem.W.Frag)(mg:Str->Option Value)(base:Heap)(N:List Str)(qual:Str)(scope:Scope)(f:Addr)(cd:Value)(A:Around)(outer:List Env)(s:Shared)(H:Hp)(E:XK):Cx where
 prog:=P
 w:=w
 K:=K
 mg:=mg
 base:=base
 A:=A.deeper (envOfC qual scope s.heap.objs.size f cd)
 N:=N
 s₀:=s
 H₀:=H
 env:=envOfC qual scope s.heap.objs.size f cd
 outer:=outer
 stack:=envOfC qual scope s.heap.objs.size f cd::outer
 ex:=[]
 calm:=true
 fn:=λ_=>true
 pn:=[]
 xe:=λe s'=>wpAny (model P w) (A.deeper (envOfC qual scope s.heap.objs.size f cd)) (leaving (envOfC qual scope s.heap.objs.size f cd) e) (λ_ s''=>CX outer H s E e s'') (λe' s''=>CX outer H s E e' s'') s'
theorem xF {sc:Scope}{n:Nat}{x:Str}(h:sc.names.lookup x=some .cell):∃ c,(cellsFrom n sc.names []).lookup x=some c:=by
 have q:=PySem.W.cellsFrom_some sc.names n [] (.inl h)
 exact cC.mp q
theorem Ap {CX:CXT}{P:Program}{w:World}{K:PySem.W.Frag}{mg:Str->Option Value}{base:Heap}{N ps:List Str}{qual:Str}{scope:Scope}{f:Addr}{cd:Value}{A:Around}{outer:List Env}{s s1:Shared}{H:Hp}{E:XK}{us:List Value}{vs:List V}
  (S:fk N ps scope) (hd:A.handled=none) (e0:DC P w K mg base A outer s H) (hl:vs.length=ps.length) (r:Vals vs us)
  (x:InCallC s s.heap.objs.size (bindL (envOfC qual scope s.heap.objs.size f cd).kindOf (ps.zip us) λ_=>none) (cellsFrom (s.heap.objs.size+1) scope.names []) (bindC (envOfC qual scope s.heap.objs.size f cd).kindOf (ps.zip us) λ_=>none) s1):
  Inv (vH CX P w K mg base N qual scope f cd A outer s H E) [] (start N vs) H s1:=by
 have hpl:ps.length<=N.length:=by have:=bX List.length S.pre;rw[bj]at this;omega
 obtain⟨h1,tk,rfl,hk⟩:=x.done
 have noA:∀ b:Addr,b∉(vH CX P w K mg base N qual scope f cd A outer s H E).ex:=λb z=>absurd (show b∈([]:List Addr) from z) (by simp)
 refine⟨⟨e0.mod,S.kind,rfl,rfl,av _,λy z c h1 h2=>?_,λy hy=>?_,λy c _ h=>?_,λ_=>hd,Around.frames_deeper e0.frames,.inr ⟨rfl,rfl⟩,λb z=>absurd z (noA b),e0.bs,e0.bsz,λb _ _=>noA b,λb z=>absurd z (noA b),e0.sQ,e0.frf⟩,
  rfl,e0.bare,Un.kept hk,⟨_,x.toInCall.ns,λi y v h1 h2 h3=>?_⟩,λy c h=>⟨_,x.cell y c h⟩,e0.hok.fresh (av _),λy c h=>?_,λp hp=>absurd (show p∈([]:List (Addr×Obj)) from hp) (by simp),e0.hok.kept hk,?_⟩
 ·exact name_of_addr x.apart (cg h1) (cg h2)
 ·have hy:scope.names.lookup y=some .cell\/scope.names.lookup y=some .free:=hy
  rcases hy with hy |hy
  ·exact xF hy
  ·exact absurd rfl (S.EJ _ (cg hy))
 ·exact bI (x.above y c (cg h))
 ·have hi:i<vs.length:=by
   unfold start at h2
   by_cases hi:i<vs.length
   ·exact hi
   ·rw[aw (by simpa using hi)]at h2
    rw[List.getElem?_replicate]at h2
    split at h2<;>cases h2
  have ha:vs[i]? = some v:=by
   unfold start at h2
   rw[aj (by simpa using hi),aq]at h2
   cases e:vs[i]? with
   |none=>rw[e]at h2;cases h2
   |some a=>rw[e]at h2;cases h2;rfl
  obtain⟨u,hu,rv⟩:=r.get ha
  have hp:ps[i]? = some y:=by
   rw[<-S.pre,List.getElem?_take_of_lt (by omega)];exact h1
  have ndP:ps.Nodup:=by rw[<-S.pre];exact S.nd.sublist (List.take_sublist _ _)
  refine⟨u,rv,?_⟩
  rcases S.par y (ay hp)with k |k
  ·exact .inl ⟨k,uA ndP hp hu k⟩
  ·obtain⟨c,e⟩:=xF (n:=s.heap.objs.size+1) k
   refine .inr ⟨.inl k,c,e,?_⟩
   have q:=x.cell y c e
   rw[uC ndP hp hu (by show scope.names.lookup y≠_;rw[k];decide)]at q
   exact q
 ·exact e0.hok.fresh (bI (x.above y c (cg h)))
 ·unfold start
  show _=N.length
  rw[ai,aa,List.length_replicate]
  omega
theorem DS {CX:CXT}{P:Program}{w:World}{K:PySem.W.Frag}{mg:Str->Option Value}{base:Heap}{k:Nat}{f:Addr}{name qual:Str}{params:Arguments}{body:List Stmt}{scope:Scope}{dV kV doc pm cdv ct oc:Value}{an od:Option Addr}
  {osl:Array (Option Value)}{N ps:List Str}{sp:Sp} (lk:K.lookup f=some ⟨oc,od,.func (PySem.W.fnOf name qual params body scope dV kV doc pm an cdv ct),osl⟩) (hcd:PySem.W.codeIn K cdv qual=true) (S:fk N ps scope)
  (len:∀ vs H Q E,sp vs H Q E->vs.length=ps.length)
  (xk:∀ (A:Around) (outer:List Env) (s:Shared) (H:Hp) (vs:List V) (Q:VK) (E:XK),mH k (A.deeper (envOfC qual scope s.heap.objs.size f cdv))->sp vs H Q E->
   ∃ t,PSs (vH CX P w K mg base N qual scope f cdv A outer s H E) body t/\t {nx:=λ_ H'=>Q .non H',rt:=Q} (start N vs) H):
  eY P w K mg base CX (k+1) f (PySem.W.fnOf name qual params body scope dV kV doc pm an cdv ct) ps sp:=by
 refine⟨len,λA outer s H args us vs Q E hr e0 hb r hsp=>?_⟩
 have hl:=len _ _ _ _ hsp
 have KX:K.In s.heap:=e0.mod.kin.keeps λb o e=>(e0.bs b o e).1
 have lim:s.heap.NoLimit:=e0.mod.nolimit.keeps λb o e=>(e0.bs b o e).1
 have GN:∀ y∈ps.zip us,scope.names.lookup y.1=some .local\/(scope.names.lookup y.1=some .cell/\((cellsFrom (s.heap.objs.size+1) scope.names []).lookup y.1).isSome=true):=λ⟨n,v⟩ hy=>by
  rcases S.par n (List.of_mem_zip hy).1 with q |q
  ·exact .inl q
  ·exact .inr ⟨q,PySem.W.cellsFrom_some _ _ _ (.inl q)⟩
 refine codeAny_call_function hr.depth (KX _ _ lk) rfl S.co S.gen rfl (PySem.W.codeRec_of KX hcd) (hb _ _ _ _ ?_)
 refine wpAny_newFunctionEnv_cells S.kind GN λenv he s1 x=>?_
 subst he
 refine⟨lim.keeps x.toInCall.keep,codeAny_func ?_⟩
 obtain⟨t,ht,hq⟩:=xk A outer s H vs Q E (hr.deeper _) hsp
 have I:Inv (vH CX P w K mg base N qual scope f cdv A outer s H E) [] (start N vs) H s1:=Ap S hr.hd e0 hl r x
 refine br (ht [] s1 (start N vs) H _ I hq) (λfl s' hs=>?_) λe s' hs=>hs
 have fin:∀ {σ':St}{H':Hp}{v:V}{u:Value},Inv (vH CX P w K mg base N qual scope f cdv A outer s H E) [] σ' H' s'->RelV v u->Q v H'->CE outer P w H s Q u s':=
  λ{σ' H' v u} J rv q=>⟨v,H',J.os,J.bare,J.base,J.hok,rv,q⟩
 cases fl with
 |ret u=>
  obtain⟨v,σ',H',J,rv,q⟩:=hs
  exact fin J rv q
 |next=>
  obtain⟨σ',H',J,q⟩:=hs
  exact fin (v:=V.non) (u:=Value.none) J rfl q
 |brk=>
  obtain⟨_,_,_,q⟩:=hs
  exact False.elim q
 |cont=>
  obtain⟨_,_,_,q⟩:=hs
  exact False.elim q
section
variable {X:Cx}{x:Str}{p pos:Pos}{e:Expr}{es:List Expr}{t:TA}{id T:String}{r:List V->Hp->VK->Prop}
def tCB (r:List V->Hp->VK->Prop)(t:TA):TE:=λσ H Q=>t σ H λvs H1=>r vs H1 Q
theorem fm (hc:mO X (.builtin id) r)(hg:Gl X x)(hm:X.mg x=none)(hv:bootBuiltins x=some (.builtin id))(ha:PA X (e::es) t)(hn:x≠ "__name__" :=by decide)(hdb:(x==("__debug__" :Str))=false:=by decide)
  (he:starEach (e::es) X.env=(false,eval e X.env)::starEach es X.env:=by rfl) (hpl:(backTo pos (starEach es X.env)).any (·.1)=false:=by rfl):PE X (.Call (.Name x p) (e::es) [] pos) (tCB r t):=by
 intro pins s σ H Q I h
 refine wpAny_Call_Name_kw (oX I hg hm hv ?_ hn hdb)
 exact PyProof.Rows.callWith_builtin1 (thn (ha pos pins s σ H _ I h) λus s1 ⟨vs,H1,I1,r1,q1⟩=>hc pins s1 σ H1 vs us Q I1 r1 q1) he hpl
theorem fL (hc:mO X (.type T) r)(hg:Gl X x)(hm:X.mg x=none)(hv:bootBuiltins x=some (.type T))(ha:PA X (e::es) t)(hn:x≠ "__name__" :=by decide)(hdb:(x==("__debug__" :Str))=false:=by decide)
  (he:starEach (e::es) X.env=(false,eval e X.env)::starEach es X.env:=by rfl) (hpl:(backTo pos (starEach es X.env)).any (·.1)=false:=by rfl):PE X (.Call (.Name x p) (e::es) [] pos) (tCB r t):=by
 intro pins s σ H Q I h
 refine wpAny_Call_Name_kw (oX I hg hm hv ?_ hn hdb)
 exact bU (thn (ha pos pins s σ H _ I h) λus s1 ⟨vs,H1,I1,r1,q1⟩=>hc pins s1 σ H1 vs us Q I1 r1 q1) he hpl
end
end L2
namespace HT
open PySem PyProof.Rows
section
open PySem.SeqAt
open PySem.AutoSeq1 (wpAny_loadPart')
open PySem.MeetsSeq PySem.MeetsSeq2 PySem.MeetsSeq3
end
section
variable {prog:Program}{w:World}{A:Around}{E:Value->Shared->Prop}{s:Shared}
def sIx (n d:Nat):Option Int->Nat
 |none=>d
 |some v=>if v<0 then(v+(n:Int)).toNat else min v.toNat n
theorem pD (n d:Nat):sIx n d none=d:=rfl
theorem uU (n d k:Nat):sIx n d (some (k:Int))=min k n:=by
 show(if(k:Int)<0 then((k:Int)+(n:Int)).toNat else min (k:Int).toNat n)=min k n
 rw[aH (by omega),dy]
theorem Dv (v:Int)(n d:Nat):(if v<0 then max (v+(n:Int)) 0 else min v (n:Int))=((sIx n d (some v):Nat):Int):=by
 show(if v<0 then max (v+(n:Int)) 0 else min v (n:Int))=(((if v<0 then(v+(n:Int)).toNat else min v.toNat n):Nat):Int)
 by_cases hv:v<0
 ·simp only[aL hv];omega
 ·simp only[aH hv];omega
end
end HT
namespace L2
open PySem PySem.Spec PyProof.Rows
abbrev TO:=St->Hp->(Option Int->Hp->Prop)->Prop
def PO (X:Cx)(e:Option Expr)(t:TO):Prop:=
 ∀ (pins:List (Addr×Obj)) (s:Shared) (σ:St) (H:Hp) (Q:Option Int->Hp->Prop),Inv X pins σ H s->t σ H Q->
  wpAny (model X.prog X.w) X.A (evalPart e X.env) (λu s'=>∃ o H',Inv X pins σ H' s'/\IsPart u o/\Q o H') X.xe s
def Cv:TO:=λ_ H Q=>Q none H
def FK (t:TE):TO:=λσ H Q=>t σ H λx H1=>∃ i,x = .int i/\Q (some i) H1
theorem intsAre_of {ns:List Int} :∀ {us:List Value},Vals (ns.map V.int) us->IntsAre us ns:=by
 induction ns with
 |nil=>intro us r;rw[List.map_nil]at r;cases r;exact .nil
 |cons n ns ih=>
  intro us r
  rw[aQ]at r
  cases r with
  |cons r1 r2=>
   obtain⟨t,e⟩:=r1
   subst e
   exact .cons n t (ih r2)
section
variable {X:Cx}{e:Expr}{te:TE}{lo hi:Option Expr}{tl th:TO}{pos p2:Pos}
theorem j7:PO X none Cv:=by
 intro pins s σ H Q I h
 rw[evalPart_none]
 exact ao ⟨none,H,I,.none,h⟩
theorem jH (h:PE X e te):PO X (some e) (FK te):=by
 intro pins s σ H Q I hw
 rw[evalPart_some]
 refine thn (h pins s σ H _ I hw) λu s1 ⟨x,H1,I1,r1,q1⟩=>?_
 obtain⟨i,rfl,q⟩:=q1
 obtain⟨t,rfl⟩:=r1
 exact⟨some i,H1,I1,.int i t,q⟩
def SlR (X:Cx)(r:V->Option Int->Option Int->Hp->VK->Prop):Prop:=
 ∀ (pins:List (Addr×Obj)) (s:Shared) (σ:St) (H:Hp) (x:V) (v vl vu:Value) (lo hi:Option Int) (sl:Addr) (Q:VK),Inv X pins σ H s->RelV x v->s.heap.IsSliceOf sl vl vu .none->IsPart vl lo->IsPart vu hi->r x lo hi H Q->
  ∃ T id,typeLookup (.type T) "__getitem__" = pure (some (.builtin id))/\s.TypeIs v T/\wpAny (model X.prog X.w) X.A (getItem v (.ref sl)) (EP X pins σ Q) X.xe s
def tSl (r:V->Option Int->Option Int->Hp->VK->Prop)(te:TE)(tl th:TO):TE:=λσ H Q=>te σ H λx H1=>tl σ H1 λl H2=>th σ H2 λu H3=>r x l u H3 Q
theorem ji {r:V->Option Int->Option Int->Hp->VK->Prop}(hr:SlR X r)(he:PE X e te)(hl:PO X lo tl)(hu:PO X hi th):PE X (.Subscript e (.Slice lo hi none p2) pos) (tSl r te tl th):=by
 intro pins s σ H Q I h
 refine Subscript_ (thn (he pins s σ H _ I h) λv s1 ⟨x,H1,I1,r1,q1⟩=>?_)
 refine wpAny_Slice (thn (hl pins s1 σ H1 _ I1 q1) λvl s2 ⟨l,H2,I2,pl,q2⟩=>thn (hu pins s2 σ H2 _ I2 q2) λvu s3 ⟨u,H3,I3,pu,q3⟩=>?_)
 rw[evalPart_none]
 refine ao ?_
 have I4:Inv X pins σ H3 {s3 with heap:=s3.heap.push {cls:=.type "slice",data:=.fields #[vl,vu,.none]}} :=I3.kept (t':=s3.toks) λb ob q=>aB _ q
 obtain⟨T,id,hT,ht,hg⟩:=hr pins {s3 with heap:=s3.heap.push {cls:=.type "slice",data:=.fields #[vl,vu,.none]}} σ H3 x v vl vu l u s3.heap.objs.size Q I4 r1 (Heap.IsSliceOf.new ..) pl pu q3
 show wpAny (model X.prog X.w) X.A (subscriptTail e (.Slice lo hi none p2) v (.ref s3.heap.objs.size)) (EP X pins σ Q) X.xe {s3 with heap:=s3.heap.push {cls:=.type "slice",data:=.fields #[vl,vu,.none]}}
 exact tail_any (ops:=[.ref s3.heap.objs.size,v]) ht hT hg (by with_unfolding_all rfl)
def lI (xs:List V)(lo hi:Option Int):List V:=(xs.drop (HT.sIx xs.length 0 lo)).take (HT.sIx xs.length xs.length hi-HT.sIx xs.length 0 lo)
theorem xx (xs:List V)(lo hi:Option Int):(lI xs lo hi).length<=xs.length:=by
 unfold lI
 rw[bj,bG]
 omega
end
def ixN (n:Nat)(i:Int):Option Nat:=if 0<=i then(if i<n then some i.toNat else none)else if -(n:Int)<=i then some (i+n).toNat else none
def atI {α:Type}(xs:List α)(i:Int):Option α:=(ixN xs.length i).bind λj=>xs[j]?
theorem zo {n:Nat}{i:Int}{j:Nat}(h:ixN n i=some j):seqIndex? i n=some j/\j<n/\ -(n:Int)<=i/\i<n:=by
 unfold ixN at h
 by_cases h0:0<=i
 ·rw[aL h0]at h
  by_cases h1:i<n
  ·rw[aL h1]at h
   have e:i.toNat=j:=aW h
   exact⟨by rw[seqIndex_of h0 h1,e],by omega,by omega,h1⟩
  ·rw[aH h1]at h;cases h
 ·rw[aH h0]at h
  by_cases h1: -(n:Int)<=i
  ·rw[aL h1]at h
   have e:(i+n).toNat=j:=aW h
   exact⟨by rw[seqIndex_neg (by omega) h1,e],by omega,h1,by omega⟩
  ·rw[aH h1]at h;cases h
theorem zH {α:Type}{xs:List α}{i:Int}{v:α}(h:atI xs i=some v):∃ j,seqIndex? i xs.length=some j/\xs[j]? = some v/\j<xs.length/\ -(xs.length:Int)<=i/\i<xs.length:=by
 unfold atI at h
 cases e:ixN xs.length i with
 |none=>rw[e]at h;cases h
 |some j=>
  rw[e]at h
  obtain⟨h1,h2,h3,h4⟩:=zo e
  exact⟨j,h1,h,h2,h3,h4⟩
theorem rm {α:Type}{xs:List α}{j:Nat}{v:α}(h:xs[j]? = some v):atI xs (j:Int)=some v:=by
 have hj:j<xs.length:=(ah.mp h).1
 have e:ixN xs.length (j:Int)=some j:=by
  unfold ixN
  rw[aL (by omega),aL (by omega)];simp
 unfold atI;rw[e];exact h
theorem xK {α:Type}(xs:List α)(v:α):atI (xs ++ [v]) (-1)=some v:=by
 have hl:(xs ++ [v]).length=xs.length+1:=by simp
 have e:ixN (xs ++ [v]).length (-1)=some xs.length:=by
  unfold ixN
  rw[hl,aH (by decide),aL (by omega)]
  congr 1
  omega
 unfold atI
 rw[e]
 show(xs ++ [v])[xs.length]? = some v
 simp
def DA (b:Expr):Prop:=∀ o i,subscripted b false o i=operate [o,i] (getItem o i)
def IxR (X:Cx)(r:R2):Prop:=
 ∀ (value slice:Expr) (pins:List (Addr×Obj)) (s:Shared) (σ:St) (H:Hp) (x y:V) (v u:Value) (Q:VK),Inv X pins σ H s->RelV x v->RelV y u->r x y H Q->
  subscripted slice false v u=operate [v,u] (getItem v u)->wpAny (model X.prog X.w) X.A (subscriptTail value slice v u) (EP X pins σ Q) X.xe s
def MtR (X:Cx)(id:String)(r:V->List V->Hp->VK->Prop):Prop:=
 ∀ (pins:List (Addr×Obj)) (s:Shared) (σ:St) (H:Hp) (x:V) (xs:List V) (v:Value) (us:List Value) (Q:VK),Inv X pins σ H s->RelV x v->Vals xs us->r x xs H Q->
  wpAny (model X.prog X.w) X.A (call (.builtin id) (v::us)) (EP X pins σ Q) X.xe s
section
variable {X:Cx}{a b:Expr}{ta tb:TE}{pos:Pos}
theorem fh {r:R2}(hr:IxR X r)(ha:PE X a ta)(hb:PE X b tb)(hs:DA b):PE X (.Subscript a b pos) (tOp r ta tb):=by
 intro pins s σ H Q I h
 exact Subscript_ (Fq ha hb I h λv u s2 x y H2 I2 rx ry q=>hr a b pins s2 σ H2 x y v u Q I2 rx ry q (hs _ _))
def Ga (K:PySem.W.Frag):R2:=λx y H Q=>∃ p xs i v,x = .ref p/\y = .int i/\SqL K H p xs/\atI xs i=some v/\Q v H
def IG (K:PySem.W.Frag):R2:=λx y H Q=>∃ p xs i v,x = .ref p/\y = .int i/\SqT K H p xs/\atI xs i=some v/\Q v H
theorem fo:IxR X (Ga X.K):=by
 intro value slice pins s σ H x y v u Q I rx ry h hs
 obtain⟨p,xs,i,z,rfl,rfl,hq,he,q⟩:=h
 cases rx
 obtain⟨t,rfl⟩:=ry
 obtain⟨its,r,pl,hz⟩:=I.list hq
 obtain⟨j,h1,h2,h3,h4,h5⟩:=zH he
 obtain⟨w,ew,rw'⟩:=r.get h2
 have hl:=r.length
 have hn:=sE
 have fin:EP X pins σ Q w s:=⟨z,H,I,rw',q⟩
 by_cases h0:0<=i
 ·have hj:i.toNat=j:=by
   rw[seqIndex_of h0 h5]at h1
   exact aW h1
  exact item_listR pl.isList h0 (by omega) (by rw[hj];simpa using ew) fin hs
 ·have hj:(i+(its.toArray.size:Int)).toNat=j:=by
   rw[seqIndex_neg (by omega) h4]at h1
   rw[aJ,<-hl]
   exact aW h1
  exact subscriptTail_builtinR (x:=w) pl.isList.typeIs slot_list_getitem.lookup
   (wpAny_getItem_list_neg (Q:=λr s'=>r=w/\EP X pins σ Q r s') pl.isList (by omega) (by rw[aJ]<;>omega) (by omega) (by rw[hj];simpa using ew) ⟨rfl,fin⟩) hs
theorem fJ:IxR X (IG X.K):=by
 intro value slice pins s σ H x y v u Q I rx ry h hs
 obtain⟨p,xs,i,z,rfl,rfl,hq,he,q⟩:=h
 cases rx
 obtain⟨t,rfl⟩:=ry
 obtain⟨its,r,pl,hz⟩:=I.tuple hq
 obtain⟨j,h1,h2,h3,h4,h5⟩:=zH he
 obtain⟨w,ew,rw'⟩:=r.get h2
 have hl:=r.length
 have hn:=sE
 have fin:EP X pins σ Q w s:=⟨z,H,I,rw',q⟩
 exact subscriptTail_builtinR (x:=w) pl.typeIs slot_tuple_getitem.lookup
  (getItem_tuple (j:=j) (Q:=λr s'=>r=w/\EP X pins σ Q r s') pl (by omega) (by omega) (by rw[aJ,<-hl];exact h1) (by simpa using ew) ⟨rfl,fin⟩) hs
theorem yp (its:List Value)(n j:Nat)(u:Value):Obj.mapSeq (·.setIfInBounds j u) {cls:=.type "list",data:=.seq its.toArray n} = {cls:=.type "list",data:=.seq (its.set j u).toArray n} :=by
 simp[Obj.mapSeq]
theorem Inv.lst {pins:List (Addr×Obj)}{σ:St}{H:Hp}{s:Shared}{p:Addr}{xs:List V}(I:Inv X pins σ H s)(h:H p=some (.lst xs)):
  ∃ (its:List Value) (n:Nat),Vals xs its/\s.heap.get? p=some {cls:=.type "list",data:=.seq its.toArray n} /\xs.length<=sizeLine:=by
 obtain⟨z,its,n,r,e⟩:=I.hok p _ h
 exact⟨its,n,r,e,z⟩
theorem Inv.ER {pins:List (Addr×Obj)}{σ:St}{H:Hp}{s:Shared}{p:Addr}{xs ys:List V}{its its':List Value}{n n':Nat}{f:Obj->Obj}(I:Inv X pins σ H s)(h:H p=some (.lst xs))
  (ho:s.heap.get? p=some {cls:=.type "list",data:=.seq its.toArray n}) (hf:f {cls:=.type "list",data:=.seq its.toArray n} = {cls:=.type "list",data:=.seq its'.toArray n'}) (r:Vals ys its') (hz:ys.length<=sizeLine) (t:Nat):
  Inv X pins σ (upd H p (.lst ys)) {s with heap:=s.heap.update p f,toks:=t} :=by
 have e:(s.heap.update p f).get? p=some {cls:=.type "list",data:=.seq its'.toArray n'} :=by
  rw[Heap.get?_update_self f ho (by rw[hf]<;>rfl),hf]
 refine I.write (x:=p) (e:=p) (by rw[h];trivial) (.inl rfl) (λb u hb q=>(Heap.get?_update_other _ _ (bB hb)).trans q) ⟨_,e⟩ ?_
 exact⟨hz,its',n',r,e⟩
def F5:V->V->V->Hp->(Hp->Prop)->Prop:=λo i v H Q=>∃ p xs k j,o = .ref p/\i = .int k/\H p=some (.lst xs)/\ixN xs.length k=some j/\Q (upd H p (.lst (xs.set j v)))
theorem set_list:Hm X F5:=by
 intro pins s σ H o i v ov iv u Q I ro ri rv h
 obtain⟨p,xs,k,j,rfl,rfl,hp,hj,q⟩:=h
 cases ro
 obtain⟨t,rfl⟩:=ri
 obtain⟨its,n,r,ho,hz⟩:=I.lst hp
 obtain⟨h1,h2,h3,h4⟩:=zo hj
 have hl:=r.length
 have hn:=sE
 have I':Inv X pins σ (upd H p (.lst (xs.set j v))) {s with heap:=s.heap.update p (Obj.mapSeq (·.setIfInBounds j u))} :=
  I.ER hp ho (yp its n j u) (r.set rv j) (by rw[dQ];exact hz) s.toks
 by_cases h0:0<=k
 ·have hk:k.toNat=j:=by
   rw[seqIndex_of h0 h4]at h1
   exact aW h1
  exact PySem.W.ki_setAt ho h0 (by omega) (by rw[aJ,<-hl];exact h4) (by rw[hk];exact⟨_,I',q⟩)
 ·have hk:(k+(its.toArray.size:Int)).toNat=j:=by
   rw[seqIndex_neg (by omega) h3]at h1
   rw[aJ,<-hl]
   exact aW h1
  exact PySem.W.ki_setBack ho (by omega) (by rw[aJ,<-hl];exact h3) (by omega) (by rw[hk];exact⟨_,I',q⟩)
theorem uO (lo hi:Option Int)(n:Nat):(sliceBounds lo hi none n).1=((HT.sIx n 0 lo:Nat):Int)/\(sliceBounds lo hi none n).2.1=((HT.sIx n n hi:Nat):Int)/\(sliceBounds lo hi none n).2.2=1:=by
 refine⟨?_,?_,rfl⟩
 ·cases lo with
  |none=>simp[sliceBounds,HT.sIx]
  |some i=>
   simp only[sliceBounds,HT.sIx,Option.getD_none,show(1:Int)>0 by decide,dZ]
   by_cases h:i<0
   ·simp only[h,dZ]<;>omega
   ·simp only[h,cw]<;>omega
 ·cases hi with
  |none=>simp[sliceBounds,HT.sIx]
  |some i=>
   simp only[sliceBounds,HT.sIx,Option.getD_none,show(1:Int)>0 by decide,dZ]
   by_cases h:i<0
   ·simp only[h,dZ]<;>omega
   ·simp only[h,cw]<;>omega
theorem tE (its:List Value)(lo hi:Option Int):slicePick its.toArray lo hi none=((its.drop (HT.sIx its.length 0 lo)).take (HT.sIx its.length its.length hi-HT.sIx its.length 0 lo)).toArray:=by
 obtain⟨h1,h2,h3⟩:=uO lo hi its.toArray.size
 unfold slicePick
 rw[h1,h2,h3]
 simp only[sliceRange_one,pick_run,aJ]<;>rfl
def ID (K:PySem.W.Frag):V->Option Int->Option Int->Hp->VK->Prop:=λx lo hi H Q=>∃ a xs,x = .ref a/\SqL K H a xs/\∀ p,H p=none->Q (.ref p) (upd H p (.lst (lI xs lo hi)))
theorem jY:SlR X (ID X.K):=by
 intro pins s σ H x v vl vu lo hi sl Q I rx hs pl pu h
 obtain⟨a,xs,rfl,hx,q⟩:=h
 cases rx
 obtain⟨its,r,ht,hz⟩:=I.list hx
 have hlen:=r.length
 refine⟨"list",_,slot_list_getitem.lookup,ht.isList.typeIs,?_⟩
 refine wpAny_getItem_list_slice ht.isList hs pl pu .none (by simp) ?_ (by rw[aJ]<;>omega)
 rw[tE,<-hlen]
 refine⟨.ref s.heap.objs.size,_,I.laid (t':=s.toks) (o:=.lst (lI xs lo hi)) (λb ob q=>aB _ q) (av _) ?_,rfl,q _ (I.hok.fresh (av _))⟩
 exact⟨bz (xx xs lo hi) hz,_,0,(r.drop (HT.sIx xs.length 0 lo)).take (HT.sIx xs.length xs.length hi-HT.sIx xs.length 0 lo),aN _ rfl⟩
theorem fq:mO X (.builtin "len") (λxs H Q=>∃ p ys,xs = [.ref p]/\(SqL X.K H p ys\/SqT X.K H p ys)/\Q (.int ys.length) H):=by
 intro pins s σ H xs us Q I r h
 obtain⟨p,ys,rfl,hq,q⟩:=h
 obtain⟨u,rfl,rx⟩:=vals1 r
 cases rx
 have hn:=sE
 rcases hq with hq |hq
 ·obtain⟨its,r',pl,hz⟩:=I.list hq
  have hlen:=r'.length
  exact Calls.call_len_list pl.isList (by simp only[aJ]<;>omega) ⟨.int ys.length,H,I.tok _,⟨s.toks+1,by rw[aJ,hlen]⟩,q⟩
 ·obtain⟨its,r',pl,hz⟩:=I.tuple hq
  have hlen:=r'.length
  exact len_tuple pl (by simp only[aJ]<;>omega) ⟨.int ys.length,H,I.tok _,⟨s.toks+1,by rw[aJ,hlen]⟩,q⟩
theorem iA:mO X (.type "list") (λxs H Q=>∃ p ys,xs = [.ref p]/\(SqL X.K H p ys\/SqT X.K H p ys)/\∀ l,H l=none->Q (.ref l) (upd H l (.lst ys))):=by
 intro pins s σ H xs us Q I r h
 obtain⟨p,ys,rfl,hq,q⟩:=h
 obtain⟨u,rfl,rx⟩:=vals1 r
 cases rx
 have fin:∀ (its:List Value),Vals ys its->ys.length<=sizeLine->∀ (h':Heap) (c':Nat),(∀ b o',s.heap.get? b=some o'->h'.get? b=some o')->
   h'.get? s.heap.objs.size=some {cls:=.type "list",dict:=none,data:=.seq its.toArray c',slots:= #[]} ->EP X pins σ Q (.ref s.heap.objs.size) {s with heap:=h'} :=λits r' hz h' c' kp e=>
  ⟨.ref s.heap.objs.size,_,I.laid (t':=s.toks) kp (av _) (show iq X.prog X.w _ h' _ (.lst ys) from⟨hz,its,c',r',e⟩),rfl,q _ (I.hok.fresh (av _))⟩
 rcases hq with hq |hq
 ·obtain⟨its,r',pl,hz⟩:=I.list hq
  have hlen:=r'.length
  obtain⟨o,ho,hc,n,hd⟩:=pl.isList
  exact call_list_seq p (.inl rfl) ho hc hd (λh' c' kp e=>fin its r' hz h' c' kp e) (by simp only[aJ]<;>omega)
 ·obtain⟨its,r',pl,hz⟩:=I.tuple hq
  have hlen:=r'.length
  obtain⟨o,ho,hc,n,hd⟩:=pl
  exact call_list_seq p (.inr rfl) ho hc hd (λh' c' kp e=>fin its r' hz h' c' kp e) (by simp only[aJ]<;>omega)
theorem gy:mO X (.type "tuple") (λxs H Q=>∃ p ys,xs = [.ref p]/\((SqL X.K H p ys/\∀ l,H l=none->Q (.ref l) (upd H l (.tup ys)))\/(SqT X.K H p ys/\Q (.ref p) H))):=by
 intro pins s σ H xs us Q I r h
 obtain⟨p,ys,rfl,h⟩:=h
 obtain⟨u,rfl,rx⟩:=vals1 r
 cases rx
 rcases h with⟨hq,q⟩|⟨hq,q⟩
 ·obtain⟨its,r',pl,hz⟩:=I.list hq
  have hlen:=r'.length
  refine call_tuple_list pl.isList (λh' kp=>?_) (by simp only[aJ]<;>omega)
  have I1:Inv X pins σ H {s with heap:=h'} :=I.kept (t':=s.toks) kp
  have I2:Inv X pins σ (upd H h'.objs.size (.tup ys)) {s with heap:=h'.push {cls:=.type "tuple",data:=.seq its.toArray}} :=
   I1.laid (t':=s.toks) (λb o e=>aB _ e) (av _) (show iq X.prog X.w _ _ _ (.tup ys) from⟨hz,its,r',IsTup.new _ _⟩)
  exact⟨.ref h'.objs.size,_,I2,rfl,q _ (I1.hok.fresh (av _))⟩
 ·obtain⟨its,r',pl,hz⟩:=I.tuple hq
  exact call_tuple_same pl ⟨.ref p,H,I,rfl,q⟩
def tyV (K:PySem.W.Frag)(T:String)(x:V)(H:Hp):Prop:=match x with
 |.str _=>T = "str"
 |.int _=>T = "int"
 |.ref p=>(T = "list" /\∃ xs,SqL K H p xs)\/(T = "tuple" /\∃ o,K.lookup p=some o/\o.cls = .type "tuple" /\o.dict=none)\/
   (T = "dict" /\((∃ kvs,H p=some (.dK kvs))\/∃ kvs,H p=some (.dT kvs)))\/(T = "set" /\∃ S n,H p=some (.set S n))
 |_=>False
theorem AH {pins:List (Addr×Obj)}{σ:St}{H:Hp}{s:Shared}{T:String}{x:V}{v:Value}(I:Inv X pins σ H s)(r:RelV x v)(ty:tyV X.K T x H):
  s.TypeIs v T/\∀ a,v = .ref a->∃ ob,s.heap.get? a=some ob/\ob.dict=none:=by
 cases x with
 |str z=>
  obtain⟨t,rfl⟩:=r
  cases(show T = "str" from ty)
  exact⟨typeIs_str s z t,λ_ e=>nomatch e⟩
 |int i=>
  obtain⟨t,rfl⟩:=r
  cases(show T = "int" from ty)
  exact⟨typeIs_int s i t,λ_ e=>nomatch e⟩
 |ref p=>
  cases r
  rcases ty with⟨rfl,xs,hq⟩|⟨rfl,o,hk,hc,hd⟩|⟨rfl,hk⟩|⟨rfl,S,n,hk⟩
  ·obtain⟨its,_,pl,_⟩:=I.list hq
   refine⟨pl.isList.typeIs,λa e=>?_⟩
   cases e
   obtain⟨o,n,e,c,hd,_⟩:=pl
   exact⟨o,e,hd⟩
  ·refine⟨⟨o,I.kIn p o hk,hc⟩,λa e=>?_⟩
   cases e
   exact⟨o,I.kIn _ o hk,hd⟩
  ·have z:∃ o,s.heap.get? p=some o/\o.ExactDict:=by
    rcases hk with⟨kvs,hk⟩|⟨kvs,hk⟩
    ·obtain⟨_,_,_,_,o,_,_,e,ex,_⟩:=I.hok p _ hk
     exact⟨o,e,ex⟩
    ·obtain⟨_,_,_,_,o,_,_,e,ex,_⟩:=I.hok p _ hk
     exact⟨o,e,ex⟩
   obtain⟨o,e,ex⟩:=z
   refine⟨⟨o,e,ex.1⟩,λa e2=>?_⟩
   cases e2
   exact⟨o,e,ex.2.1⟩
  ·obtain⟨o,_,_,_,e,ex,_⟩:=I.hok p _ hk
   refine⟨⟨o,e,ex.1⟩,λa e2=>?_⟩
   cases e2
   exact⟨o,e,ex.2.1⟩
 |_=>exact False.elim ty
def HJ (K:PySem.W.Frag)(T:String)(r:V->List V->Hp->VK->Prop)(to:TE):TE:=λσ H Q=>to σ H λx H1=>tyV K T x H1/\r x [] H1 Q
def tBM (K:PySem.W.Frag)(T:String)(r:V->List V->Hp->VK->Prop)(to:TE)(t:TA):TE:=λσ H Q=>to σ H λx H1=>tyV K T x H1/\t σ H1 λxs H2=>r x xs H2 Q
variable {o e:Expr}{es:List Expr}{to:TE}{t:TA}{name:Str}{apos lT:Pos}{T id:String}{r:V->List V->Hp->VK->Prop}
theorem Ba (pa:PlainAttrs T)(slot:Slot T name id)(hty:typeOf (.builtin id)=pure (.type "method_descriptor"))(hm:MtR X id r)(ho:PE X o to)
  (xl:attributeBase o name X.env (eval o X.env)=eval o X.env:=by rfl) (xi:(apos.endLine==lT.line)=true:=by rfl):PE X (.Call (.Attribute o name apos) [] [] lT) (HJ X.K T r to):=by
 intro pins s σ H Q I h
 refine wpAny_Call_method0_late xl xi (thn (ho pins s σ H _ I h) λv s1 ⟨x,H1,I1,r1,ty,q1⟩=>?_)
 obtain⟨h1,h2⟩:=AH I1 r1 ty
 exact⟨T,id,pa,slot,hty,h1,h2,Calls.callWith_builtin rfl (PySem.evalArgs_none (hm pins s1 σ H1 x [] v [] Q I1 r1 .nil q1))⟩
theorem ki (pa:PlainAttrs T)(slot:Slot T name id)(hty:typeOf (.builtin id)=pure (.type "method_descriptor"))(hm:MtR X id r)(ho:PE X o to)(ha:PA X (e::es) t)
  (xl:attributeBase o name X.env (eval o X.env)=eval o X.env:=by rfl)
  (LJ:((backTo lT (starEach (e::es) X.env)).all (λx=> !x.1)&&(backToKw lT (keywordEach [] X.env)).all (λx=>x.1.isSome)
   && decide ((e::es).length+([]:List Keyword).length+(if([]:List Keyword).isEmpty then 0 else 1)<30))=true:=by rfl)
  (xi:(apos.endLine==lT.line)=true:=by rfl) (hs:starEach (e::es) X.env=(false,eval e X.env)::starEach es X.env:=by rfl) (E9:(backTo lT (starEach es X.env)).any (·.1)=false:=by rfl):
  PE X (.Call (.Attribute o name apos) (e::es) [] lT) (tBM X.K T r to t):=by
 intro pins s σ H Q I h
 refine wpAny_Call_method_late xl LJ xi rfl (thn (ho pins s σ H _ I h) λv s1 ⟨x,H1,I1,r1,ty,q1⟩=>?_)
 obtain⟨h1,h2⟩:=AH I1 r1 ty
 refine⟨T,id,pa,slot,hty,h1,h2,?_⟩
 have hA:=ha lT pins s1 σ H1 _ I1 q1
 rw[hs]at hA ⊢
 refine Calls.callWith_builtin (by show(false||(backTo lT (starEach es X.env)).any (·.1))=false;rw[E9]<;>rfl) (Calls.evalArgs_plain ?_)
 exact thn hA λus s2 ⟨vs,H2,I2,r2,q2⟩=>hm pins s2 σ H2 x vs v us Q I2 r1 r2 q2
/- xs.append(e),list.index on a Gs tuple .. are MtR facts of 06m -/
end
def MtM (X:Cx)(id:String)(r:V->List V->Hp->VK->Prop):Prop:=
 ∀ (pins:List (Addr×Obj)) (s:Shared) (σ:St) (H:Hp) (x:V) (xs:List V) (v:Value) (us:List Value) (Q:VK),Inv X pins σ H s->RelV x v->Vals xs us->r x xs H Q->
  wpAny (model X.prog X.w) X.A (call (.builtin id) (v::us)) (EP X pins σ Q) X.xe s
theorem Vals.one:∀ {x:V}{us:List Value},Vals [x] us->∃ u,us = [u]/\RelV x u
 |_,_,.cons r .nil=>⟨_,rfl,r⟩
theorem Vals.two {x y:V}{us:List Value}(h:Vals [x,y] us):∃ u v,us = [u,v]/\RelV x u/\RelV y v:=by
 cases h with
 |cons r t=>
  cases t with
  |cons q n=>
   cases n
   exact⟨_,_,rfl,r,q⟩
theorem Vals.zero:∀ {us:List Value},Vals [] us->us = []
 |_,.nil=>rfl
theorem Vals.reverse {xs:List V}{us:List Value}(h:Vals xs us):Vals xs.reverse us.reverse:=by
 induction h with
 |nil=>exact .nil
 |cons r t ih=>rw[cQ,cQ];exact Vals.append ih (.cons r .nil)
theorem Vals.rep {xs:List V}{us:List Value}(h:Vals xs us):∀ k:Nat,Vals (List.replicate k xs).flatten (List.replicate k us).flatten
 | 0=>.nil
 |k+1=>by
  rw[ck,ck,eg,eg]
  exact Vals.append h (Vals.rep h k)
theorem foldl_rep (its:List Value):∀ (k:Nat) (acc:List Value),
  List.foldl (λx1 x2=>x1++x2) acc.toArray (List.replicate k its.toArray)=(acc++(List.replicate k its).flatten).toArray
 | 0,acc=>by simp
 |k+1,acc=>by
  have e:acc.toArray++its.toArray=(acc++its).toArray:=by simp
  have e2:(acc++its)++(List.replicate k its).flatten=acc++(List.replicate (k+1) its).flatten:=by
   rw[ck,eg,bY]
  rw[<-e2,<-foldl_rep its k (acc++its),<-e,ck,cL]
section
variable {X:Cx}{pins:List (Addr×Obj)}{σ:St}{H:Hp}{s:Shared}{l b:Addr}{xs ys zs:List V}
theorem Inv.ES {its its':List Value}{n:Nat}{f:Array Value->Array Value}{t':Nat}(I:Inv X pins σ H s)(hH:H l=some (.lst xs))
  (e:s.heap.get? l=some {cls:=.type "list",data:=.seq its.toArray n}) (hf:f its.toArray=its'.toArray) (hv:Vals ys its') (hz:ys.length<=sizeLine):
  Inv X pins σ (upd H l (.lst ys)) {s with heap:=s.heap.update l (Obj.mapSeq f),toks:=t'} :=by
 have q:=PySem.IsL.update e f
 rw[hf]at q
 refine I.write (x:=l) (e:=l) (by rw[hH];exact trivial) (.inl rfl) (λb' u hb hu=>(Heap.get?_update_other s.heap (Obj.mapSeq f) (bB hb)).trans hu) ⟨_,q⟩ ?_
 exact⟨hz,its',_,hv,q⟩
theorem Inv.ET {its:List Value}{t':Nat}(I:Inv X pins σ H s)(hv:Vals ys its)(hz:ys.length<=sizeLine):
  Inv X pins σ (upd H s.heap.objs.size (.lst ys)) {s with heap:=s.heap.push {cls:=.type "list",data:=.seq its.toArray},toks:=t'} :=
 I.laid (λ_ _ q=>aB _ q) (av _) ⟨hz,its,0,hv,aN _ rfl⟩
theorem Inv.fresh (I:Inv X pins σ H s):H s.heap.objs.size=none:=I.hok.fresh (av _)
theorem Inv.Al (I:Inv X pins σ H s)(hH:H l=some (.lst xs)):xs.length<=sizeLine/\∃ (its:List Value) (n:Nat),Vals xs its/\xs.length=its.length/\s.heap.get? l=some {cls:=.type "list",data:=.seq its.toArray n} :=by
 obtain⟨z,its,n,r,e⟩:=I.hok l _ hH
 exact⟨z,its,n,r,r.length,e⟩
theorem Bp {n:Nat}(h:n<=sizeLine):Builtin.List.listTooLong n=false:=by
 unfold Builtin.List.listTooLong
 exact bq (by omega)
end
section
variable {X:Cx}
def CF:V->List V->Hp->VK->Prop:=λx vs H Q=>∃ l xs y,x = .ref l/\vs = [y]/\H l=some (.lst xs)/\xs.length<sizeLine/\Q .non (upd H l (.lst (xs ++ [y])))
theorem gD:MtM X "list.append" CF:=by
 intro pins s σ H x vs v us Q I rx rv h
 obtain⟨l,xs,y,rfl,rfl,hH,hz,q⟩:=h
 cases rx
 obtain⟨u,rfl,ru⟩:=rv.one
 obtain⟨z,its,n,r,hl,e⟩:=I.Al hH
 refine call_meets F.slot_list_append ⟨_,e,rfl⟩ F.entry_list_append (F.args_list_append_2 _ _) (PySem.list_append l its.toArray n u (by rw[aJ];omega)) ⟨e,?_⟩
 refine⟨.non,_,I.ES (its':=its ++ [u]) hH e (by simp) (r.append (.cons ru .nil)) ?_,rfl,q⟩
 rw[ai,aE]
 omega
def A0:V->List V->Hp->VK->Prop:=λx vs H Q=>∃ l xs,x = .ref l/\vs = []/\H l=some (.lst xs)/\Q .non (upd H l (.lst xs.reverse))
theorem sA:MtM X "list.reverse" A0:=by
 intro pins s σ H x vs v us Q I rx rv h
 obtain⟨l,xs,rfl,rfl,hH,q⟩:=h
 cases rx
 have hus:=rv.zero
 subst hus
 obtain⟨z,its,n,r,hl,e⟩:=I.Al hH
 refine call_meets F.slot_list_reverse ⟨_,e,rfl⟩ F.entry_list_reverse (F.args_list_reverse_1 _) (AutoSeq1.list_reverse_list_0 l its.toArray n (by rw[aJ];omega)) ⟨e,?_⟩
 refine⟨.non,_,I.ES (its':=its.reverse) hH e (by simp) r.reverse ?_,rfl,q⟩
 rw[bu]
 omega
def II:R2:=λx y H Q=>∃ l b xs zs,x = .ref l/\y = .ref b/\H l=some (.lst xs)/\H b=some (.lst zs)/\xs.length+zs.length<=sizeLine/\∀ p,H p=none->Q (.ref p) (upd H p (.lst (xs++zs)))
theorem kj:OpR X (binaryOp .Add) II:=by
 intro pins s σ H x y v u Q I rx ry h
 obtain⟨l,b,xs,zs,rfl,rfl,hH,hB,hz,q⟩:=h
 cases rx
 cases ry
 obtain⟨z,its,n,r,hl,e⟩:=I.Al hH
 obtain⟨z2,Gw,n2,r2,hl2,e2⟩:=I.Al hB
 refine PySem.P.add_list e e2 ?_ (by rw[aJ,aJ];omega)
 have ea:its.toArray++Gw.toArray=(its++Gw).toArray:=by simp
 rw[ea]
 exact⟨.ref _,_,I.ET (t':=s.toks) (r.append r2) (by rw[ai];omega),rfl,q _ I.fresh⟩
def IE:R2:=λx y H Q=>∃ l k xs,x = .ref l/\y = .int k/\H l=some (.lst xs)/\ -(2 ^ 63)<=k/\k<2 ^ 63/\xs.length*k.toNat<=sizeLine/\
 ∀ p,H p=none->Q (.ref p) (upd H p (.lst (List.replicate k.toNat xs).flatten))
theorem len_rep {α:Type}(xs:List α)(k:Nat):(List.replicate k xs).flatten.length=k*xs.length:=by
 induction k with
 |zero=>simp
 |succ k ih=>rw[ck,eg,ai,ih,Nat.succ_mul,Nat.add_comm]
theorem EB:OpR X (binaryOp .Mult) IE:=by
 intro pins s σ H x y v u Q I rx ry h
 obtain⟨l,k,xs,rfl,rfl,hH,h1,h2,hz,q⟩:=h
 cases rx
 obtain⟨t,rfl⟩:=ry
 obtain⟨z,its,n,r,hl,e⟩:=I.Al hH
 have hlen:its.toArray.size*k.toNat<=sizeLine:=by rw[aJ,<-hl];exact hz
 have LL:¬its.toArray.size*k.toNat>(2 ^ 63-1)/8:=by
  have:(sizeLine:Nat)<=(2 ^ 63-1)/8:=by decide
  omega
 have LI:¬(!Builtin.List.listFitsIndex k)=true:=by
  rw[fitsIndex_both h1 h2]
  exact aI
 have GK:¬Builtin.List.listTooLong (its.toArray.size*k.toNat)=true:=by
  rw[Bp hlen]
  exact aI
 have Fe:List.foldl (λx1 x2=>x1++x2) #[] (List.replicate (if its.toArray.isEmpty=true then 0 else k.toNat) its.toArray)=(List.replicate k.toNat its).flatten.toArray:=by
  have f0:∀ m:Nat,List.foldl (λx1 x2=>x1++x2) #[] (List.replicate m its.toArray)=(List.replicate m its).flatten.toArray:=λm=>by
   have:=foldl_rep its m []
   rw[dO]at this
   exact this
  rw[f0]
  cases its with
  |nil=>simp
  |cons a r'=>rw[aH (by simp)]
 refine wpAny_binaryOp_repeat_ref (T:= "list") (U:= "int") (by decide) ⟨_,e,rfl⟩ (λs'=>typeIs_int s' k t) noFill_list_mul F.fills_int_mul F.slot_int_rmul repeat_list F.slot_int_index.lookup
  (call_meets F.slot_int_rmul (typeIs_int s k t) F.entry_int_rmul (F.args_int_rmul_2 _ _) (int___rmul___int_list k t l its.toArray n)
   ⟨e,rfl,⟨_,e,rfl⟩,call_meets F.slot_list_mul ⟨_,e,rfl⟩ F.entry_list_mul (F.args_list_mul_2 _ _) (AutoListH.list___mul___list_int_3 l its.toArray n k t LI LL GK) ⟨e,?_⟩⟩)
 rw[Fe]
 exact⟨.ref _,_,I.ET (t':=s.toks) (r.rep k.toNat) (by rw[len_rep,Nat.mul_comm];exact hz),rfl,q _ I.fresh⟩
end
section
variable {prog:Program}{w:World}{A:Around}{E:Value->Shared->Prop}{s:Shared}
end
section
variable {X:Cx}
end
end L2
namespace Att
open PySem PySem.W PySem.Calls PyProof.Rows
theorem qO {P:Params}{h:Heap} :∀ (ns:List Int) (vs:List Value),WellAll P h vs (ns.map WData.int)->IntsAre vs ns:=by
 intro ns
 induction ns with
 |nil=>
  intro vs w
  rw[List.map_nil]at w
  cases w
  exact .nil
 |cons n ns ih=>
  intro vs w
  rw[aQ]at w
  cases w with
  |cons a b=>
   cases a
   exact .cons _ _ (ih _ b)
theorem zT {l:OpenLaw}{n:Nat}(hn:l.most=some n){P:Params}{h:Heap}{args:List WData}{vals:List Value}
  (xg:l.row.toRowW.claim.pre args=true) (hwl:WellAll P h vals args):
  ∃ a vs ns,vals = [Value.ref a]/\args = [WData.list (ns.map WData.int)]/\h.get? a=some {cls:=.type "list",data:=.seq vs.toArray} /\IntsAre vs ns/\ns.length<=n:=by
 have hsh:WShape.hasAll [] args [.list .int]=true:=(pre_splitW xg).1
 have hc:l.pre.holds [] {args:=args} = true:=(pre_splitW xg).2
 obtain⟨d,r,rfl,h1,h2⟩:=hasAllW_cons hsh
 obtain rfl:=hasAllW_nil h2
 obtain⟨xs,rfl,h3⟩:=hasW_list h1
 obtain⟨ns,rfl⟩:=items_int h3
 have hlen:ns.length<=n:=by
  unfold OpenLaw.pre at hc
  have h4:(WTm.not (.lt (.lit (.int (n:Int))) (.len (.arg 0)))).holds [] {args:=[.list (ns.map .int)]} = true:=by
   have h4:=(holds_andW hc).1
   rw[hn]at h4
   exact h4
  have h5:=condW_of h4 (w_not (w_lt w_lit (w_len_list (w_arg rfl))))
  rw[aa]at h5
  refine Nat.le_of_not_lt λq=>?_
  have q':(n:Int)<((ns.length:Nat):Int):=by omega
  first
   |(rw[bA q']at h5;exact absurd h5 (by decide))
   |(simp at h5;omega)
 cases hwl with
 |cons w1 w2=>
  cases w2
  cases w1 with
  |list ho Dh=>exact⟨_,_,ns,rfl,rfl,ho,qO ns _ Dh,hlen⟩
theorem Ab (l:OpenLaw)(args:List WData):l.row.toRowW.claim.post args (.bool true) args=true:=
 postW_of (r:=l.row.toRowW) (X:=(true==true))
  (show WShape.has [] (.bool true) .bool=true by first |rfl |decide |simp[WShape.has,WShape.arms,WShape.armsAll])
  (show(WTm.eq .res (.lit (.bool true))).value [] {args:=args,res:=some (.bool true),after:=args} = some (.bool (true==true)) from w_eq_bool (w_res rfl) w_lit) rfl
theorem xJ {l:OpenLaw}{n:Nat}{q:Program}{loose:List Str}{XP:(Str->Option Value)->Heap->Prop}{YP:World->Heap->Prop}{d:DefRec}
  (hn:l.most=some n) (hdf:d.params.defaults = [])
  (call:∀ (w:World) (s₀ s₁:Shared) (mg mb:Str->Option Value) (fa:Addr) (o:Obj) (pm cd doc:Value) (a:Addr) (vs:List Value) (ns:List Int),
   Ground q loose [] XP w s₀ mg mb s₁.heap->YP w s₁.heap->
   s₁.heap.get? fa=some o->o.data = .func (docDef d.name d.params d.body d.scope pm cd doc)->s₁.heap.CodeRec cd d.name->mg d.name=some (.ref fa)->
   s₁.heap.get? a=some {cls:=.type "list",data:=.seq vs.toArray} ->IntsAre vs ns->ns.length<=n->s₁.gens = #[]->
   codeAny (model l.prog w) callerA (.call (.ref fa) ⟨[.ref a],[]⟩) (λr s'=>r = .ok (.ret (.bool true))/\OldK s₁.heap s'.heap/\s'.os=s₁.os/\AllBare s'.gens) s₁):
  WalkO q loose XP YP l.row.toRowW d [] (λf vs=>PySem.call f vs):=by
 intro w s₀ s₁ mg mb G Y fa o pm cd doc dV kV ho hd hcd hD hmg hg args vals as xg OH hrd hwl hlo
 obtain rfl:dV = .none:=Dflts.none hD hdf
 obtain rfl:kV = .none:=Dflts.noKw hD
 obtain⟨a,vs,ns,rfl,rfl,Fb,hints,hlen⟩:=zT hn xg hwl
 refine enter_call (codeAny_mono (call w s₀ s₁ mg mb fa o pm cd doc a vs ns G Y ho (fd_plain hd) hcd hmg Fb hints hlen hg) λr s' hq=>?_)
 obtain⟨rfl,h2,h3,h4⟩:=hq
 exact⟨.inl ⟨.bool true,.bool true,[],rfl,λ_=>rfl,.bool true,Ab l _,λ_=>⟨List.Pairwise.nil,λ_ hm=>(nomatch hm)⟩⟩,h2,h3,h4⟩
section
variable {prog:Program}{w:World}{A:Around}{E:Value->Shared->Prop}{s:Shared}{K:Frag}
end
end Att
namespace L2
open PySem PySem.Spec PyProof.Rows
theorem pU:∀ {vs:List Value}{ns:List Int},IntsAre vs ns->Vals (ns.map V.int) vs
 |_,_,.nil=>.nil
 |_,_,.cons n t h=>.cons ⟨t,rfl⟩ (pU h)
def Fw (H:Hp):Prop:=∀ b,H b=none\/∃ o xs,H b=some (.frz o (.lst xs))
theorem By {P:Program}{w:World}{K:PySem.W.Frag}{mg mb:Str->Option Value}{CX:CXT}{k:Nat}{fa a:Addr}{fd:FuncData}{x:Str}{sp:Sp}{s₁:Shared}{vs:List Value}{ns:List Int}
  (KX:K.In s₁.heap) (hns:s₁.heap.Ns mainGlobals mg) (hb:s₁.heap.Ns builtinsNs mb) (hbb:∀ x:Str,x≠ "__name__" ->mb x=bootBuiltins x) (LF:s₁.heap.NoLimit) (hg:s₁.gens = #[])
  (ha:s₁.heap.get? a=some {cls:=.type "list",data:=.seq vs.toArray}) (hi:IntsAre vs ns) (hl:ns.length<=sizeLine) (hr:mH k callerA)
  (F:∀ base:Heap,K.In base->base.Ns mainGlobals mg->eY P w K mg base CX k fa fd [x] sp) (GP:∀ (s:Shared) (u:Value),BindsTo s fd ⟨[u],[]⟩ [(x,u)])
  (hsp:∀ H:Hp,Fw H->SqL K H a (ns.map V.int)->sp [.ref a] H (λv _=>v = .bl true) λ_ _ _=>False)
  (hCX:∀ H e s',CX [] H s₁ (λ_ _ _=>False) e s'->False):
  codeAny (model P w) callerA (.call (.ref fa) ⟨[.ref a],[]⟩) (λr s'=>r = .ok (.ret (.bool true))/\OldK s₁.heap s'.heap/\s'.os=s₁.os/\AllBare s'.gens) s₁:=by
 have rv:=pU hi
 have KL:=hi.length
 have core:∀ H:Hp,Fw H->SqL K H a (ns.map V.int)->HOk P w H s₁.heap->(∀ b,H b≠none->b=a)->(H a≠none->K.lookup a=none)->
   codeAny (model P w) callerA (.call (.ref fa) ⟨[.ref a],[]⟩) (λr s'=>r = .ok (.ret (.bool true))/\OldK s₁.heap s'.heap/\s'.os=s₁.os/\AllBare s'.gens) s₁:=by
  intro H hO hS hok hA hK
  have zG:∀ {b:Addr}{o:Obj},s₁.heap.get? b=some o->H b=none->(vC s₁.heap H).get? b=some o:=λe n=>BK e n
  have noA:∀ {b:Addr}{o:Obj}{es:Array DictEntry}{ep:Nat},s₁.heap.get? b=some o->o.data = .dict es ep->H b=none:=λ{b o es ep} e d=>by
   cases q:H b with
   |none=>rfl
   |some u=>
    have e':b=a:=hA b (by rw[q];simp)
    subst e'
    rw[ha]at e;cases e
    have d':Data.seq vs.toArray _=Data.dict es ep:=d
    cases d'
  have nsK:∀ {b:Addr}{m:Str->Option Value},s₁.heap.Ns b m->(vC s₁.heap H).Ns b m:=λ{b m} ⟨o,es,ep,e,d,r⟩=>⟨o,es,ep,zG e (noA e d),d,r⟩
  have hKb:K.In (vC s₁.heap H):=λb o e=>zG (KX b o e) (by
   cases q:H b with
   |none=>rfl
   |some u=>
    have e':b=a:=hA b (by rw[q];simp)
    subst e'
    rw[hK (by rw[q];simp)]at e;cases e)
  have hM:Mod K mg (vC s₁.heap H):=⟨hKb,nsK hns,⟨mb,nsK hb,hbb⟩,let ⟨mc,h1,h2⟩:=LF;⟨mc,nsK h1,h2⟩⟩
  have e0:DC P w K mg (vC s₁.heap H) callerA [] s₁ H:=⟨rfl,hM,λb o e=>CV e,Nat.le_of_eq (Ar _ _),trivial,λb hb=>absurd (show b∈([]:List Addr) from hb) (by simp),hok,.of_eq hg⟩
  refine codeAny_mono ((F _ hKb (nsK hns)).run callerA [] s₁ H ⟨[.ref a],[]⟩ [.ref a] [.ref a] _ _ hr e0 (GP s₁ (.ref a)) (.cons rfl .nil) (hsp H hO hS)) λr s' h=>?_
  cases r with
  |error e=>exact(hCX H e s' h).elim
  |ok fl=>
   cases fl with
   |next=>exact False.elim h
   |brk=>exact False.elim h
   |cont=>exact False.elim h
   |ret u=>
    obtain⟨v,H',os,bare,un,LA,r',q⟩:=h
    have q':v = .bl true:=q
    subst q'
    obtain rfl:u=Value.bool true:=r'
    refine⟨rfl,OldK.of_keep λb o e=>?_,os,bare⟩
    cases q:H b with
    |none=>exact un.keep b o e q (by intro z;exact absurd (show b∈([]:List Addr) from z) (by simp)) (by simp)
    |some u=>
     rcases hO b with z |⟨ob,xs,z⟩
     ·rw[q]at z;cases z
     ·have z2:=un.oH b ob _ z
      obtain⟨e1,_⟩:=hok b _ z
      obtain⟨e2,_⟩:=LA b _ z2
      rw[e]at e1;cases e1
      exact e2
 cases hk:K.lookup a with
 |some o=>
  have e:=KX a o hk
  rw[ha]at e
  cases e
  refine core (λ_=>none) (λ_=>.inl rfl) (.inr ⟨_,vs.toArray,_,hk,rfl,rfl,rfl,by rw[aJ,KL];exact hl,by simpa using rv⟩) (λb u z=>by have z':(none:Option HO)=some u:=z;cases z') (λb z=>absurd rfl z) λz=>absurd rfl z
 |none=>
  refine core (λb=>if b=a then some (.frz {cls:=.type "list",data:=.seq vs.toArray} (.lst (ns.map V.int)))else none) (λb=>?_) (.inl (.inr ⟨{cls:=.type "list",data:=.seq vs.toArray},aL rfl⟩)) (λb u z=>?_) (λb z=>?_) λ_=>hk
  ·by_cases hb:b=a
   ·exact .inr ⟨_,_,aL hb⟩
   ·exact .inl (aH hb)
  ·by_cases hb:b=a
   ·have z':=(aL hb).symm.trans z
    cases z'
    subst hb
    exact⟨ha,by rw[aa];exact hl,vs,_,rv,ha⟩
   ·have z':=(aH hb).symm.trans z
    cases z'
  ·by_cases hb:b=a
   ·exact hb
   ·exact absurd (aH hb) z
abbrev KOf {K:PySem.W.Frag}{h:Heap}(_:K.In h):PySem.W.Frag:=K
theorem Co {l:PySem.W.OpenLaw}{n k:Nat}{q:Program}{loose:List Str}{XP:(Str->Option Value)->Heap->Prop}{YP:World->Heap->Prop}{d:DefRec}{K:Params->PySem.W.Frag}{CX:World->CXT}{sp:World->Sp}{x:Str}
  (hn:l.most=some n) (hn2:n<=sizeLine) (hdf:d.params.defaults = []) (hr:mH k callerA)
  (hY:∀ (w:World) (h:Heap),YP w h->(K w.params).In h)
  (F:∀ (w:World) (mg:Str->Option Value) (fa:Addr) (h:Heap),(K w.params).In h->h.Ns mainGlobals mg->mg d.name=some (.ref fa)->
   ∃ fd:FuncData,(∀ (s:Shared) (u:Value),BindsTo s fd ⟨[u],[]⟩ [(x,u)])/\
    ∀ base:Heap,(K w.params).In base->base.Ns mainGlobals mg->eY l.prog w (K w.params) mg base (CX w) k fa fd [x] (sp w))
  (hsp:∀ (w:World) (H:Hp) (a:Addr) (ns:List Int),ns.length<=n->Fw H->SqL (K w.params) H a (ns.map V.int)->sp w [.ref a] H (λv _=>v = .bl true) λ_ _ _=>False)
  (hCX:∀ (w:World) (H:Hp) (s:Shared) (e:Value) (s':Shared),CX w [] H s (λ_ _ _=>False) e s'->False):
  PySem.W.WalkO q loose XP YP l.row.toRowW d [] (λf vs=>PySem.call f vs):=by
 refine Att.xJ hn hdf λw s₀ s₁ mg mb fa o pm cd doc a vs ns G Y ho hd hcd hmg Fb hints hlen hg=>?_
 have KX:=hY w _ Y
 obtain⟨fd,hb,hF⟩:=F w mg fa _ KX G.T.g hmg
 exact By KX G.T.g G.T.b G.T.builtins G.T.nolimit hg Fb hints (bz hlen hn2) hr hF hb (λH hO hS=>hsp w H a ns hlen hO hS) λH e s'=>hCX w H s₁ e s'
def lN (s:Stmt):Arguments:=match s with
 |.FunctionDef _ a _ _ _ _ _ _ _ _=>a
 |_=>{posonlyargs:=[],args:=[],vararg:=none,kwonlyargs:=[],kw_defaults:=[],kwarg:=none,defaults:=[]}
def j8 (s:Stmt):List Stmt:=match s with
 |.FunctionDef _ _ b _ _ _ _ _ _ _=>b
 |_=>[]
def eS (s:Stmt):Scope:=match s with
 |.FunctionDef _ _ _ _ _ _ sc _ _ _=>sc
 |_=>{kind:=.function,names:=[],isGenerator:=false,isCoroutine:=false}
abbrev CX0:CXT:=λ_ _ _ _ _ _=>False
abbrev E0:XK:=λ_ _ _=>False
theorem fg {X:Cx} :Passes CX0 X E0:=λ_ _ _ _ _ _ _ h=>h.elim
structure Fun (K:PySem.W.Frag)(x qual:Str)(st:Stmt)(f:Addr)(fd:FuncData):Prop where
 ex:∃ (oc:Value) (od:Option Addr) (kV doc pm:Value) (an:Option Addr) (cdv ct:Value) (osl:Array (Option Value)),
  fd=PySem.W.fnOf x qual (lN st) (j8 st) (eS st) .none kV doc pm an cdv ct/\K.lookup f=some ⟨oc,od,.func fd,osl⟩/\PySem.W.codeIn K cdv qual=true
 kp:PySem.W.keepIn K (.ref f)=true
section
variable {P:Program}{w:World}{K:PySem.W.Frag}{mg:Str->Option Value}{base:Heap}
theorem Fun.ok {x qual:Str}{st:Stmt}{f:Addr}{fd:FuncData}{N ps:List Str}{k:Nat}{sp:Sp}(F:Fun K x qual st f fd)(S:fk N ps (eS st))(len:∀ vs H Q E,sp vs H Q E->vs.length=ps.length)
  (xk:∀ (cdv:Value) (A:Around) (outer:List Env) (s:Shared) (H:Hp) (vs:List V) (Q:VK) (E:XK),mH k (A.deeper (envOfC qual (eS st) s.heap.objs.size f cdv))->sp vs H Q E->
   ∃ t,PSs (vH CX0 P w K mg base N qual (eS st) f cdv A outer s H E).nox (j8 st) t/\t {nx:=λ_ H'=>Q .non H',rt:=Q} (start N vs) H):eY P w K mg base CX0 (k+1) f fd ps sp:=by
 obtain⟨oc,od,kV,doc,pm,an,cdv,ct,osl,rfl,lk,hcd⟩:=F.ex
 refine DS lk hcd S len λA outer s H vs Q E hr hsp=>?_
 obtain⟨t,h,q⟩:=xk cdv A outer s H vs Q E hr hsp
 exact⟨t,h.nox,q⟩
theorem Fun.binds {x qual:Str}{st:Stmt}{f:Addr}{fd:FuncData}{ps:List Str}(F:Fun K x qual st f fd)
  (h:∀ (kV doc pm:Value) (an:Option Addr) (cdv ct:Value) (us:List Value),us.length=ps.length->bindArgs (PySem.W.fnOf x qual (lN st) (j8 st) (eS st) .none kV doc pm an cdv ct) ⟨us,[]⟩=pure (ps.zip us)):Binds K fd ps []:=by
 obtain⟨oc,od,kV,doc,pm,an,cdv,ct,osl,rfl,lk,hcd⟩:=F.ex
 exact .all (h kV doc pm an cdv ct)
theorem BO {x qual:Str}{st:Stmt}{f:Addr}{oc:Value}{od an:Option Addr}{osl:Array (Option Value)}{kV doc pm cdv ct:Value}(l:K.lookup f=some ⟨oc,od,.func (PySem.W.fnOf x qual (lN st) (j8 st) (eS st) .none kV doc pm an cdv ct),osl⟩)
  (c:PySem.W.codeIn K cdv qual=true) (k:PySem.W.keepIn K (.ref f)=true):Fun K x qual st f (PySem.W.fnOf x qual (lN st) (j8 st) (eS st) .none kV doc pm an cdv ct):=⟨⟨oc,od,kV,doc,pm,an,cdv,ct,osl,rfl,l,c⟩,k⟩
end
theorem my {A:Around}{k:Nat}(hr:mH k A):A.units+1<cLine:=cx (Nat.add_le_add_left (by decide:1<=64) _) hr.units
section
variable {X:Cx}
theorem pv (i:Nat){x:Str}{pos:Pos}(hN:X.N[i]? = some x:=by rfl)(hv:Vis X.env.scope x:=by first |exact Or.inl rfl |exact Or.inr (Or.inl rfl)|exact Or.inr (Or.inr rfl))(hd:(x==("__debug__" :Str))=false:=by decide)
  (hcd:(x==("__classdict__" :Str))=false:=by decide):PE X (.Name x pos) (FI i):=Ex hN hv hd hcd
end
theorem BD {A B:Prop}(h:B):if false=true then A else B:=by
 rw[aH aI]
 exact h
theorem yr {A B:Prop}(h:A):if true=true then A else B:=by
 rw[aL rfl]
 exact h
theorem fP {c A B:Prop} [Decidable c] (h1:c->A)(h2:¬c->B):if c then A else B:=by
 by_cases h:c
 ·rw[aL h]
  exact h1 h
 ·rw[aH h]
  exact h2 h
def eQ (H H':Hp):Prop:=∀ b o,H b=some o->H' b=some o
theorem eQ.refl (H:Hp):eQ H H:=λ_ _ h=>h
theorem eQ.trans {H H1 H2:Hp}(a:eQ H H1)(b:eQ H1 H2):eQ H H2:=λc o h=>b c o (a c o h)
theorem eQ.free {H H':Hp}(e:eQ H H'){l:Addr}(h:H' l=Option.none):H l=Option.none:=by
 cases q:H l with
 |none=>rfl
 |some o=>
  rw[e l o q]at h
  cases h
theorem eQ.seq {K:PySem.W.Frag}{H H':Hp}{a:Addr}{xs:List V}(e:eQ H H')(h:SqL K H a xs):SqL K H' a xs:=by
 rcases h with(h |⟨o,h⟩)|h
 ·exact .inl (.inl (e _ _ h))
 ·exact .inl (.inr ⟨o,e _ _ h⟩)
 ·exact .inr h
section
variable {κ:Type} [DecidableEq κ]
def ky (kvs:List (κ×V))(k:κ):Option V:=(kvs.find? λkv=>decide (kv.1=k)).map (·.2)
def putK (kvs:List (κ×V))(k:κ)(v:V):List (κ×V):=
 if(kvs.any λkv=>decide (kv.1=k))=true then kvs.map (λkv=>if kv.1=k then(kv.1,v)else kv)else kvs ++ [(k,v)]
theorem rE {p:κ×V}{r:List (κ×V)}{k:κ}(e:p.1=k):ky (p::r) k=some p.2:=by simp[ky,bZ,e]
theorem rF {p:κ×V}{r:List (κ×V)}{k:κ}(e:¬p.1=k):ky (p::r) k=ky r k:=by simp[ky,bZ,e]
theorem pe (k:κ):∀ kvs:List (κ×V),(kvs.any λkv=>decide (kv.1=k))=(ky kvs k).isSome
 |[]=>rfl
 |p::r=>by
  rw[List.any_cons]
  by_cases e:p.1=k
  ·simp only[rE e,bA e,Bool.true_or,Option.isSome_some]
  ·rw[rF e,bq e,Bool.false_or];exact pe k r
theorem nF (kvs:List (κ×V))(k:κ)(v:V):(putK kvs k v).length<=kvs.length+1:=by
 unfold putK
 split
 ·rw[aa];omega
 ·rw[ai,bc,dg];omega
theorem rY {kvs:List (κ×V)}{k:κ}(v:V)(h:ky kvs k=none):putK kvs k v=kvs ++ [(k,v)]:=by
 unfold putK
 rw[pe,h]
 exact aH (by decide)
theorem qQ.mx {o:Option V}{u:Option Value}(r:qQ o u):o.isSome=u.isSome:=by
 cases o with
 |none=>cases u with
  |none=>rfl
  |some _=>exact(show False from r).elim
 |some _=>cases u with
  |none=>exact(show False from r).elim
  |some _=>rfl
theorem KV.val {kvs:List (κ×V)}{vs:List (κ×Value)}(r:KV kvs vs)(k:κ):qQ (ky kvs k) (valueAt vs k):=by
 unfold KV at r
 induction r with
 |nil=>exact True.intro
 |@cons p q ps qs h t ih=>
  obtain⟨h1,h2⟩:=h
  by_cases e:p.1=k
  ·have e':q.1=k:=h1.symm.trans e
   have b:valueAt (q::qs) k=some q.2:=by simp[valueAt,bZ,e']
   rw[rE e,b];exact h2
  ·have e':¬q.1=k:=λz=>e (h1.trans z)
   have b:valueAt (q::qs) k=valueAt qs k:=by simp[valueAt,bZ,e']
   rw[rF e,b];exact ih
theorem KV.any {kvs:List (κ×V)}{vs:List (κ×Value)}(r:KV kvs vs)(k:κ):(kvs.any λkv=>decide (kv.1=k))=vs.any λkv=>decide (kv.1=k):=by
 unfold KV at r
 induction r with
 |nil=>rfl
 |cons h t ih=>rw[List.any_cons,List.any_cons,ih,h.1]
theorem KV.AW {kvs:List (κ×V)}{vs:List (κ×Value)}(r:KV kvs vs)(k:κ){y:V}{u:Value}(ry:RelV y u):
  KV (kvs.map λkv=>if kv.1=k then(kv.1,y)else kv) (vs.map λkv=>if kv.1=k then(kv.1,u)else kv):=by
 unfold KV at r ⊢
 induction r with
 |nil=>exact .nil
 |@cons p q ps qs h t ih=>
  rw[aQ,aQ]
  refine .cons ?_ ih
  obtain⟨h1,h2⟩:=h
  by_cases e:p.1=k
  ·rw[aL e,aL (h1.symm.trans e)];exact⟨h1,ry⟩
  ·rw[aH e,aH (λz=>e (h1.trans z))];exact⟨h1,h2⟩
theorem KV.put {kvs:List (κ×V)}{vs:List (κ×Value)}(r:KV kvs vs)(k:κ){y:V}{u:Value}(ry:RelV y u):KV (putK kvs k y) (stored vs k u):=by
 unfold putK stored
 rw[r.any k]
 by_cases e:(vs.any λkv=>decide (kv.1=k))=true
 ·rw[aL e,aL e];exact r.AW k ry
 ·rw[aH e,aH e];exact Paired.snoc r ⟨rfl,ry⟩
theorem KV.length {kvs:List (κ×V)}{vs:List (κ×Value)}(r:KV kvs vs):kvs.length=vs.length:=bT r
end
theorem nG {P:Program}{w:World}{k:Key}{u:Value}(r:RelV (kV k) u):(gq P w).is k u=true:=by
 cases k with
 |inl i=>obtain⟨t,e⟩:=(show ∃ t,u=Value.int i t from r);subst e;exact wZ P w i t
 |inr x=>obtain⟨t,e⟩:=(show ∃ t,u=Value.str x t from r);subst e;exact wY P w x t
theorem uw {P:Program}{w:World} :∀ {ks:List Key}{us:List Value},Vals (ks.map kV) us->ItemsAre (gq P w) ks us
 |[],_,r=>by rw[List.map_nil]at r;cases r;exact .nil
 |k::ks,_,r=>by
  rw[aQ]at r
  cases r with
  |cons h t=>exact .cons (nG h) (uw t)
abbrev KT (H:Hp):List (List Key×V)->List (List Key×Addr×Value)->Prop:=Paired λp q=>p.1=q.1/\H q.2.1=some (.tup (p.1.map kV))/\RelV p.2 q.2.2
theorem KT.val {H:Hp}{kvs:List (List Key×V)}{xs:List (List Key×Addr×Value)}(r:KT H kvs xs)(k:List Key):qQ (ky kvs k) ((atKey xs k).map (·.2)):=by
 induction r with
 |nil=>exact True.intro
 |@cons p q ps qs h t ih=>
  obtain⟨h1,_,h2⟩:=h
  by_cases e:p.1=k
  ·have e':q.1=k:=h1.symm.trans e
   have b:atKey (q::qs) k=some q.2:=by simp[atKey,bZ,e']
   rw[rE e,b];exact h2
  ·have e':¬q.1=k:=λz=>e (h1.trans z)
   have b:atKey (q::qs) k=atKey qs k:=by simp[atKey,bZ,e']
   rw[rF e,b];exact ih
theorem KT.AW {H:Hp}{kvs:List (List Key×V)}{xs:List (List Key×Addr×Value)}(r:KT H kvs xs)(k:List Key){y:V}{u:Value}(ry:RelV y u):
  KT H (kvs.map λkv=>if kv.1=k then(kv.1,y)else kv) (xs.map (putAt k u)):=by
 induction r with
 |nil=>exact .nil
 |@cons p q ps qs h t ih=>
  rw[aQ,aQ]
  refine .cons ?_ ih
  obtain⟨h1,h2,h3⟩:=h
  unfold putAt
  by_cases e:p.1=k
  ·rw[aL e,aL (h1.symm.trans e)];exact⟨h1,h2,ry⟩
  ·rw[aH e,aH (λz=>e (h1.trans z))];exact⟨h1,h2,h3⟩
theorem KT.put {H:Hp}{kvs:List (List Key×V)}{xs:List (List Key×Addr×Value)}(r:KT H kvs xs)(k:List Key){b:Addr}{y:V}{u:Value}(hb:H b=some (.tup (k.map kV)))(ry:RelV y u):
  KT H (putK kvs k y) (storedH xs k b u):=by
 have e:(kvs.any λkv=>decide (kv.1=k))=(atKey xs k).isSome:=by
  rw[pe,(r.val k).mx,ed]
 unfold putK storedH
 rw[e]
 by_cases q:(atKey xs k).isSome=true
 ·rw[aL q,aL q];exact r.AW k ry
 ·rw[aH q,aH q];exact Paired.snoc r ⟨rfl,hb,ry⟩
theorem KT.keeps {H H':Hp}{kvs:List (List Key×V)}{xs:List (List Key×Addr×Value)}(r:KT H kvs xs)(ht:∀ b ys,H b=some (.tup ys)->H' b=some (.tup ys)):KT H' kvs xs:=
 Paired.EO r λ_ _ z=>⟨z.1,ht _ _ z.2.1,z.2.2⟩
section
variable {P:Program}{w:World}{H:Hp}{h:Heap}{a:Addr}
theorem DJ {u:HO}(ok:HOk P w H h)(e:Rd H a u):iq P w H h a u:=e.ok ok
theorem zy {kvs:List (Key×V)}(ok:HOk P w H h)(e:Rd H a (.dK kvs)):kvs.length<=sizeLine/\(a==sysModules)=false/\∃ vs,KV kvs vs/\h.DictOf (gq P w) a vs:=
 show iq P w H h a (.dK kvs) from DJ ok e
theorem G3 {kvs:List (Key×V)}(ok:HOk P w H h)(e:H a=some (.dK kvs)):kvs.length<=sizeLine/\(a==sysModules)=false/\∃ vs,KV kvs vs/\h.DictOf (gq P w) a vs:=zy ok (.inl e)
theorem qk {ks:List Key}(ok:HOk P w H h)(e:H a=some (.tup (ks.map kV))):(tupleKind (gq P w)).is h ks a:=by
 obtain⟨_,its,r,o,h1,h2,n,h3⟩:=(show iq P w H h a (.tup (ks.map kV)) from ok a _ e)
 exact⟨o,its.toArray,n,h1,h2,h3,by simpa using uw r⟩
theorem zw {kvs:List (List Key×V)}(ok:HOk P w H h)(e:Rd H a (.dT kvs)):kvs.length<=sizeLine/\(a==sysModules)=false/\
  ∃ xs,KT H kvs xs/\h.DictOfH (tupleKind (gq P w)) a xs:=by
 obtain⟨z,y,xs,r,o,es,ep,h1,h2,h3,h4,h5⟩:=(show iq P w H h a (.dT kvs) from DJ ok e)
 refine⟨z,y,xs,r,o,es,ep,h1,h2,h3,h4,λx hx=>?_,h5⟩
 have all:∀ {l:List (List Key×V)}{m:List (List Key×Addr×Value)},KT H l m->∀ x∈m,(tupleKind (gq P w)).is h x.1 x.2.1:=by
  intro l m q
  induction q with
  |nil=>intro x hx;exact nomatch hx
  |@cons p q ps qs hq t ih=>
   intro x hx
   rcases aP.mp hx with e |hx
   ·subst e
    exact qk ok (by rw[<-hq.1];exact hq.2.1)
   ·exact ih x hx
 exact all r x hx
theorem BU {kvs:List (List Key×V)}(ok:HOk P w H h)(e:H a=some (.dT kvs)):kvs.length<=sizeLine/\(a==sysModules)=false/\
  ∃ xs,KT H kvs xs/\h.DictOfH (tupleKind (gq P w)) a xs:=zw ok (.inl e)
end
def pT (H:Hp)(a:Addr)(y:V)(r:Option V):Prop:=
 (∃ kvs k,Rd H a (.dK kvs)/\y=kV k/\r=ky kvs k)\/∃ kvs k b,Rd H a (.dT kvs)/\y = .ref b/\H b=some (.tup (k.map kV))/\r=ky kvs k
def yL (H:Hp)(a:Addr)(y v:V)(H':Hp):Prop:=
 (∃ kvs k,H a=some (.dK kvs)/\y=kV k/\kvs.length<sizeLine/\H'=upd H a (.dK (putK kvs k v)))\/
 ∃ kvs k b,H a=some (.dT kvs)/\y = .ref b/\H b=some (.tup (k.map kV))/\kvs.length<sizeLine/\H'=upd H a (.dT (putK kvs k v))
theorem pT.t {H:Hp}{a b:Addr}{kvs:List (List Key×V)}{k:List Key}(e:H a=some (.dT kvs))(eb:H b=some (.tup (k.map kV))):pT H a (.ref b) (ky kvs k):=.inr ⟨kvs,k,b,.inl e,rfl,eb,rfl⟩
theorem yL.t {H:Hp}{a b:Addr}{kvs:List (List Key×V)}{k:List Key}{v:V}(e:H a=some (.dT kvs))(eb:H b=some (.tup (k.map kV)))(hl:kvs.length<sizeLine):
  yL H a (.ref b) v (upd H a (.dT (putK kvs k v))):=.inr ⟨kvs,k,b,e,rfl,eb,hl,rfl⟩
section
variable {X:Cx}{pins:List (Addr×Obj)}{σ:St}{H:Hp}{s:Shared}{a:Addr}{y v:V}{u r:Value}{o:Option V}{A:Around}{E:Value->Shared->Prop}
theorem Inv.big (I:Inv X pins σ H s):sysModules<s.heap.objs.size:=by
 have h:mainGlobals<s.heap.objs.size:=(I.mod.glob.keeps I.bk).lt
 exact Nat.lt_trans (by decide) h
theorem Ay {Q:Value->Shared->Prop}(hu:A.units+1<cLine)(I:Inv X pins σ H s)(g:pT H a y (some v))(ry:RelV y u)(h:∀ w' s',Inv X pins σ H s'->RelV v w'->Q w' s'):
  wpAny (model X.prog X.w) A (getItem (.ref a) u) Q E s:=by
 rcases g with⟨kvs,k,e,ey,l⟩|⟨kvs,k,b,e,ey,eb,l⟩
 ·subst ey
  obtain⟨z,hd,vs,rel,dd⟩:=zy I.hok e
  obtain⟨w',hw,rw'⟩:=qQ.some_of (v:=v) (o:=valueAt vs k) (by rw[l];exact rel.val k)
  exact wpAny_getItem_of (nG ry) dd.mapOf hw (h w' _ (I.tok _) rw')
 ·subst ey
  cases(show u=Value.ref b from ry)
  obtain⟨z,hd,xs,rel,dd⟩:=zw I.hok e
  obtain⟨w',hw,rw'⟩:=qQ.some_of (v:=v) (o:=(atKey xs k).map (·.2)) (by rw[l];exact rel.val k)
  obtain⟨p,hp,hp2⟩:=cH.mp hw
  refine wpAny_getItem_heap (tupleKind_room_in1 hu) (qk I.hok eb) dd hp ?_
  rw[hp2]
  exact h w' _ (I.tok _) rw'
theorem Du {Q:Value->Shared->Prop}(hu:A.units+1<cLine)(I:Inv X pins σ H s)(g:pT H a y o)(ry:RelV y u)(h:∀ s',Inv X pins σ H s'->Q (.bool (!o.isSome)) s'):
  wpAny (model X.prog X.w) A (compareOp .NotIn u (.ref a)) Q E s:=by
 rcases g with⟨kvs,k,e,ey,l⟩|⟨kvs,k,b,e,ey,eb,l⟩
 ·subst ey
  obtain⟨z,hd,vs,rel,dd⟩:=zy I.hok e
  refine wpAny_notIn_of (nG ry) hd dd.mapOf ?_
  rw[<-(rel.val k).mx,<-l]
  exact h _ (I.tok _)
 ·subst ey
  cases(show u=Value.ref b from ry)
  obtain⟨z,hd,xs,rel,dd⟩:=zw I.hok e
  refine wpAny_notIn_heap (tupleKind_room_in1 hu) (qk I.hok eb) hd dd ?_
  have q:=(rel.val k).mx
  rw[ed]at q
  rw[<-q,<-l]
  exact h _ (I.tok _)
theorem pP {h':Heap}{t':Nat}{ob:HO}(I:Inv X pins σ H s)(mu:Mut (H a))(hs:Heap.SameBut a s.heap h')(he:∃ q,h'.get? a=some q)(new:iq X.prog X.w (upd H a ob) h' a ob):
  Inv X pins σ (upd H a ob) {s with heap:=h',toks:=t'} :=
 I.write (x:=a) (e:=a) mu (.inl rfl) (λb q hb z=>(hs.2 b hb).trans z) he new
theorem Fj {P:Program}{w:World}{H':Hp}{h':Heap}{kvs:List (Key×V)}{vs:List (Key×Value)}(z:kvs.length<=sizeLine)(hd:(a==sysModules)=false)(rel:KV kvs vs)(dd:h'.DictOf (gq P w) a vs):
  iq P w H' h' a (.dK kvs):=⟨z,hd,vs,rel,dd⟩
theorem Ax {H':Hp}{Q:Unit->Shared->Prop}(hu:A.units+1<cLine)(I:Inv X pins σ H s)(g:yL H a y v H')(ry:RelV y u)(rv:RelV v r)(h:∀ s',Inv X pins σ H' s'->Q () s'):
  wpAny (model X.prog X.w) A (setItem (.ref a) u r) Q E s:=by
 rcases g with⟨kvs,k,e,ey,l,eH⟩|⟨kvs,k,b,e,ey,eb,l,eH⟩
 ·subst ey eH
  obtain⟨z,hd,vs,rel,dd⟩:=G3 I.hok e
  have hz:vs.length<=sizeLine:=by rw[<-rel.length];exact z
  have hl:(putK kvs k v).length<=sizeLine:=by have:=nF kvs k v;omega
  refine wpAny_setItem_pairs (hsz:=hz) (nG ry) dd λh' dd' hs=>h _ ?_
  have he:∃ q,h'.get? a=some q:=let ⟨q,_,_,hq,_⟩:=dd';⟨q,hq⟩
  exact pP I (by rw[e];exact True.intro) hs he (Fj hl hd (rel.put k rv) dd')
 ·subst ey eH
  cases(show u=Value.ref b from ry)
  obtain⟨z,hd,xs,rel,dd⟩:=BU I.hok e
  have hz:xs.length<=sizeLine:=by rw[<-bT rel];exact z
  have hl:(putK kvs k v).length<=sizeLine:=by have:=nF kvs k v;omega
  refine wpAny_setItem_heap (hsz:=hz) (tupleKind_room_in1 hu) (qk I.hok eb) dd λh' dd' hs=>h _ ?_
  obtain⟨q,es,ep,hq,h2,h3,h4,_,h5⟩:=dd'
  refine pP I (by rw[e];exact True.intro) hs ⟨q,hq⟩ ⟨hl,hd,_,(rel.put k eb rv).keeps λc ys ec=>?_,q,es,ep,hq,h2,h3,h4,h5⟩
  rw[eL (fz ec e (λz=>nomatch z))]
  exact ec
end
section
variable {X:Cx}{pins:List (Addr×Obj)}{σ:St}{H:Hp}{s:Shared}{a:Addr}{kvs:List (Key×V)}{k:Key}{u:Value}{A:Around}{E:Value->Shared->Prop}
end
def Cf (i:Expr):Prop:=∀ ov iv,subscripted i false ov iv=operate [ov,iv] (getItem ov iv)
theorem uH {prog:Program}{w:World}{A:Around}{E:Value->Shared->Prop}{s:Shared}{env:Env}{value slice:Expr}{pos:Pos}{T id:String}{Q:Value->Shared->Prop}
  (hl:typeLookup (.type T) "__getitem__" = pure (some (.builtin id))) (hs:Cf slice)
  (h:wpAny (model prog w) A (eval value env) (λo s₁=>wpAny (model prog w) A (eval slice env) (λi s₂=>s₂.TypeIs o T/\wpAny (model prog w) A (getItem o i) Q E s₂) E s₁) E s):
  wpAny (model prog w) A (eval (.Subscript value slice pos) env) Q E s:=by
 refine Subscript_ (br h (λo s₁ h₁=>br h₁ (λi s₂ h₂=>?_) λ_ _ x=>x) λ_ _ x=>x)
 obtain⟨hT,h₂⟩:=h₂
 unfold subscriptTail
 refine ae ?_
 rw[getitemInPython_of_ne hT.not_modules]
 refine ae (d6 hT hl ?_)
 have fin:wpAny (model prog w) A (subscripted slice false o i) (λr s₃=>wpAny (model prog w) A (letTemporaryGo value o r >>= λ_=>pure r) Q E s₃) E s₂:=by
  rw[hs o i]
  exact wpAny_operating (br h₂ (λr s₃ h₃=>ae (wpAny_letTemporaryGo (ao h₃))) λ_ _ x=>x)
 first
  |exact ao (ae fin)
  |exact ae (ao (ae fin))
  |exact ae fin
theorem xu {X:Cx}{pins:List (Addr×Obj)}{σ:St}{H:Hp}{s:Shared}{a:Addr}{y:V}{o:Option V}(I:Inv X pins σ H s)(g:pT H a y o):s.TypeIs (.ref a) "dict" :=by
 rcases g with⟨kvs,k,e,_,_⟩|⟨kvs,k,b,e,_,_,_⟩
 ·obtain⟨_,_,vs,_,dd⟩:=zy I.hok e
  exact dd.typeIs
 ·obtain⟨_,_,xs,_,dd⟩:=zw I.hok e
  exact dd.typeIs
def FQ (td ty:TE):TE:=λσ H Q=>td σ H λx H1=>ty σ H1 λy H2=>∃ a v,x = .ref a/\pT H2 a y (some v)/\Q v H2
def Cy (ty td:TE):TE:=λσ H Q=>ty σ H λy H1=>td σ H1 λx H2=>∃ a o,x = .ref a/\pT H2 a y o/\Q (.bl (!o.isSome)) H2
def F0 (td ty tv:TE):TS:=λD σ H=>tv σ H λv H1=>td σ H1 λx H2=>ty σ H2 λy H3=>∃ a H4,x = .ref a/\yL H3 a y v H4/\D.nx σ H4
section
variable {X:Cx}{o i e value:Expr}{pos pos' FG:Pos}{td ty tv:TE}
theorem qW (hu:X.A.units+1<cLine)(ho:PE X o td)(hi:PE X i ty)(hs:Cf i):PE X (.Subscript o i pos) (FQ td ty):=by
 intro pins s σ H Q I h
 refine uH d7.lookup hs (thn (ho pins s σ H _ I h) λu s1 ⟨x,H1,I1,rx,q1⟩=>thn (hi pins s1 σ H1 _ I1 q1) λiv s2 ⟨y,H2,I2,ry,a,v,ex,g,q2⟩=>?_)
 subst ex
 obtain rfl:u=Value.ref a:=rx
 exact⟨xu I2 g,Ay hu I2 g ry λw' s3 I3 rw'=>⟨v,H2,I3,rw',q2⟩⟩
theorem qg (hu:X.A.units+1<cLine)(hi:PE X i ty)(ho:PE X o td):PC X .NotIn i o (Cy ty td):=by
 intro pins s σ H Q I h
 refine thn (hi pins s σ H _ I h) λiv s1 ⟨y,H1,I1,ry,q1⟩=>thn (ho pins s1 σ H1 _ I1 q1) λu s2 ⟨x,H2,I2,rx,a,ov,ex,g,q2⟩=>?_
 subst ex
 obtain rfl:u=Value.ref a:=rx
 exact Du hu I2 g ry λs3 I3=>⟨.bl (!ov.isSome),H2,I3,rfl,q2⟩
theorem uZ (hu:X.A.units+1<cLine)(ho:PE X o td)(hi:PE X i ty)(hv:PE X value tv)(hs:swapsWith value (some (.Subscript o i pos')) pos.line X.env=pure false):
  PS X (.Assign [.Subscript o i pos'] value pos) (F0 td ty tv):=by
 intro pins s σ H D I h
 refine wpAny_Assign_Subscript (thn (hv pins s σ H _ I h) λr s1 ⟨v,H1,I1,rv,q1⟩=>thn (ho pins s1 σ H1 _ I1 q1) λu s2 ⟨x,H2,I2,rx,q2⟩=>thn (hi pins s2 σ H2 _ I2 q2) λiv s3 ⟨y,H3,I3,ry,a,H4,ex,g,q3⟩=>?_) hs
 subst ex
 obtain rfl:u=Value.ref a:=rx
 exact Ax hu I3 g ry rv λs4 I4=>⟨σ,H4,I4,q3⟩
end
theorem xr {P:Program}{w:World}{H:Hp}(h:Heap)(hb:sysModules<h.objs.size):iq P w H (h.push {cls:=.type "dict",data:=.dict #[]}) h.objs.size (.dT []):=
 ⟨aO _,dS.mpr (bB (aR hb)),[],.nil,_,#[],0,aN _ rfl,⟨rfl,rfl,rfl⟩,rfl,rfl,dw⟩
def Ei:TE:=λ_ H Q=>∀ p,H p=none->Q (.ref p) (upd H p (.dT []))
section
variable {X:Cx}{pos:Pos}
theorem A8:PE X (.Dict [] [] pos) Ei:=λpins s σ H Q I h=>
 wpAny_Dict_empty ⟨.ref s.heap.objs.size,_,I.laid (a:=s.heap.objs.size) (o:=.dT []) (t':=s.toks) (λ_ _ q=>aB _ q) (av _) (xr s.heap I.big),rfl,h _ (I.hok.fresh (av _))⟩
end
def xT:List (TE×TE)->St->Hp->(List (V×V)->Hp->Prop)->Prop
 |[],_,H,Q=>Q [] H
 |(tk,tv)::r,σ,H,Q=>tk σ H λx H1=>tv σ H1 λy H2=>xT r σ H2 λps H3=>Q ((x,y)::ps) H3
abbrev VV:List (V×V)->List (Value×Value)->Prop:=Paired λp q=>RelV p.1 q.1/\RelV p.2 q.2
def PPs (X:Cx)(pos:Pos)(keys:List (Option Expr))(values:List Expr)(trs:List (TE×TE)):Prop:=
 ∀ (pins:List (Addr×Obj)) (s:Shared) (σ:St) (H:Hp) (Q:List (V×V)->Hp->Prop),Inv X pins σ H s->xT trs σ H Q->
  wpAny (model X.prog X.w) X.A (evalPairs (pairTrees keys values X.env pos)) (λvs s'=>∃ ps H',Inv X pins σ H' s'/\VV ps vs/\Q ps H') X.xe s
theorem CG {X:Cx}{pos:Pos} :PPs X pos [] [] []:=λpins s σ H Q I h=>pairTrees_nil_walk ⟨[],H,I,.nil,h⟩
theorem A2 {X:Cx}{pos:Pos}{k v:Expr}{ks:List (Option Expr)}{vs:List Expr}{tk tv:TE}{trs:List (TE×TE)}(hk:PE X k tk)(hv:PE X v tv)(hr:PPs X pos ks vs trs):
  PPs X pos (some k::ks) (v::vs) ((tk,tv)::trs):=λpins s σ H Q I h=>
 pairTrees_cons_walk (thn (hk pins s σ H _ I h) λu s1 ⟨x,H1,I1,rx,q1⟩=>thn (hv pins s1 σ H1 _ I1 q1) λw2 s2 ⟨y,H2,I2,ry,q2⟩=>
  thn (hr pins s2 σ H2 _ I2 q2) λws s3 ⟨ps,H3,I3,rel,q3⟩=>⟨(x,y)::ps,H3,I3,.cons ⟨rx,ry⟩ rel,q3⟩)
section
variable {X:Cx}{pins:List (Addr×Obj)}{σ:St}{H:Hp}{s:Shared}{a:Addr}{y d:V}{u r:Value}{o:Option V}{A:Around}{E:Value->Shared->Prop}
end
section
variable {X:Cx}{o e f:Expr}{apos lT:Pos}{td ty tx:TE}
end
section
variable {X:Cx}{pins:List (Addr×Obj)}{σ:St}{H:Hp}{s:Shared}{a:Addr}{kvs:List (Key×V)}{A:Around}{E:Value->Shared->Prop}
end
section
variable {X:Cx}{pins:List (Addr×Obj)}{σ:St}{H:Hp}{s:Shared}{a:Addr}{y:V}{u:Value}{A:Around}{E:Value->Shared->Prop}
end
end L2
namespace TL
open PySem
theorem sR {α β:Type}{f:α->β->Sem (ForInStep β)}(P:List α->β->Prop)
  (step:∀ x l c,P (x::l) c->∃ c',f x c=pure (.yield c')/\P l c'):∀ (l:List α) (c:β),P l c->∃ c',forIn l c f=pure c'/\P [] c'
 |[],c,h=>⟨c,rfl,h⟩
 |x::l,c,h=>by
  obtain⟨c1,e,h1⟩:=step x l c h
  obtain⟨c2,e2,h2⟩:=sR P step l c1 h1
  refine⟨c2,?_,h2⟩
  rw[cz,e,pure_bind]
  exact e2
theorem mZ {scope:Scope}{env:Env}(h:∀ y∈scope.names,y.2 = .free->∃ c,env.cells.lookup y.1=some c):
  ∃ cl,closureFor scope env=pure cl/\(∀ x c,cl.lookup x=some c->env.cells.lookup x=some c)/\(∀ y∈scope.names,y.2 = .free->∃ c,cl.lookup y.1=some c):=by
 let P:List (Str×NameKind)->List (Str×Addr)->Prop:=λl c=>(∀ y∈l,y.2 = .free->∃ c,env.cells.lookup y.1=some c)/\(∀ x a,c.lookup x=some a->env.cells.lookup x=some a)/\
  (∀ y∈scope.names,y.2 = .free->y∈l\/∃ a,c.lookup y.1=some a)
 simp only[closureFor]
 obtain⟨cl,e,_,h2,h3⟩:=sR (f:=λ(x:Str×NameKind) (r:List (Str×Addr))=>if(x.2==NameKind.free)=true then cellOf env x.1 >>= λc=>pure (ForInStep.yield ((x.1,c)::r))else pure (ForInStep.yield r)) P (by
  rintro⟨n,k⟩ l c ⟨p1,p2,p3⟩
  by_cases hk:k = .free
  ·subst hk
   obtain⟨a,ha⟩:=p1 _ aC rfl
   refine⟨(n,a)::c,?_,λy hy=>p1 y (aA _ hy),λx b hb=>?_,λy hy hf=>?_⟩
   ·have ha':env.cells.lookup n=some a:=ha
    simp[cellOf,ha']
   ·rw[bF]at hb
    by_cases hx:(x==n)=true
    ·rw[hx]at hb
     have e1:x=n:=by simpa using hx
     subst e1
     cases hb
     exact ha
    ·have hx':(x==n)=false:=by simpa using hx
     rw[hx']at hb
     exact p2 x b hb
   ·by_cases hx:(y.1==n)=true
    ·exact .inr ⟨a,by rw[bF,hx]⟩
    ·have hx':(y.1==n)=false:=by simpa using hx
     rcases p3 y hy hf with q |⟨b,q⟩
     ·rcases aP.mp q with q |q
      ·exact absurd (by rw[q];simp) hx
      ·exact .inl q
     ·exact .inr ⟨b,by rw[bF,hx'];exact q⟩
  ·refine⟨c,?_,λy hy=>p1 y (aA _ hy),p2,λy hy hf=>?_⟩
   ·have:(k==NameKind.free)=false:=by simpa using hk
    simp[this]
   ·rcases p3 y hy hf with q |q
    ·rcases aP.mp q with q |q
     ·subst q;exact absurd hf hk
     ·exact .inl q
    ·exact .inr q) scope.names [] ⟨h,λx a hx=>by simp at hx,λy hy _=>.inl hy⟩
 refine⟨cl,?_,h2,λy hy hf=>?_⟩
 ·refine Eq.trans ?_ (bX (λt:Sem (List (Str×Addr))=>t >>= λr=>pure r) e)
  rfl
 ·rcases h3 y hy hf with q |q
  ·cases q
  ·exact q
theorem ku {env:Env} :∀ {names:List (Str×NameKind)}{x:Str},names.lookup x=some .free->
  (names.map λ(n,k)=>if(k==NameKind.free&&env.scope.kind == .function&&env.kindOf n==some .cell)then(n,NameKind.cell)else(n,k)).lookup x=some .cell\/
  (names.map λ(n,k)=>if(k==NameKind.free&&env.scope.kind == .function&&env.kindOf n==some .cell)then(n,NameKind.cell)else(n,k)).lookup x=some .free
 |[],_,h=>by simp at h
 |(n,k)::r,x,h=>by
  have ih:=@ku env r x
  show List.lookup x ((if(k==NameKind.free&&env.scope.kind == .function&&env.kindOf n==some .cell)=true then(n,NameKind.cell)else(n,k))::_)=_\/List.lookup x ((if(k==NameKind.free&&env.scope.kind == .function&&env.kindOf n==some .cell)=true then(n,NameKind.cell)else(n,k))::_)=_
  cases hx:x==n with
  |true=>
   simp only[bF,hx]at h
   cases h
   by_cases hc:(NameKind.free==NameKind.free&&env.scope.kind == .function&&env.kindOf n==some .cell)=true
   ·rw[aL hc];left;simp[bF,hx]
   ·rw[aH hc];right;simp[bF,hx]
  |false=>
   simp only[bF,hx]at h
   by_cases hc:(k==NameKind.free&&env.scope.kind == .function&&env.kindOf n==some .cell)=true
   ·rw[aL hc];simp only[bF,hx];exact ih h
   ·rw[aH hc];simp only[bF,hx];exact ih h
theorem kg {env:Env} :∀ {names:List (Str×NameKind)}{x:Str},(∀ y∈names,y.2≠ .cell)->
  ((names.map λ(n,k)=>if(k==NameKind.free&&env.scope.kind == .function&&env.kindOf n==some .cell)then(n,NameKind.cell)else(n,k)).lookup x=some .cell\/
  (names.map λ(n,k)=>if(k==NameKind.free&&env.scope.kind == .function&&env.kindOf n==some .cell)then(n,NameKind.cell)else(n,k)).lookup x=some .free)->∃ y∈names,y.1=x/\y.2 = .free
 |[],_,_,h=>by simp at h
 |(n,k)::r,x,hn,h=>by
  have ih:=@kg env r x (λy hy=>hn y (aA _ hy))
  change List.lookup x ((if(k==NameKind.free&&env.scope.kind == .function&&env.kindOf n==some .cell)=true then(n,NameKind.cell)else(n,k))::_)=_\/List.lookup x ((if(k==NameKind.free&&env.scope.kind == .function&&env.kindOf n==some .cell)=true then(n,NameKind.cell)else(n,k))::_)=_ at h
  cases hx:x==n with
  |true=>
   have e:x=n:=by simpa using hx
   by_cases hc:(k==NameKind.free&&env.scope.kind == .function&&env.kindOf n==some .cell)=true
   ·have hk:k = .free:=by
     simp only[eC,beq_iff_eq]at hc
     exact hc.1.1
    exact⟨(n,k),aC,e.symm,hk⟩
   ·rw[aH hc]at h
    simp only[bF,hx]at h
    rcases h with h |h
    ·exact absurd (aW h) (hn (n,k) aC)
    ·exact⟨(n,k),aC,e.symm,aW h⟩
  |false=>
   have h':(r.map λ(n,k)=>if(k==NameKind.free&&env.scope.kind == .function&&env.kindOf n==some .cell)then(n,NameKind.cell)else(n,k)).lookup x=some .cell\/
     (r.map λ(n,k)=>if(k==NameKind.free&&env.scope.kind == .function&&env.kindOf n==some .cell)then(n,NameKind.cell)else(n,k)).lookup x=some .free:=by
    by_cases hc:(k==NameKind.free&&env.scope.kind == .function&&env.kindOf n==some .cell)=true
    ·rw[aL hc]at h;simpa only[bF,hx]using h
    ·rw[aH hc]at h;simpa only[bF,hx]using h
   obtain⟨y,hy,e⟩:=ih h'
   exact⟨y,aA _ hy,e⟩
section
variable {prog:Program}{w:World}{A:Around}{R:Result->Shared->Prop}{s:Shared}
abbrev qT (ifs:List Expr)(env:Env):Sem Bool:=forIn ifs true λc r=>if r=true then do let ok <-isTrue c env (eval c env);pure (ForInStep.yield ok)else pure (ForInStep.yield r)
theorem xA {elt target iter:Expr}{ifs:List Expr}{scope:Scope}{pos:Pos}{it acc:Value}{env:Env}(I:Nat->Shared->Prop)
  (turn:∀ n s,I n s->wpAny (model prog w) A (pyNext it) (λr s₁=>match r with
   |none=>R (.ok .next) s₁
   |some v=>wpAny (model prog w) A (letOwnedTupleGo target it v) (λ_ s₀=>wpAny (model prog w) A (assign target env v) (λ_ s₂=>
     wpAny (model prog w) A (qT ifs env) (λok s₃=>
      if ok=true then wpAny (model prog w) A (eval elt env) (λx s₄=>
       wpAny (model prog w) A (call (.builtin "list.append") [acc,x]) (λ_ s₅=>∃ m,m<n/\I m s₅) (λ_ _=>False) s₄) (λ_ _=>False) s₃
      else ∃ m,m<n/\I m s₃) (λ_ _=>False) s₂) (λ_ _=>False) s₀) (λ_ _=>False) s₁) (λ_ _=>False) s)
  (n:Nat) (h:I n s):
  codeAny (model prog w) A (.compLoop (.ListComp elt [⟨target,iter,ifs,0⟩] scope pos) 0 it acc env) R s:=by
 refine codeAny_loop rfl I (λn s hI=>?_) n h
 show wpAny _ A ((compTurn (.ListComp elt [⟨target,iter,ifs,0⟩] scope pos) 0 it acc env).onRaise (λx=>do noteFrame x env;theTreesLotGoes x)) _ _ s
 refine wpAny_noted ?_
 rw[compTurn_list]
 refine ae (b8 (ae (br (turn n s hI) (λr s₁ h₁=>?_) λ_ _ h'=>h'.elim)))
 cases r with
 |none=>exact ao h₁
 |some v=>
  refine ae (br h₁ (λ_ s₀ h₀=>?_) λ_ _ h'=>h'.elim)
  refine ae (br h₀ (λ_ s₂ h₂=>ae (br h₂ (λok s₃ h₃=>?_) λ_ _ h'=>h'.elim)) λ_ _ h'=>h'.elim)
  cases ok with
  |false=>exact ao ⟨rfl,h₃⟩
  |true=>
   exact ae (ae (br h₃ (λx s₄ h₄=>ae (br h₄ (λ_ s₅ h₅=>ao (ao ⟨rfl,h₅⟩)) λ_ _ h'=>h'.elim)) λ_ _ h'=>h'.elim))
theorem vJ (elt target iter:Expr)(ifs:List Expr)(scope:Scope)(pos:Pos)(it acc:Value)(env:Env):
  compTurn (.SetComp elt [⟨target,iter,ifs,0⟩] scope pos) 0 it acc env=(do
   standAt iter.pos
   match <-pyNext it with
   |none=>pure (.done .next)
   |some v=>
    letOwnedTupleGo target it v
    assign target env v
    let mut ok:=true
    for c in ifs do
     if ok then ok <-isTrue c env (eval c env)
    if ok then
     (do let v <-eval elt env;standAt elt.pos;let _ <-call (.builtin "set.add") [acc,v])
    again (.compLoop (.SetComp elt [⟨target,iter,ifs,0⟩] scope pos) 0 it acc env)):=by rfl
theorem vK {elt target iter:Expr}{ifs:List Expr}{scope:Scope}{pos:Pos}{it acc:Value}{env:Env}(I:Nat->Shared->Prop)
  (turn:∀ n s,I n s->wpAny (model prog w) A (pyNext it) (λr s₁=>match r with
   |none=>R (.ok .next) s₁
   |some v=>wpAny (model prog w) A (letOwnedTupleGo target it v) (λ_ s₀=>wpAny (model prog w) A (assign target env v) (λ_ s₂=>
     wpAny (model prog w) A (qT ifs env) (λok s₃=>
      if ok=true then wpAny (model prog w) A (eval elt env) (λx s₄=>
       wpAny (model prog w) A (call (.builtin "set.add") [acc,x]) (λ_ s₅=>∃ m,m<n/\I m s₅) (λ_ _=>False) s₄) (λ_ _=>False) s₃
      else ∃ m,m<n/\I m s₃) (λ_ _=>False) s₂) (λ_ _=>False) s₀) (λ_ _=>False) s₁) (λ_ _=>False) s)
  (n:Nat) (h:I n s):
  codeAny (model prog w) A (.compLoop (.SetComp elt [⟨target,iter,ifs,0⟩] scope pos) 0 it acc env) R s:=by
 refine codeAny_loop rfl I (λn s hI=>?_) n h
 show wpAny _ A ((compTurn (.SetComp elt [⟨target,iter,ifs,0⟩] scope pos) 0 it acc env).onRaise (λx=>do noteFrame x env;theTreesLotGoes x)) _ _ s
 refine wpAny_noted ?_
 rw[vJ]
 refine ae (b8 (ae (br (turn n s hI) (λr s₁ h₁=>?_) λ_ _ h'=>h'.elim)))
 cases r with
 |none=>exact ao h₁
 |some v=>
  refine ae (br h₁ (λ_ s₀ h₀=>?_) λ_ _ h'=>h'.elim)
  refine ae (br h₀ (λ_ s₂ h₂=>ae (br h₂ (λok s₃ h₃=>?_) λ_ _ h'=>h'.elim)) λ_ _ h'=>h'.elim)
  cases ok with
  |false=>exact ao ⟨rfl,h₃⟩
  |true=>
   exact ae (ae (br h₃ (λx s₄ h₄=>ae (b8 (ae (br h₄ (λ_ s₅ h₅=>ao (ao ⟨rfl,h₅⟩)) λ_ _ h'=>h'.elim)))) λ_ _ h'=>h'.elim))
theorem tK {elt target iter ifs rest scope pos it acc env}
  (h0:codeAny (model prog w) A (.compLoop (.SetComp elt (⟨target,iter,ifs,0⟩::rest) scope pos) 0 it acc env) R s)
  (h:wpAny (model prog w) A (pyIter it) (λit' s'=>codeAny (model prog w) A (.compLoop (.SetComp elt (⟨target,iter,ifs,0⟩::rest) scope pos) 0 it' acc env) R s')
   (notedBy (model prog w) A env λx s'=>R (.error x) s') s):
  codeAny (model prog w) A (.compStart (.SetComp elt (⟨target,iter,ifs,0⟩::rest) scope pos) 0 it acc env) R s:=by
 refine codeAny_of_tree ?_
 show wpAny _ _ ((compStart (.SetComp elt (⟨target,iter,ifs,0⟩::rest) scope pos) 0 it acc env).onRaise (λx=>do noteFrame x env;standAt theWindowsPlace)) _ _ s
 refine wpAny_notedAt ?_
 unfold compStart
 show wpAny _ _ (ask >>= _) _ _ s
 refine ae (wpAny_askSetting (wpAny_ite ?_))
 split
 ·first
   |exact ae (ao (ao (And.intro rfl h0)))
   |exact ao (And.intro rfl h0)
 ·first
   |exact ae (wpAny_rule (ae (b8 (ae (br h (λit' s' h'=>ao (And.intro rfl h')) λ_ _ x=>x)))))
   |(refine ae (wpAny_rule ?_);show wpAny _ _ (standAt iter.pos >>= _) _ _ s;exact ae (b8 (ae (br h (λit' s' h'=>ao (And.intro rfl h')) λ_ _ x=>x))))
end
open PyProof.Rows
def oth (e:Int):Int:=e+1-2*(e%2)
theorem Ck (x:Int):Builtin.bitXor x 1=oth x:=by
 rw[bitXor_and,bitAnd_m1];unfold oth;omega
theorem kC (e:Int):oth (oth e)=e:=by unfold oth;omega
theorem nC (e:Int):oth e/2=e/2:=by unfold oth;omega
theorem yf {e:Int}(h:0<=e):0<=oth e:=by unfold oth;omega
end TL
set_option maxHeartbeats 4000000
namespace TL
open PySem PySem.Spec PyProof.Rows L2
abbrev St:=L2.St
def fw (X:Cx)(scope:Scope)(cl:List (Str×Addr))(N:List Str)(fp:List Addr)(s3:Shared)(H3:Hp):Cx where
 prog:=X.prog
 w:=X.w
 K:=X.K
 mg:=X.mg
 base:=X.base
 A:=X.A
 N:=N
 s₀:=s3
 H₀:=H3
 env:=compEnvC scope cl s3.heap.objs.size X.env
 outer:=X.stack
 stack:=X.stack
 ex:=fp
 fn:=λ_=>false
 calm:=X.calm
 pn:=[]
 xe:=λ_ _=>False
def DY (NX:List Str)(scope:Scope)(N:List Str)(cap:List (Option Nat)):Bool:=
 (N.zip cap).all λp=>match p.2 with
  |none=>true
  |some j=>decide (NX[j]? = some p.1)&&decide (scope.names.lookup p.1=some .free)
structure fX (scX:Scope)(NX:List Str)(scope:Scope)(N:List Str)(own:Nat)(cap:List (Option Nat)):Prop where
 kind:scope.kind = .function
 vn:∀ y∈scope.names,y.2≠ .cell
 loc:∀ y∈scope.names,y.2 = .local->scope.names.lookup y.1=some .local
 fre:∀ y∈scope.names,y.2 = .free->scX.names.lookup y.1=some .cell\/scX.names.lookup y.1=some .free
 len:cap.length=N.length
 NF:DY NX scope N cap=true
 Js:(cap.take own).all (·.isNone)=true
 nd:N.Nodup
def iG (cap:List (Option Nat))(σ:St):St:=cap.map λo=>o.bind λj=>(σ[j]?).bind id
theorem AA {cap:List (Option Nat)}{σ:St} :(iG cap σ).length=cap.length:=by simp[iG]
theorem oA {cap:List (Option Nat)}{σ:St}{i:Nat}{v:V}(h:(iG cap σ)[i]? = some (some v)):∃ j,cap[i]? = some (some j)/\σ[j]? = some (some v):=by
 unfold iG at h
 rw[aq]at h
 cases e:cap[i]? with
 |none=>rw[e]at h;cases h
 |some o=>
  rw[e]at h
  cases o with
  |none=>cases h
  |some j=>
   refine⟨j,rfl,?_⟩
   have h':(σ[j]?).bind id=some v:=by simpa using h
   cases q:σ[j]? with
   |none=>rw[q]at h';cases h'
   |some z=>rw[q]at h';exact bX some h'
theorem fX.at {scX:Scope}{NX:List Str}{scope:Scope}{N:List Str}{own:Nat}{cap:List (Option Nat)}(C:fX scX NX scope N own cap){i j:Nat}{x:Str}(h1:N[i]? = some x)(h2:cap[i]? = some (some j)):
  NX[j]? = some x/\scope.names.lookup x=some .free:=by
 have h:=C.NF
 unfold DY at h
 have hm:(x,some j)∈N.zip cap:=by
  refine List.mem_iff_getElem?.mpr ⟨i,?_⟩
  rw[cX]
  exact⟨h1,h2⟩
 have:=List.all_eq_true.mp h _ hm
 simpa using this
theorem fX.sj {scX:Scope}{NX:List Str}{scope:Scope}{N:List Str}{own:Nat}{cap:List (Option Nat)}(C:fX scX NX scope N own cap){i j:Nat}(hi:i<own)(h:cap[i]? = some (some j)):False:=by
 have hm:some j∈cap.take own:=by
  refine List.mem_iff_getElem?.mpr ⟨i,?_⟩
  rw[List.getElem?_take_of_lt hi]
  exact h
 have:=List.all_eq_true.mp C.Js _ hm
 cases this
section
variable {X:Cx}{pins:List (Addr×Obj)}{σ:St}{H H3:Hp}{s s3:Shared}{scope:Scope}{N:List Str}{own:Nat}{cap:List (Option Nat)}{cl:List (Str×Addr)}{fp:List Addr}
theorem sI (I3:Inv X pins σ H3 s3)(C:fX X.env.scope X.N scope N own cap)(lx:∀ x c,cl.lookup x=some c->X.env.cells.lookup x=some c)(oG:∀ y∈scope.names,y.2 = .free->∃ c,cl.lookup y.1=some c)
  (hf:∀ b∈fp,nh X pins H3 b/\b<s3.heap.objs.size) {h4:Heap}{tk:Nat}{m4:Str->Option Value} (hn:h4.Ns s3.heap.objs.size m4) (hk:∀ b u,s3.heap.get? b=some u->h4.get? b=some u):
  Inv (fw X scope cl N fp s3 H3) [] (iG cap σ) H3 {s3 with heap:=h4,toks:=tk} :=by
 refine⟨⟨I3.ok.mod,C.kind,I3.ok.glob,I3.ok.blt,av _,λx y c e1 e2=>I3.ok.inj x y c (lx _ _ e1) (lx _ _ e2),λx hx=>?_,λx c h=>?_,I3.ok.hd,I3.ok.frames,.inl rfl,λb hb=>?_,
  I3.bs,bz I3.ok.bsz I3.sz,λb o e hb=>?_,λb hb hz=>?_,I3.stack,I3.uI⟩,rfl,I3.bare,Un.kept hk,⟨m4,hn,λi x v e1 e2 e3=>?_⟩,λx c e=>?_,I3.hok.fresh (av _),λx c e=>I3.mz x c (lx x c e),
  λp hp=>absurd (show p∈([]:List (Addr×Obj)) from hp) (by simp),I3.hok.kept hk,?_⟩
 ·obtain⟨y,hy,e,f⟩:=kg (env:=X.env) C.vn hx
  obtain⟨c,q⟩:=oG y hy f
  exact⟨c,by rw[<-e];exact q⟩
 ·exact absurd (show false=true from h) aI
 ·obtain⟨⟨f0,f1,f2,f3,f4,f5⟩,hlt⟩:=hf b hb
  exact⟨aR hlt,λx c e=>f4 x c (lx x c e)⟩
 ·obtain⟨⟨f0,f1,f2,f3,f4,f5⟩,hlt⟩:=hf b hb
  rcases f3 with z |z
  ·exact I3.ok.Bq b o e z
  ·exact absurd (bg (aF e) (bz I3.ok.bsz z)) (de _)
 ·obtain⟨⟨f0,f1,f2,f3,f4,f5⟩,hlt⟩:=hf b hb
  rcases aP.mp (I3.oR b hz)with z |z
  ·exact f1 z
  ·exact f2 z
 ·obtain⟨j,c1,c2⟩:=oA e2
  obtain⟨d1,d2⟩:=C.at e1 c1
  have hk2:=C.fre (x,.free) (cg d2) rfl
  obtain⟨mX,hnX,hl⟩:=I3.loc
  obtain⟨u,r,l⟩:=hl j x v d1 c2 (.inr hk2)
  refine⟨u,r,?_⟩
  rcases l with⟨k,_⟩|⟨k,c,e,z⟩
  ·exfalso
   have k':X.env.scope.names.lookup x=some .local:=k
   rcases hk2 with q |q
   ·rw[k']at q;cases q
   ·rw[k']at q;cases q
  ·obtain⟨c',q⟩:=oG (x,.free) (cg d2) rfl
   have e':=lx x c' q
   rw[e]at e'
   cases e'
   obtain⟨o,ho,hd⟩:=z
   exact .inr ⟨ku (env:=X.env) d2,c,q,o,hk _ _ ho,hd⟩
 ·obtain⟨v,o,ho,hd⟩:=I3.cell x c (lx x c e)
  exact⟨v,o,hk _ _ ho,hd⟩
 ·rw[AA];exact C.len
theorem comp_back {ug:List (Addr×Obj)}{σ':St}{H':Hp}{s':Shared}(I3:Inv X pins σ H3 s3)(hf:∀ b∈fp,nh X pins H3 b)(I':Inv (fw X scope cl N fp s3 H3) ug σ' H' s'):Inv X pins σ H' s':=
 I3.DZ (ch:=fp) I'.os I'.base I'.hok I'.bare λb hb=>by
  obtain⟨f0,f1,f2,f3,f4,f5⟩:=hf b hb
  exact⟨f3,f1,f4,f5⟩
structure Apart (X:Cx)(pins:List (Addr×Obj))(C:Addr):Prop where
 loc:C≠X.env.locals
 new:X.s₀.heap.objs.size<=C
 cel:∀ x c,X.env.cells.lookup x=some c->c≠C
 pin:∀ p∈X.pn++pins,p.1≠C
theorem Inv.apart (I3:Inv X pins σ H3 s3):Apart X pins s3.heap.objs.size:=
 ⟨cI I3.lt,I3.sz,λx c e=>by obtain⟨v,o,ho,_⟩:=I3.cell x c e;exact aR (aF ho),λp hp=>aR (aF (I3.pin p hp).1)⟩
theorem oy {C:Addr}{h':Heap}(I:Inv X pins σ H s)(P:Apart X pins C)(hn:H C=none)(hs:Heap.SameBut C s.heap h'):Inv X pins σ H {s with heap:=h'} :=
 I.turned (t':=s.toks) (λb o hb e=>(hs.2 b hb).trans e) hn P.loc (.inr P.new) P.cel P.pin
end
structure qS (own:Nat)(g:TG):Prop where
 mono:∀ v σ H Q Q',(∀ σ' H',Q σ' H'->Q' σ' H')->g v σ H Q->g v σ H Q'
 own:∀ v σ H Q,g v σ H Q->g v σ H λσ' H'=>Q σ' H'/\σ'.length=σ.length/\∀ i,own<=i->σ'[i]? = σ[i]?
structure uD (own:Nat)(g:TGs):Prop where
 mono:∀ v σ H Q Q',(∀ σ' H',Q σ' H'->Q' σ' H')->g v σ H Q->g v σ H Q'
 own:∀ v σ H Q,g v σ H Q->g v σ H λσ' H'=>Q σ' H'/\σ'.length=σ.length/\∀ i,own<=i->σ'[i]? = σ[i]?
theorem qS.name {own i:Nat}(h:i<own):qS own (oP i):=
 ⟨λv σ H Q Q' f q=>f _ _ q,λv σ H Q q=>⟨q,dQ,λj hj=>List.getElem?_set_ne (by omega)⟩⟩
theorem uD.nil {own:Nat} :uD own GW:=⟨λv σ H Q Q' f q=>⟨q.1,f _ _ q.2⟩,λv σ H Q q=>⟨q.1,q.2,rfl,λ_ _=>rfl⟩⟩
theorem uD.cons {own:Nat}{t:TG}{u:TGs}(h1:qS own t)(h2:uD own u):uD own (DR t u) where
 mono:=λv σ H Q Q' f ⟨x,r,e,q⟩=>⟨x,r,e,h1.mono _ _ _ _ _ (λσ' H' q=>h2.mono _ _ _ _ _ f q) q⟩
 own:=λv σ H Q ⟨x,r,e,q⟩=>⟨x,r,e,h1.mono _ _ _ _ _ (λσ1 H1 ⟨q,l1,o1⟩=>h2.mono _ _ _ _ _ (λσ2 H2 ⟨q,l2,o2⟩=>⟨q,l2.trans l1,λi hi=>(o2 i hi).trans (o1 i hi)⟩) (h2.own _ _ _ _ q)) (h1.own _ _ _ _ q)⟩
theorem qS.tup {own n:Nat}{K:PySem.W.Frag}{t:TGs}(h:uD own t):qS own (GV K n t) where
 mono:=λv σ H Q Q' f ⟨a,xs,e,q1,q2,q⟩=>⟨a,xs,e,q1,q2,h.mono _ _ _ _ _ f q⟩
 own:=λv σ H Q ⟨a,xs,e,q1,q2,q⟩=>⟨a,xs,e,q1,q2,h.own _ _ _ _ q⟩
def vR (X:Cx)(ifs:List Expr)(t:TT):Prop:=
 ∀ (pins:List (Addr×Obj)) (s:Shared) (σ:St) (H:Hp) (Q:Bool->Hp->Prop),Inv X pins σ H s->t σ H Q->wpAny (model X.prog X.w) X.A (qT ifs X.env) (TP X pins σ Q) X.xe s
def Cu:TT:=λ_ H Q=>Q true H
theorem g6 {X:Cx} :vR X [] Cu:=λ_ _ _ H _ I h=>wpAny_tests_nil ⟨H,I,h⟩
theorem lj {X:Cx}{c:Expr}{t:TT}(h:PT X c t):vR X [c] t:=λpins s σ H Q I q=>wpAny_tests_one (h pins s σ H Q I q)
def LcW (J:It)(g:TG)(tt:TT)(te:TE)(cap:List (Option Nat))(σ:St)(Q:VK)(l:Addr)(H1:Hp):Prop:=
 ∃ W:Nat->Nat->List V->Hp->Prop,(∃ m,W 0 m [] (upd H1 l (.lst [])))/\∀ i m acc H,W i m acc H->
  (J.stop i H/\Q (.ref l) H)\/(J.go i H/\∃ N:List V->Hp->Prop,(∀ tL H',N tL H'->∃ m',m'<m/\W (i+1) m' tL H')/\
   ∀ x H',J.yld i H x H'->g x (iG cap σ) H' λσ2 H2=>tt σ2 H2 λb H3=>
    if b=true then te σ2 H3 λy H4=>H4 l=some (.lst acc)/\acc.length<sizeLine/\N (acc ++ [y]) (upd H4 l (.lst (acc ++ [y])))
    else N acc H3)
def tLC (wi:TI)(cap:List (Option Nat))(g:TG)(tt:TT)(te:TE):TE:=λσ H Q=>wi σ H λJ H1=>∀ l,H1 l=none->
 LcW J g tt te cap σ Q l H1
section
variable {X:Cx}{pins:List (Addr×Obj)}{σ:St}{H1:Hp}{s2:Shared}{scope:Scope}{N:List Str}{own:Nat}{cap:List (Option Nat)}{cl:List (Str×Addr)}{fp:List Addr}
 {tg iter elt:Expr}{ifs:List Expr}{pos:Pos}{g:TG}{tt:TT}{te:TE}{wi:TI}
theorem xy {it:Addr}{tn:Nat->Heap->Prop}{J:It}{Q:VK}{RR:Value->Addr->Result->Shared->Prop}{E:Value->Shared->Prop}(I:Inv X pins σ H1 s2)(T:Turn X.prog X.w X.K tg J fp it tn)(t0:tn 0 s2.heap)
  (f:∀ b∈fp,nh X pins H1 b) (hc:X.calm=true) (C:fX X.env.scope X.N scope N own cap) (ho:qS own g)
  (lx:∀ x c,cl.lookup x=some c->X.env.cells.lookup x=some c) (oG:∀ y∈scope.names,y.2 = .free->∃ c,cl.lookup y.1=some c)
  (hg:∀ s3 H3,PG (fw X scope cl N fp s3 H3) tg g) (ht:∀ s3 H3,vR (fw X scope cl N fp s3 H3) ifs tt) (he:∀ s3 H3,PE (fw X scope cl N fp s3 H3) elt te)
  (hw:∀ l,H1 l=none->LcW J g tt te cap σ Q l H1)
  (fin:∀ l C s' H' m',Inv X pins σ H' s'->s'.heap.Ns C m'->H' C=none->Apart X pins C->Q (.ref l) H'->RR (.ref l) C (.ok .next) s'):
  wpAny (model X.prog X.w) X.A (newList []) (λacc s₃=>wpAny (model X.prog X.w) X.A (newFunctionEnv scope X.env.globals cl [] X.env.qual none .none (some X.env)) (λxE s₄=>
   codeAny (model X.prog X.w) X.A (.compStart (.ListComp elt [⟨tg,iter,ifs,0⟩] scope pos) 0 (.ref it) acc {xE with scope:=relabel scope X.env}) (RR acc xE.locals) s₄) E s₃) E s2:=by
 refine bS (wpAny_newFunctionEnv C.vn (by intro y hy;simp at hy) (λh₁ lu lr=>?_) C.kind)
 dsimp only at lu lr ⊢
 obtain⟨W,⟨m0,w0⟩,turn⟩:=hw s2.heap.objs.size I.fresh
 have I3:Inv X pins σ (upd H1 s2.heap.objs.size (.lst [])) {s2 with heap:=s2.heap.push {cls:=.type "list",dict:=none,data:=.seq ([]:List Value).toArray}} :=I.ET (ys:=[]) (its:=[]) (t':=s2.toks) .nil (aO _)
 generalize hs3:({s2 with heap:=s2.heap.push {cls:=.type "list",dict:=none,data:=.seq ([]:List Value).toArray}} :Shared)=s3 at I3
 have hh3:s3.heap=s2.heap.push {cls:=.type "list",dict:=none,data:=.seq ([]:List Value).toArray} :=by rw[<-hs3]
 rw[<-hh3]at lu lr ⊢
 have e4:({s2 with heap:=h₁,toks:=s2.toks+([]:List (Str×Value)).length} :Shared) = {s3 with heap:=h₁,toks:=s2.toks} :=by rw[<-hs3];rfl
 rw[e4]
 have k4:∀ b u,s3.heap.get? b=some u->h₁.get? b=some u:=λb u e=>lr.extBut b u (aR (aF e)) (aB _ e)
 have k3:∀ b u,s2.heap.get? b=some u->s3.heap.get? b=some u:=λb u e=>by rw[hh3];exact aB _ e
 have hb2:∀ b∈fp,b<s2.heap.objs.size:=λb hb=>by obtain⟨o,e,_⟩:=T.obj _ _ t0 b hb;exact aF e
 have f3:∀ b∈fp,nh X pins (upd H1 s2.heap.objs.size (.lst [])) b:=λb hb=>by
  obtain⟨f0,fr⟩:=f b hb
  exact⟨by rw[eL (aR (hb2 b hb))];exact f0,fr⟩
 have hb3:∀ b∈fp,b<s3.heap.objs.size:=λb hb=>by obtain⟨o,e,_⟩:=T.obj _ _ t0 b hb;exact aF (k3 b o e)
 have I4:=sI (tk:=s2.toks) I3 C lx oG (λb hb=>⟨f3 b hb,hb3 b hb⟩) lu k4
 generalize hH3:upd H1 s2.heap.objs.size (.lst [])=H3 at *
 have st4:tn 0 h₁:=T.keep _ _ _ t0 λb hb o e=>k4 b o (k3 b o e)
 have fpX:∀ {H':Hp},(∀ b∈fp,H' b=none)->∀ b∈fp,nh (fw X scope cl N fp s3 H3) [] H' b:=λ{H'} hn b hb=>by
  obtain⟨f0,f1,f2,f3',f4,f5⟩:=f3 b hb
  refine⟨hn b hb,aR (hb3 b hb),λhz=>?_,.inl hb,λx c e=>f4 x c (lx x c e),λp hp=>absurd (show p∈([]:List (Addr×Obj)) from hp) (by simp)⟩
  rcases aP.mp (I3.oR b hz)with z |z
  ·exact f1 z
  ·exact f2 z
 have loop:codeAny (model X.prog X.w) X.A (.compLoop (.ListComp elt [⟨tg,iter,ifs,0⟩] scope pos) 0 (.ref it) (.ref s2.heap.objs.size) (compEnvC scope cl s3.heap.objs.size X.env)) (RR (.ref s2.heap.objs.size) s3.heap.objs.size) {s3 with heap:=h₁,toks:=s2.toks} :=by
  refine xA (λn s'=>∃ i acc H',Inv (fw X scope cl N fp s3 H3) [] (iG cap σ) H' s'/\tn i s'.heap/\(∀ b∈fp,H' b=none)/\W i n acc H') ?_ m0 ⟨0,[],H3,I4,st4,λb hb=>(f3 b hb).1,w0⟩
  rintro n s' ⟨i,acc,H',I',st,fr,w⟩
  rcases turn i n acc H' w with⟨stop,q⟩|⟨go,NN,hNN,step⟩
  ·refine thn (T.done (fw X scope cl N fp s3 H3) rfl rfl rfl hc i [] s' _ H' (λ_ _=>False) I' (fpX fr) st stop) λr s5 ⟨hr,I5⟩=>?_
   subst hr
   obtain⟨m5,hn5,_⟩:=id I5.loc
   exact fin _ _ s5 H' m5 (comp_back I3 f3 I5) hn5 I5.free (TL.Inv.apart I3) q
  ·refine thn (T.item (fw X scope cl N fp s3 H3) rfl rfl rfl hc i [] s' _ H' (λ_ _=>False) I' (fpX fr) st go) λr s5 ⟨u,hr,h5⟩=>?_
   subst hr
   refine thn h5 λ_ s6 ⟨x,H6,I6,r6,y6,st6,fr6⟩=>?_
   have I6':=I6.pinned (fpX fr6) (T.obj _ _ st6)
   refine thn (hg s3 H3 _ s6 _ H6 x u _ I6' r6 (ho.own _ _ _ _ (step x H6 y6))) λ_ s7 ⟨σ7,H7,I7,q7,l7,o7⟩=>?_
   have cov:∀ (i:Nat) v,(iG cap σ)[i]? = some (some v)->σ7[i]? = some (some v):=λi v e=>by
    obtain⟨j,c1,c2⟩:=oA e
    by_cases hi:i<own
    ·exact(C.sj hi c1).elim
    ·rw[o7 i (by omega)];exact e
   have back:∀ {H8:Hp}{s8:Shared},Inv (fw X scope cl N fp s3 H3) ([]++oW fp s6.heap) σ7 H8 s8->Inv (fw X scope cl N fp s3 H3) [] (iG cap σ) H8 s8/\tn (i+1) s8.heap/\∀ b∈fp,H8 b=none:=λ{H8 s8} I8=>by
    refine⟨(Inv.lZ (pins:=[]) I8).weak l7.symm cov,T.keep _ _ _ st6 λb hb o e=>(I8.pin (b,o) (aD _ (aD _ (iW hb e)))).1,λb hb=>?_⟩
    obtain⟨o,e,d⟩:=T.obj _ _ st6 b hb
    exact(I8.pin (b,o) (aD _ (aD _ (iW hb e)))).2.1
   refine thn (ht s3 H3 _ s7 σ7 H7 _ I7 q7) λb s8 ⟨H8,I8,q8⟩=>?_
   cases b with
   |false=>
    rw[aH aI]at q8 ⊢
    obtain⟨m',hm,w8⟩:=hNN _ _ q8
    obtain⟨J1,J2,J3⟩:=back I8
    exact⟨m',hm,i+1,acc,H8,J1,J2,J3,w8⟩
   |true=>
    rw[aL rfl]at q8 ⊢
    refine thn (he s3 H3 _ s8 σ7 H8 _ I8 q8) λv s9 ⟨y,H9,I9,r9,ha,hz,n9⟩=>?_
    obtain⟨m',hm,w9⟩:=hNN _ _ n9
    refine thn (gD _ s9 σ7 H9 (.ref s2.heap.objs.size) [y] (.ref s2.heap.objs.size) [v] (λ_ H10=>W (i+1) m' (acc ++ [y]) H10) I9 rfl (.cons r9 .nil) ⟨_,acc,y,rfl,rfl,ha,hz,w9⟩) λ_ s10 ⟨_,H10,I10,_,w10⟩=>?_
    obtain⟨J1,J2,J3⟩:=back I10
    exact⟨m',hm,i+1,acc ++ [y],H10,J1,J2,J3,w10⟩
 exact codeAny_compStart_list loop (T.self X.A 0 _ _ _ st4 loop)
theorem mq (hi:PI X tg iter wi)(hc:X.calm=true)(C:fX X.env.scope X.N scope N own cap)(ho:qS own g)
  (hg:∀ cl fp s3 H3,PG (fw X scope cl N fp s3 H3) tg g) (ht:∀ cl fp s3 H3,vR (fw X scope cl N fp s3 H3) ifs tt) (he:∀ cl fp s3 H3,PE (fw X scope cl N fp s3 H3) elt te)
  (hs:∀ x,foldedSetIterable iter X.env x=pure x:=by intro _;rfl):PE X (.ListComp elt [⟨tg,iter,ifs,0⟩] scope pos) (tLC wi cap g tt te):=by
 intro pins s σ H Q I h
 obtain⟨cl,ecl,lx,oG⟩:=mZ (scope:=scope) (env:=X.env) λy hy hf=>I.ok.has y.1 (C.fre y hy hf)
 rw[eval_ListComp]
 refine dt (use:=none) rfl hs ecl C.kind C.loc (thn (hi pins s σ H _ I h) λxv s1 h1=>thn h1 λitv s2 h2=>?_)
 obtain⟨it,fp,tn,J,H2,e,I2,T,st2,f2,hw⟩:=h2
 subst e
 refine xy (RR:=λacc C=>compPost (model X.prog X.w) X.A X.xe none (EP X pins σ Q) acc C) I2 T st2 f2 hc C ho lx oG (hg cl fp) (ht cl fp) (he cl fp) hw λl Ca s' H' m' I' hn oO hP q=>?_
 exact⟨m',hn,λh'' yx=>⟨.ref l,H',oy I' hP oO yx,rfl,q⟩⟩
theorem r8 {i:Nat}{x:Str}{pos' AQ:Pos}(hN:X.N.Nodup)(hi':X.N[i]? = some x)(hx:X.env.scope.names.lookup x=some .local)(hi:PI X tg iter wi)(hc:X.calm=true)(C:fX X.env.scope X.N scope N own cap)(ho:qS own g)
  (hg:∀ cl fp s3 H3,PG (fw X scope cl N fp s3 H3) tg g) (ht:∀ cl fp s3 H3,vR (fw X scope cl N fp s3 H3) ifs tt) (he:∀ cl fp s3 H3,PE (fw X scope cl N fp s3 H3) elt te)
  (hsw:swapsWith (.ListComp elt [⟨tg,iter,ifs,0⟩] scope pos) (some (.Name x pos')) AQ.line X.env=pure true:=by rfl)
  (hs:∀ x,foldedSetIterable iter X.env x=pure x:=by intro _;rfl):PS X (.Assign [.Name x pos'] (.ListComp elt [⟨tg,iter,ifs,0⟩] scope pos) AQ) (AL (tLC wi cap g tt te) (oP i)):=by
 intro pins s σ H D I h
 obtain⟨cl,ecl,lx,oG⟩:=mZ (scope:=scope) (env:=X.env) λy hy hf=>I.ok.has y.1 (C.fre y hy hf)
 rw[exec_Assign_Name_used _ _ _ _ hsw]
 refine ae (b8 (ae ?_))
 show wpAny _ X.A (do let _ <-comprehension (.ListComp elt [⟨tg,iter,ifs,0⟩] scope pos) scope X.env _ (newList []) false (eval iter X.env) (some (assign (.Name x pos') X.env))) _ _ s
 refine ae (br (dt (use:=some (assign (.Name x pos') X.env)) (Q:=λ_ s'=>SP X pins D .next s') rfl hs ecl C.kind C.loc
  (thn (hi pins s σ H _ I h) λxv s1 h1=>thn h1 λitv s2 h2=>?_)) (λ_ s' hq=>ao (ao hq)) λ_ _ e=>e)
 obtain⟨it,fp,tn,J,H2,e,I2,T,st2,f2,hw⟩:=h2
 subst e
 refine xy (RR:=λacc C=>compPost (model X.prog X.w) X.A X.xe (some (assign (.Name x pos') X.env)) (λ_ s'=>SP X pins D .next s') acc C) I2 T st2 f2 hc C ho lx oG (hg cl fp) (ht cl fp) (he cl fp) hw λl Ca s' H' m' I' hn oO hP q=>?_
 show wpAny _ X.A (assign (.Name x pos') X.env (.ref l)) _ _ _
 refine wpAny_assign_Name (pY I' hN hi' (.inl hx) (v:=.ref l) rfl (λs5 I5 ⟨a,sb,ha⟩=>?_) (.inr hx))
 have hne:Ca≠a:=by
  rcases ha with z |z
  ·rw[z];exact hP.loc
  ·exact λe=>hP.cel x a z e.symm
 refine⟨m',hn.sameBut sb hne,λh'' yx=>⟨_,H',oy I5 hP oO yx,q⟩⟩
end
section
variable {K:PySem.W.Frag}{a l:Addr}{xs:List V}{g:TG}{tt:TT}{te:TE}{cap:List (Option Nat)}{σ:St}{Q:VK}{H1:Hp}
theorem C4 (Pv:Nat->List V->Hp->Prop)(h0:Pv 0 [] (upd H1 l (.lst [])))(hl:∀ i acc H,i<=xs.length->Pv i acc H->SqL K H a xs)
  (hs:∀ i x acc H,xs[i]? = some x->Pv i acc H->g x (iG cap σ) H λσ2 H2=>tt σ2 H2 λb H3=>
    if b=true then te σ2 H3 λy H4=>H4 l=some (.lst acc)/\acc.length<sizeLine/\Pv (i+1) (acc ++ [y]) (upd H4 l (.lst (acc ++ [y])))
    else Pv (i+1) acc H3) (hd:∀ acc H,Pv xs.length acc H->Q (.ref l) H):LcW (Itl K a) g tt te cap σ Q l H1:=by
 refine⟨λi m acc H=>m=xs.length-i/\i<=xs.length/\Pv i acc H,⟨xs.length,by simp,aO _,h0⟩,?_⟩
 rintro i m acc H ⟨rfl,hi,p⟩
 have q:=hl i acc H hi p
 by_cases hlt:i<xs.length
 ·refine .inr ⟨⟨xs,xs[i],q,by simp[hlt]⟩,Pv (i+1),λtL H' p'=>⟨xs.length-(i+1),by omega,rfl,hlt,p'⟩,λx H' y=>?_⟩
  obtain⟨e,y⟩:=y
  subst e
  exact hs i x acc _ (y xs q) p
 ·have e:i=xs.length:=by omega
  subst e
  exact .inl ⟨⟨xs,q,av _⟩,hd acc H p⟩
theorem eE {H:Hp}{l:Addr}{o:HO}(hn:H l=none):eQ H (upd H l o):=λb u e=>by rw[eL (eN e hn)];exact e
theorem jj {α:Type}(ds:List α)(p:α->Bool)(f:α->V)(hn:H1 l=none)(hx:SqL K H1 a xs)(hlen:xs.length=ds.length)(hz:xs.length<sizeLine)
  (hs:∀ (i:Nat) x d H,xs[i]? = some x->ds[i]? = some d->eQ H1 H->∀ (P1:VK) (P0:Hp->Prop),(p d=true->P1 (f d) H)->(p d=false->P0 H)->
   g x (iG cap σ) H λσ2 H2=>tt σ2 H2 λb H3=>if b=true then te σ2 H3 P1 else P0 H3)
  (hq:Q (.ref l) (upd H1 l (.lst ((ds.filter p).map f)))):LcW (Itl K a) g tt te cap σ Q l H1:=by
 refine C4 (λi acc H=>acc=((ds.take i).filter p).map f/\H=upd H1 l (.lst acc)) ⟨rfl,rfl⟩ (λi acc H _ ⟨_,e⟩=>by rw[e];exact(eE hn).seq hx) ?_ ?_
 ·rintro i x acc H hi ⟨e1,e2⟩
  have hlt:i<xs.length:=(ah.mp hi).1
  have hd:ds[i]? = some (ds[i]'(by omega)):=by simp
  generalize ds[i]'(by omega)=d at hd
  have step:((ds.take (i+1)).filter p).map f=acc++(if p d=true then[f d]else[]):=by
   rw[take_succ_filter p ds i d hd,ax,e1]
   cases p d<;>rfl
  refine hs i x d H hi hd (by rw[e2];exact eE hn) _ _ (λhp=>?_) (λhp=>?_)
  ·refine⟨by rw[e2,eG],?_,?_,?_⟩
   ·have h1:acc.length<=i:=by
     rw[e1,aa]
     exact bz (bO _ _) (by rw[bj];omega)
    omega
   ·rw[step,hp];rfl
   ·rw[e2,pf]
  ·refine⟨?_,e2⟩
   rw[step,hp,aH aI,cM]
 ·rintro acc H ⟨e1,e2⟩
  rw[hlen,bo]at e1
  rw[e2,e1]
  exact hq
end
mutual
def Dg (L T:Addr->List V->Prop):PyData->V->Prop
 |.none,v=>v = .non
 |.bool b,v=>v = .bl b
 |.int i,v=>v = .int i
 |.str x,v=>v = .str x
 |.list ds,v=>∃ a vs,v = .ref a/\L a vs/\Dgs L T ds vs
 |.tuple ds,v=>∃ a vs,v = .ref a/\T a vs/\Dgs L T ds vs
 |.dict _,_=>False
def Dgs (L T:Addr->List V->Prop):List PyData->List V->Prop
 |[],vs=>vs = []
 |d::ds,vs=>∃ v r,vs=v::r/\Dg L T d v/\Dgs L T ds r
end
mutual
theorem Dg.mono {L T L' T':Addr->List V->Prop}(hL:∀ a vs,L a vs->L' a vs)(hT:∀ a vs,T a vs->T' a vs):∀ {d:PyData}{v:V},Dg L T d v->Dg L' T' d v
 |.none,_,h=>by simpa only[Dg]using h
 |.bool _,_,h=>by simpa only[Dg]using h
 |.int _,_,h=>by simpa only[Dg]using h
 |.str _,_,h=>by simpa only[Dg]using h
 |.list ds,_,h=>by
  simp only[Dg]at h ⊢
  obtain⟨a,vs,e,l,q⟩:=h
  exact⟨a,vs,e,hL a vs l,Dgs.mono hL hT q⟩
 |.tuple ds,_,h=>by
  simp only[Dg]at h ⊢
  obtain⟨a,vs,e,l,q⟩:=h
  exact⟨a,vs,e,hT a vs l,Dgs.mono hL hT q⟩
 |.dict _,_,h=>by simp only[Dg]at h
theorem Dgs.mono {L T L' T':Addr->List V->Prop}(hL:∀ a vs,L a vs->L' a vs)(hT:∀ a vs,T a vs->T' a vs):∀ {ds:List PyData}{vs:List V},Dgs L T ds vs->Dgs L' T' ds vs
 |[],_,h=>by simpa only[Dgs]using h
 |d::ds,_,h=>by
  simp only[Dgs]at h ⊢
  obtain⟨v,r,e,l,q⟩:=h
  exact⟨v,r,e,Dg.mono hL hT l,Dgs.mono hL hT q⟩
end
section
variable {L T:Addr->List V->Prop}
theorem gS {i:Int}{v:V} :Dg L T (.int i) v↔v = .int i:=by simp only[Dg]
theorem yE {i:Str}{v:V} :Dg L T (.str i) v↔v = .str i:=by simp only[Dg]
theorem gR {ds:List PyData}{v:V} :Dg L T (.list ds) v↔∃ a vs,v = .ref a/\L a vs/\Dgs L T ds vs:=by simp only[Dg]
theorem gT {ds:List PyData}{v:V} :Dg L T (.tuple ds) v↔∃ a vs,v = .ref a/\T a vs/\Dgs L T ds vs:=by simp only[Dg]
theorem fQ {vs:List V} :Dgs L T [] vs↔vs = []:=by simp only[Dgs]
theorem fy {d:PyData}{ds:List PyData}{vs:List V} :Dgs L T (d::ds) vs↔∃ v r,vs=v::r/\Dg L T d v/\Dgs L T ds r:=by simp only[Dgs]
theorem Dgs.length:∀ {ds:List PyData}{vs:List V},Dgs L T ds vs->vs.length=ds.length
 |[],_,h=>by rw[fQ.mp h];rfl
 |d::ds,_,h=>by
  obtain⟨v,r,rfl,_,q⟩:=fy.mp h
  rw[bc,bc,Dgs.length q]
theorem mB:∀ {ns:List Int}{vs:List V},Dgs L T (ns.map .int) vs↔vs=ns.map V.int
 |[],vs=>fQ
 |n::ns,vs=>by
  rw[aQ,fy]
  constructor
  ·rintro⟨v,r,rfl,h1,h2⟩
   rw[gS.mp h1,mB.mp h2];rfl
  ·rintro rfl
   exact⟨_,_,rfl,gS.mpr rfl,mB.mpr rfl⟩
theorem Dgs.append:∀ {ds es:List PyData}{vs us:List V},Dgs L T ds vs->Dgs L T es us->Dgs L T (ds++es) (vs++us)
 |[],_,_,_,h,k=>by rw[fQ.mp h];exact k
 |d::ds,_,_,_,h,k=>by
  obtain⟨v,r,rfl,h1,q⟩:=fy.mp h
  exact fy.mpr ⟨v,_,rfl,h1,Dgs.append q k⟩
theorem Dgs.one {d:PyData}{v:V}(h:Dg L T d v):Dgs L T [d] [v]:=fy.mpr ⟨v,[],rfl,h,fQ.mpr rfl⟩
theorem Dgs.two {d e:PyData}{v u:V}(h:Dg L T d v)(k:Dg L T e u):Dgs L T [d,e] [v,u]:=fy.mpr ⟨v,[u],rfl,h,.one k⟩
theorem Dgs.get:∀ {ds:List PyData}{vs:List V}{i:Nat}{v:V},Dgs L T ds vs->vs[i]? = some v->∃ d,ds[i]? = some d/\Dg L T d v
 |[],_,_,_,h,e=>by rw[fQ.mp h]at e;simp at e
 |d::ds,_,0,v,h,e=>by
  obtain⟨x,r,rfl,h1,q⟩:=fy.mp h
  simp at e;subst e
  exact⟨d,rfl,h1⟩
 |d::ds,_,i+1,v,h,e=>by
  obtain⟨x,r,rfl,h1,q⟩:=fy.mp h
  obtain⟨d',e1,e2⟩:=Dgs.get (i:=i) (v:=v) q (by simpa using e)
  exact⟨d',by simpa using e1,e2⟩
theorem Dgs.get':∀ {ds:List PyData}{vs:List V}{i:Nat}{d:PyData},Dgs L T ds vs->ds[i]? = some d->∃ v,vs[i]? = some v/\Dg L T d v
 |[],_,_,_,h,e=>by simp at e
 |d::ds,_,0,d',h,e=>by
  obtain⟨x,r,rfl,h1,q⟩:=fy.mp h
  simp at e;subst e
  exact⟨x,rfl,h1⟩
 |d::ds,_,i+1,d',h,e=>by
  obtain⟨x,r,rfl,h1,q⟩:=fy.mp h
  obtain⟨v,e1,e2⟩:=Dgs.get' (i:=i) (d:=d') q (by simpa using e)
  exact⟨v,by simpa using e1,e2⟩
theorem Dgs.insert:∀ {ds:List PyData}{vs:List V} (i:Nat) {d:PyData}{v:V},Dgs L T ds vs->Dg L T d v->Dgs L T (ds.take i++d::ds.drop i) (vs.take i++v::vs.drop i)
 |ds,vs,0,d,v,h,k=>fy.mpr ⟨v,vs,by simp,k,by simpa using h⟩
 |[],vs,i+1,d,v,h,k=>by rw[fQ.mp h];simpa using Dgs.one k
 |x::ds,vs,i+1,d,v,h,k=>by
  obtain⟨y,r,rfl,h1,q⟩:=fy.mp h
  exact fy.mpr ⟨y,_,rfl,h1,Dgs.insert i q k⟩
end
abbrev Da (K:PySem.W.Frag)(H:Hp):PyData->V->Prop:=Dg (SqL K H) (SqT K H)
abbrev Das (K:PySem.W.Frag)(H:Hp):List PyData->List V->Prop:=Dgs (SqL K H) (SqT K H)
theorem fv {K:PySem.W.Frag}{H H':Hp}{a:Addr}{xs:List V}(e:eQ H H')(h:SqT K H a xs):SqT K H' a xs:=by
 rcases h with(h |⟨o,h⟩)|h
 ·exact .inl (.inl (e _ _ h))
 ·exact .inl (.inr ⟨o,e _ _ h⟩)
 ·exact .inr h
theorem Da.same {K:PySem.W.Frag}{H H':Hp}(e:eQ H H'){d:PyData}{v:V}(h:Da K H d v):Da K H' d v:=Dg.mono (λ_ _ q=>e.seq q) (λ_ _ q=>fv e q) h
theorem Das.same {K:PySem.W.Frag}{H H':Hp}(e:eQ H H'){d:List PyData}{v:List V}(h:Das K H d v):Das K H' d v:=Dgs.mono (λ_ _ q=>e.seq q) (λ_ _ q=>fv e q) h
section
variable {X:Cx}{pins:List (Addr×Obj)}{σ:St}{H:Hp}{s:Shared}
mutual
theorem Da.reads (I:Inv X pins σ H s):∀ {d:PyData}{v:V}{u:Value},Da X.K H d v->RelV v u->∃ as,Reads s.heap u d as
 |.none,v,u,h,r=>by
  have e:v = .non:=by simpa only[Dg]using h
  subst e;cases r;exact⟨_,.none⟩
 |.bool b,v,u,h,r=>by
  have e:v = .bl b:=by simpa only[Dg]using h
  subst e;cases r;exact⟨_,.bool b⟩
 |.int i,v,u,h,r=>by
  have e:v = .int i:=by simpa only[Dg]using h
  subst e;obtain⟨t,rfl⟩:=r;exact⟨_,.int i t⟩
 |.str i,v,u,h,r=>by
  have e:v = .str i:=by simpa only[Dg]using h
  subst e;obtain⟨t,rfl⟩:=r;exact⟨_,.str i t⟩
 |.list ds,v,u,h,r=>by
  obtain⟨a,vs,rfl,l,q⟩:=gR.mp h
  cases r
  obtain⟨its,rv,p,hz⟩:=I.list l
  obtain⟨as,rs⟩:=Das.reads I q rv
  obtain⟨o,ho,hc,n,hd⟩:=p.isList
  exact⟨_,.list ho hc hd (by simpa using rs)⟩
 |.tuple ds,v,u,h,r=>by
  obtain⟨a,vs,rfl,l,q⟩:=gT.mp h
  cases r
  obtain⟨its,rv,p,hz⟩:=I.tuple l
  obtain⟨as,rs⟩:=Das.reads I q rv
  obtain⟨o,ho,hc,n,hd⟩:=p
  exact⟨_,.tuple ho hc hd (by simpa using rs)⟩
 |.dict _,v,u,h,r=>by simp only[Dg]at h
theorem Das.reads (I:Inv X pins σ H s):∀ {ds:List PyData}{vs:List V}{us:List Value},Das X.K H ds vs->Vals vs us->∃ as,ReadsAll s.heap us ds as
 |[],vs,us,h,r=>by
  rw[fQ.mp h]at r;cases r;exact⟨_,.nil⟩
 |d::ds,vs,us,h,r=>by
  obtain⟨v,w,rfl,h1,q⟩:=fy.mp h
  cases r with
  |cons r1 r2=>
   obtain⟨as,e1⟩:=Da.reads I h1 r1
   obtain⟨bs,e2⟩:=Das.reads I q r2
   exact⟨_,.cons e1 e2⟩
end
end
section
variable {X:Cx}
def OkD (d:PyData):Prop:=d.canLay0=true/\d.depth<=20
def IH (K:PySem.W.Frag):R2:=λx y H Q=>∃ d e,Da K H d x/\Da K H e y/\OkD d/\OkD e/\Q (.bl (PyData.eqv d e)) H
def IF (K:PySem.W.Frag):R2:=λx y H Q=>∃ d e,Da K H d x/\Da K H e y/\OkD d/\OkD e/\Q (.bl (!PyData.eqv d e)) H
theorem ve (hu:X.A.units+64<cLine):OpR X (compareOp .Eq) (IH X.K):=by
 intro pins s σ H x y v u Q I rx ry h
 obtain⟨d,e,h1,h2,o1,o2,q⟩:=h
 obtain⟨as,r1⟩:=Da.reads I h1 rx
 obtain⟨bs,r2⟩:=Da.reads I h2 ry
 exact SeqAt.compareEq_reads r1 r2 o1.1 o2.1 (by have:=o1.2;have:=o2.2;omega) ⟨.bl _,H,I,rfl,q⟩
theorem yh (hu:X.A.units+64<cLine):OpR X (compareOp .NotEq) (IF X.K):=by
 intro pins s σ H x y v u Q I rx ry h
 obtain⟨d,e,h1,h2,o1,o2,q⟩:=h
 obtain⟨as,r1⟩:=Da.reads I h1 rx
 obtain⟨bs,r2⟩:=Da.reads I h2 ry
 exact SeqAt.compareNe_reads r1 r2 o1.1 o2.1 (by have:=o1.2;have:=o2.2;omega) ⟨.bl _,H,I,rfl,q⟩
def Ce (ds:List PyData):Prop:=PyData.canLayAll0 ds=true/\PyData.depthAll ds<=20
def CD (K:PySem.W.Frag)(neg:Bool):R2:=λx y H Q=>∃ ds d,Da K H (.list ds) y/\Da K H d x/\Ce ds/\OkD d/\Q (.bl (if neg then !(ds.any λz=>PyData.eqv z d)else ds.any λz=>PyData.eqv z d)) H
theorem yi (hu:X.A.units+64<cLine):OpR X (compareOp .In) (CD X.K false):=by
 intro pins s σ H x y v u Q I rx ry h
 obtain⟨ds,d,h1,h2,o1,o2,q⟩:=h
 obtain⟨as,r1⟩:=Da.reads I h1 ry
 obtain⟨bs,r2⟩:=Da.reads I h2 rx
 exact SeqAt.in_list_reads r1 r2 o1.1 o2.1 (by have:=o1.2;have:=o2.2;omega) ⟨.bl _,H,I,rfl,q⟩
theorem kO (hu:X.A.units+64<cLine):OpR X (compareOp .NotIn) (CD X.K true):=by
 intro pins s σ H x y v u Q I rx ry h
 obtain⟨ds,d,h1,h2,o1,o2,q⟩:=h
 obtain⟨as,r1⟩:=Da.reads I h1 ry
 obtain⟨bs,r2⟩:=Da.reads I h2 rx
 exact SeqAt.notIn_list_reads r1 r2 o1.1 o2.1 (by have:=o1.2;have:=o2.2;omega) ⟨.bl _,H,I,rfl,q⟩
end
theorem g8 {α:Type}{f:α->PyData}(h:∀ x,(f x).canLay0=true):∀ l:List α,PyData.canLayAll0 (l.map f)=true
 |[]=>by simp[PyData.canLayAll0]
 |x::l=>by simp[PyData.canLayAll0,h x,g8 h l]
theorem gO {α:Type}{f:α->PyData}{k:Nat}(h:∀ x,(f x).depth<=k):∀ l:List α,PyData.depthAll (l.map f)<=k
 |[]=>by simp[PyData.depthAll]
 |x::l=>by
  simp only[aQ,PyData.depthAll]
  exact Nat.max_le.mpr ⟨h x,gO h l⟩
def dI (ns:List Int):PyData:=.list (ns.map .int)
def dP (p:Int×Int):PyData:=.tuple [.int p.1,.int p.2]
def dJ (js:List (Int×Int)):PyData:=.list (js.map dP)
def dL (l:Int×List (Int×Int)):PyData:=.tuple [.int l.1,dJ l.2]
theorem pI (i:Int):OkD (.int i):=⟨rfl,by simp[PyData.depth]⟩
theorem iE (ns:List Int):OkD (dI ns):=⟨by simp only[dI,PyData.canLay0];exact g8 (λ_=>rfl) ns,by
 simp only[dI,PyData.depth]
 have:=gO (f:=PyData.int) (k:=0) (λ_=>by simp[PyData.depth]) ns
 omega⟩
theorem sY (p:Int×Int):(dP p).canLay0=true:=by simp[dP,PyData.canLay0,PyData.canLayAll0]
theorem vG (p:Int×Int):(dP p).depth<=1:=by simp[dP,PyData.depth,PyData.depthAll]
theorem DM (p:Int×Int):OkD (dP p):=⟨sY p,by have:=vG p;omega⟩
theorem Bj (js:List (Int×Int)):Ce (js.map dP):=⟨g8 sY js,by have:=gO vG js;omega⟩
theorem zz (js:List (Int×Int)):(dJ js).depth<=2:=by simp only[dJ,PyData.depth];have:=gO vG js;omega
theorem Gn (js:List (Int×Int)):OkD (dJ js):=⟨by simp only[dJ,PyData.canLay0];exact g8 sY js,by have:=zz js;omega⟩
theorem Ds (l:Int×List (Int×Int)):(dL l).depth<=3:=by
 simp only[dL,PyData.depth,PyData.depthAll]
 have:=zz l.2
 omega
theorem uq (l:Int×List (Int×Int)):OkD (dL l):=⟨by simp only[dL,PyData.canLay0,PyData.canLayAll0,Bool.and_true,Bool.true_and];exact(Gn l.2).1,by have:=Ds l;omega⟩
theorem xp {d:PyData}(h:OkD d):PyData.eqv d d=true:=SeqAt.eqv_refl d h.1
theorem DT (p q:Int×Int):PyData.eqv (dP p) (dP q)=decide (p=q):=by
 obtain⟨a,b⟩:=p
 obtain⟨c,d⟩:=q
 simp only[dP,PyData.eqv,PyData.eqvAll,Bool.and_true]
 rw[bR]
 simp
theorem D0 (js:List (Int×Int))(p:Int×Int):((js.map dP).any λz=>PyData.eqv z (dP p))=decide (p∈js):=by
 rw[List.any_map,bR,dN,b6]
 constructor
 ·rintro⟨x,hx,e⟩
  have e':PyData.eqv (dP x) (dP p)=true:=e
  rw[DT,b6]at e'
  rw[<-e'];exact hx
 ·intro h
  exact⟨p,h,by show PyData.eqv (dP p) (dP p)=true;rw[DT];simp⟩
theorem vE (ds:List PyData):PyData.eqv (.list ds) (.list [])=ds.isEmpty:=by
 cases ds<;>simp[PyData.eqv,PyData.eqvAll]
theorem CU:OkD (.list []):=iE []
section
variable {X:Cx}
theorem C8 (its:List Value)(k:Nat)(y:Value):(its.toArray.extract 0 k).push y++its.toArray.extract k=(its.take k++y::its.drop k).toArray:=PySem.W.kl_ins_eq its k y
def CC:V->List V->Hp->VK->Prop:=λx vs H Q=>∃ l xs i y,x = .ref l/\vs = [.int i,y]/\H l=some (.lst xs)/\0<=i/\i<=xs.length/\xs.length<sizeLine/\Q .non (upd H l (.lst (xs.take i.toNat++y::xs.drop i.toNat)))
theorem ur:MtM X "list.insert" CC:=by
 intro pins s σ H x vs v us Q I rx rv h
 obtain⟨l,xs,i,y,rfl,rfl,hH,h0,h1,hz,q⟩:=h
 cases rx
 obtain⟨ui,u,rfl,ri,ru⟩:=rv.two
 obtain⟨t,rfl⟩:=ri
 obtain⟨z,its,n,r,hl,e⟩:=I.Al hH
 have hs:its.toArray.size<=sizeLine:=by rw[aJ];omega
 have hf:Builtin.List.listFitsIndex i=true:=by
  unfold Builtin.List.listFitsIndex
  have h63:(sizeLine:Nat)<2 ^ 62:=by rw[dD];decide
  simp only[eC,decide_eq_true_eq]
  constructor<;>omega
 refine call_meets eh ⟨_,e,rfl⟩ PySem.F.entry_list_insert (PySem.F.args_list_insert_3 _ _ _) (PySem.AutoSeq1.list_insert_list_int_val_1 l its.toArray n i t u (by simp[hf]) hs) ⟨e,?_⟩
 refine⟨.non,_,I.ES (its':=its.take i.toNat++u::its.drop i.toNat) (ys:=xs.take i.toNat++y::xs.drop i.toNat) hH e ?_ ((r.take i.toNat).append (.cons ru (r.drop i.toNat))) ?_,rfl,q⟩
 ·have hk:(if i<0 then(i+(its.toArray.size:Int)).toNat else min i.toNat its.toArray.size)=i.toNat:=by
   rw[aH (by omega),aJ]
   omega
  show(its.toArray.extract 0 (if i<0 then(i+(its.toArray.size:Int)).toNat else min i.toNat its.toArray.size)).push u++its.toArray.extract (if i<0 then(i+(its.toArray.size:Int)).toNat else min i.toNat its.toArray.size)=_
  rw[hk,C8]
 ·rw[ai,bc,bj,bG]
  omega
end
def srt (ns:List Int):List Int:=ns.mergeSort (λa b=>decide (a<=b))
theorem ph (ns:List Int):(srt ns).Perm ns:=List.mergeSort_perm ns _
theorem v7 (ns:List Int):(srt ns).Pairwise (· <= ·):=by
 have h:=List.pairwise_mergeSort (le:=λa b:Int=>decide (a<=b)) (by intro a b c h1 h2;simp only[decide_eq_true_eq]at *;omega) (by intro a b;simp only[Bool.or_eq_true,decide_eq_true_eq];omega) ns
 exact h.imp (by intro a b h;simpa using h)
theorem xV {a b:List Int}(hp:a.Perm b)(ha:a.Pairwise (· <= ·))(hb:b.Pairwise (· <= ·)):a=b:=PySem.W.ksm_same hp ha hb
theorem AN {a ns:List Int}(hp:a.Perm ns)(ha:a.Pairwise (· <= ·)):a=srt ns:=xV (hp.trans (ph ns).symm) ha (v7 ns)
theorem zS {a b:List Int}(hp:a.Perm b):srt a=srt b:=AN ((ph a).trans hp) (v7 a)
theorem Cz {ns:List Int}{x:Int} :x∈srt ns↔x∈ns:=(ph ns).mem_iff
theorem mR (ns:List Int):(srt ns).length=ns.length:=(ph ns).length_eq
section
variable {X:Cx}
theorem qI:mO X (.builtin "sorted") (λxs H Q=>∃ a ns,xs = [.ref a]/\SqL X.K H a (ns.map V.int)/\ns.length<64/\∀ p,H p=none->Q (.ref p) (upd H p (.lst ((srt ns).map V.int)))):=by
 intro pins s σ H xs us Q I r h
 obtain⟨a,ns,rfl,hx,h64,q⟩:=h
 obtain⟨u,rfl,ru⟩:=vals1 r
 cases ru
 obtain⟨its,rv,p,hz⟩:=I.list hx
 have hlen:=rv.length
 rw[aa]at hlen
 refine sorted_ints p.isList (intsAre_of rv) (by omega) λout ns' h1 h2 h3=>?_
 obtain⟨e,he⟩:=sortedAll_at s.heap its out
 have e':ns'=srt ns:=AN h2 h3
 subst e'
 have vo:Vals ((srt ns).map V.int) out.toList:=pU h1
 refine⟨.ref (s.heap.objs.size+1),_,I.laid (t':=s.toks) (o:=.lst ((srt ns).map V.int)) (λb ob q=>sortedAll_old q) (Nat.le_succ _) ⟨?_,out.toList,e,vo,?_⟩,rfl,q _ (I.hok.fresh (Nat.le_succ _))⟩
 ·rw[aa,mR]
  rw[aa]at hz
  exact hz
 ·rw[he,Array.toArray_toList]
end
theorem Inv.pW {X:Cx}{pins:List (Addr×Obj)}{σ:St}{H:Hp}{s:Shared}{h':Heap}{t':Nat}{ch:List Addr}{xs:List V}{us:List Value}(I:Inv X pins σ H s)(hf:∀ b∈ch,nh X pins H b)
  (keep:∀ b o,b∉ch->s.heap.get? b=some o->h'.get? b=some o) (r:Vals xs us) (hz:xs.length<=sizeLine) (ht:h'.get? s.heap.objs.size=some {cls:=.type "tuple",data:=.seq us.toArray}):
  Inv X pins σ (upd H s.heap.objs.size (.tup xs)) {s with heap:=h',toks:=t'} :=by
 have hn:H s.heap.objs.size=none:=I.fresh
 have nch:∀ b u,H b=some u->b∉ch:=λb u q z=>by rw[(hf b z).1]at q;cases q
 refine I.step (g':=s.gens) (d':=s.drawn) (ch:=ch) (λb hb=>?_) (λb o _ _ hc q _=>keep b o hc q) (λb o _ _ hc q _=>⟨o.slots,keep b o hc q⟩) (λb o _ q n=>?_)
  (λb o hc q=>⟨o,keep b o hc q⟩) (λb ys q=>by rw[eL (eN q hn)];exact q) (λb o ys q=>by rw[eL (eN q hn)];exact q) (λb ps q=>⟨#[],by rw[eL (eN q hn),q];simp⟩) (λm hm=>?_) (λb u q=>?_) I.bare
 ·obtain⟨f0,f1,f2,f3,f4,f5⟩:=hf b hb
  exact⟨f3,f1,f4,f5⟩
 ·rw[eL (aR (aF q))];exact n
 ·obtain⟨o,es,ep,ho,r⟩:=hm
  exact⟨o,es,ep,keep _ o (λz=>(hf _ z).2.1 rfl) ho,r⟩
 ·by_cases hb:b=s.heap.objs.size
  ·subst hb
   rw[eG]at q
   cases q
   exact⟨hz,us,r,⟨_,ht,rfl,_,rfl⟩⟩
  ·rw[eL hb]at q
   refine(I.hok b u q).lH (λc v hc q'=>keep c v ?_ q') (λc z=>by rw[eL (eN z hn)];exact z) λc ys z=>by rw[eL (eN z hn)];exact z
   rcases hc with z |z
   ·rw[z];exact nch b u q
   ·exact nch c _ z
def Ite (K:PySem.W.Frag)(a:Addr):It:=
 ⟨λi H=>∃ xs x,SqL K H a xs/\xs[i]? = some x,λi H x H'=>∃ p,H p=none/\x = .ref p/\∀ xs y,SqL K H a xs->xs[i]? = some y->H'=upd H p (.tup [.int i,y]),λi H=>∃ xs,SqL K H a xs/\xs.length<=i⟩
theorem zP {P:Program}{w:World}{K:PySem.W.Frag}{es:List Expr}{x1:Nat}{pt:Pos}(a e it:Addr)(hne:e≠it):
  Turn P w K (.Tuple es x1 pt) (Ite K a) [e,it] e (λi h=>∃ old,IsEnum h e it i old/\h.IsListIter it a i) where
 mem:=by simp
 obj:=λi h st b hb=>by
  obtain⟨old,h1,h2⟩:=st
  rcases aP.mp hb with z |z
  ·subst z;exact⟨_,h1,λv z=>by cases z⟩
  ·have z:b=it:=by simpa using z
   subst z
   obtain⟨o,ho,c,d⟩:=h2
   exact⟨o,ho,λv z=>by rw[d]at z;cases z⟩
 keep:=λi h h' ⟨old,h1,h2⟩ k=>⟨old,k e (by simp) _ h1,h2.at λo q=>k it (by simp) o q⟩
 item:=by
  intro X hP hw hK hc i pins s σ H E I hf st hg
  subst hP hw hK
  obtain⟨old,h1,h2⟩:=st
  obtain⟨xs,x,hq,hx⟩:=hg
  obtain⟨its,rv,p,hz⟩:=I.list hq
  obtain⟨u,hu,ru⟩:=rv.get hx
  have lt1:e<s.heap.objs.size:=aF h1
  refine wpAny_pyNext_enum_item h1 h2 p.isList (x:=u) (by simpa using hu) hne λh' k1 k2 k3 k4 k5=>?_
  refine⟨_,rfl,?_⟩
  refine wpAny_letOwnedTupleGo_enum (s:={s with heap:=h',toks:=s.toks+1}) k1 λh'' m1 m2=>?_
  have keep:∀ b o,b∉ [e,it]->s.heap.get? b=some o->h''.get? b=some o:=λb o hb q=>m2.extBut b o (λz=>hb (by simp[z])) (k5 b o (λz=>hb (by simp[z])) (λz=>hb (by simp[z])) q)
  have ht:h''.get? s.heap.objs.size=some {cls:=.type "tuple",data:=.seq [Value.int i s.toks,u].toArray} :=m2.extBut _ _ (cI lt1) k3
  have J1:Inv X pins σ (upd H s.heap.objs.size (.tup [.int i,x])) {s with heap:=h'',toks:=s.toks+1} :=Inv.pW I hf keep (.cons ⟨_,rfl⟩ (.cons ru .nil)) (by show 2<=sizeLine;decide) ht
  have hn:H s.heap.objs.size=none:=I.fresh
  refine⟨.ref s.heap.objs.size,_,J1,rfl,⟨_,hn,rfl,λys y hy h=>?_⟩,⟨u,?_,?_⟩,λb hb=>?_⟩
  ·have e1:=I.mr hy hq
   subst e1
   rw[hx]at h
   cases h
   rfl
  ·have e1:((i+1:Nat):Int)=(i:Int)+1:=by omega
   rw[e1];exact m1
  ·exact k2.extBut m2.extBut (bB hne)
  ·obtain⟨o,q,_⟩:∃ o,s.heap.get? b=some o/\True:=by
    rcases aP.mp hb with z |z
    ·subst z;exact⟨_,h1,trivial⟩
    ·have z:b=it:=by simpa using z
     subst z
     obtain⟨o,ho,_⟩:=h2
     exact⟨o,ho,trivial⟩
   rw[eL (aR (aF q))]
   exact(hf b hb).1
 done:=by
  intro X hP hw hK hc i pins s σ H E I hf st hg
  subst hP hw hK
  obtain⟨old,h1,h2⟩:=st
  obtain⟨xs,hq,hx⟩:=hg
  obtain⟨its,rv,p,hz⟩:=I.list hq
  obtain⟨g0,g1,g2,g3,g4,g5⟩:=hf it (by simp)
  have hl:=rv.length
  exact wpAny_pyNext_enum_end (I.ok.hd hc) h1 h2 p.isList (by simp;omega) λh' eb=>⟨rfl,I.turned (t':=s.toks) (λb o hb e=>eb b o hb e) g0 g1 g3 g4 g5⟩
 self:=λ_ _ _ _ _ ⟨old,h1,h2⟩ h=>wpAny_pyIter_enum h1 h
section
variable {X:Cx}
def GB (K:PySem.W.Frag)(ta:TA):TI:=λσ H R=>ta σ H λvs H1=>∃ a,vs = [.ref a]/\(∃ xs,SqL K H1 a xs)/\R (Ite K a) H1
theorem CJ {a:Expr}{ta:TA}{p pos:Pos}{es:List Expr}{x1:Nat}{pt:Pos}(hg:Gl X "enumerate")(hm:X.mg "enumerate" = none)(ha:PA X [a] ta)(hs:starEach [a] X.env = [(false,eval a X.env)]:=by rfl):PI X (.Tuple es x1 pt) (.Call (.Name "enumerate" p) [a] [] pos) (GB X.K ta):=by
 intro pins s σ H R I h
 refine Call_ (oX I hg hm boot_enumerate (bU (thn (ha pos pins s σ H _ I h) λus s1 ⟨vs,H1,I1,r1,q1⟩=>?_) hs rfl))
 obtain⟨a,e,⟨xs,hq⟩,q⟩:=q1
 subst e
 obtain⟨u,rfl,ru⟩:=vals1 r1
 cases ru
 obtain⟨its,rv,pl,hz⟩:=I1.list hq
 refine call_enumerate_list pl.isList λh' k1 k2 k3 k4=>?_
 refine wpAny_pyIter_enum (s:={s1 with heap:=h'}) k1 ?_
 refine⟨s1.heap.objs.size+1,[s1.heap.objs.size+1,s1.heap.objs.size],_,_,H1,rfl,I1.kept (t':=s1.toks) k4,zP a _ _ (Nat.succ_ne_self _),⟨.none,k1,k2⟩,λb hb=>?_,q⟩
 have hb':s1.heap.objs.size<=b:=by
  rcases aP.mp hb with z |z
  ·rw[z];exact Nat.le_succ _
  ·have z:b=s1.heap.objs.size:=by simpa using z
   rw[z];exact av _
 exact I1.yD hb' (I1.hok.fresh hb')
end
theorem BQ {K:PySem.W.Frag}{a:Addr}{xs:List V}{g:TG}{tb:TS}{D:Ends}{σ:St}{H:Hp}(Pv:Nat->St->Hp->Prop)(h0:Pv 0 σ H)(hl:∀ i σ H,i<=xs.length->Pv i σ H->SqL K H a xs)
  (hs:∀ i x σ H p,xs[i]? = some x->Pv i σ H->H p=none->g (.ref p) σ (upd H p (.tup [.int i,x])) λσ2 H2=>tb {D with nx:=Pv (i+1),ct:=Pv (i+1),bk:=D.nx} σ2 H2) (hd:∀ σ H,Pv xs.length σ H->D.nx σ H):
  ∃ W:Nat->Nat->St->Hp->Prop,(∃ m,W 0 m σ H)/\∀ i m σ H,W i m σ H->
   ((Ite K a).stop i H/\D.nx σ H)\/((Ite K a).go i H/\∃ N:St->Hp->Prop,(∀ σ' H',N σ' H'->∃ m',m'<m/\W (i+1) m' σ' H')/\∀ x H',(Ite K a).yld i H x H'->g x σ H' λσ2 H2=>tb {D with nx:=N,ct:=N,bk:=D.nx} σ2 H2):=by
 refine⟨λi m σ H=>m=xs.length-i/\i<=xs.length/\Pv i σ H,⟨xs.length,by simp,aO _,h0⟩,?_⟩
 rintro i m σ H ⟨rfl,hi,p⟩
 have q:=hl i σ H hi p
 by_cases hlt:i<xs.length
 ·refine .inr ⟨⟨xs,xs[i],q,by simp[hlt]⟩,Pv (i+1),λσ' H' p'=>⟨xs.length-(i+1),by omega,rfl,hlt,p'⟩,λx H' y=>?_⟩
  obtain⟨pa,hp,e,y⟩:=y
  subst e
  have hx:xs[i]? = some xs[i]:=by simp[hlt]
  rw[y xs _ q hx]
  exact hs i _ σ H pa hx p hp
 ·have e:i=xs.length:=by omega
  subst e
  exact .inl ⟨⟨xs,q,av _⟩,hd σ H p⟩
def Itv (K:PySem.W.Frag)(a:Addr):It:=
 ⟨λi H=>∃ xs x,SqL K H a xs/\xs.reverse[i]? = some x,λi H x H'=>H'=H/\∀ xs,SqL K H a xs->xs.reverse[i]? = some x,λi H=>∃ xs,SqL K H a xs/\xs.length=i⟩
theorem AJ {P:Program}{w:World}{K:PySem.W.Frag}{tg:Expr}(a it:Addr)(n:Nat):Turn P w K tg ⟨λi H=>(Itv K a).go i H/\∃ xs,SqL K H a xs/\xs.length=n,(Itv K a).yld,λi H=>i=n⟩ [it] it (λi h=>i<=n/\h.IsRevIter it a ((n:Int)-1-(i:Int))) where
 mem:=by simp
 obj:=λi h st b hb=>by
  have e:b=it:=by simpa using hb
  subst e
  obtain⟨_,o,e,c,d⟩:=st
  exact⟨o,e,λv z=>by rw[d]at z;cases z⟩
 keep:=λi h h' st k=>⟨st.1,st.2.at λo e=>k it (by simp) o e⟩
 item:=by
  intro X hP hw hK hc i pins s σ H E I hf st hg
  subst hP hw hK
  obtain⟨⟨xs,x,hq,hx⟩,ys,hq2,hn⟩:=hg
  have e0:=I.mr hq2 hq
  subst e0
  obtain⟨its,rv,p,hz⟩:=I.list hq
  have hil:i<ys.length:=by have:=(ah.mp hx).1;rwa [bu]at this
  have hx':ys[ys.length-1-i]? = some x:=by rw[List.getElem?_reverse hil]at hx;exact hx
  obtain⟨u,hu,ru⟩:=rv.get hx'
  obtain⟨f0,f1,f2,f3,f4,f5⟩:=hf it (by simp)
  have e1:(n:Int)-1-(i:Int)=((ys.length-1-i:Nat):Int):=by omega
  have st2:=st.2
  rw[e1]at st2
  refine wpAny_pyNext_rev_item st2 p.isList (x:=u) (by simpa using hu) λh' st' sb=>?_
  have I1:Inv X pins σ H {s with heap:=h'} :=I.turned (t':=s.toks) (λb o hb e=>(sb.2 b hb).trans e) f0 f1 f3 f4 f5
  have e2:((ys.length-1-i:Nat):Int)-1=(n:Int)-1-((i+1:Nat):Int):=by omega
  rw[e2]at st'
  obtain⟨o,e,c,d⟩:=id st'
  exact⟨u,rfl,BM (s:={s with heap:=h'}) e c d (by decide) ⟨x,H,I1,ru,⟨rfl,λzs hy=>by rw[I.mr hy hq];exact hx⟩,⟨by omega,st'⟩,λb hb=>(hf b hb).1⟩⟩
 done:=by
  intro X hP hw hK hc i pins s σ H E I hf st hg
  subst hP hw hK
  have hg:i=n:=hg
  subst hg
  obtain⟨f0,f1,f2,f3,f4,f5⟩:=hf it (by simp)
  have e1:(i:Int)-1-(i:Int) = -1:=by omega
  have st2:=st.2
  rw[e1]at st2
  exact wpAny_pyNext_rev_end (I.ok.hd hc) st2 λh' eb=>⟨rfl,I.turned (t':=s.toks) (λb o hb e=>eb b o hb e) f0 f1 f3 f4 f5⟩
 self:=λ_ _ _ _ _ st h=>wpAny_pyIter_revIter st.2 h
section
variable {X:Cx}{tg:Expr}
def Lv (K:PySem.W.Frag)(ta:TA):TI:=λσ H R=>ta σ H λvs H1=>∃ a xs,vs = [.ref a]/\SqL K H1 a xs/\R ⟨λi H=>(Itv K a).go i H/\∃ ys,SqL K H a ys/\ys.length=xs.length,(Itv K a).yld,λi H=>i=xs.length⟩ H1
theorem Ew {a:Expr}{ta:TA}{p pos:Pos}(hg:Gl X "reversed")(hm:X.mg "reversed" = none)(ha:PA X [a] ta)(hs:starEach [a] X.env = [(false,eval a X.env)]:=by rfl):PI X tg (.Call (.Name "reversed" p) [a] [] pos) (Lv X.K ta):=by
 intro pins s σ H R I h
 refine Call_ (oX I hg hm boot_reversed (bU (thn (ha pos pins s σ H _ I h) λus s1 ⟨vs,H1,I1,r1,q1⟩=>?_) hs rfl))
 obtain⟨a,xs,e,hq,q⟩:=q1
 subst e
 obtain⟨u,rfl,ru⟩:=vals1 r1
 cases ru
 obtain⟨its,rv,pl,hz⟩:=I1.list hq
 have hl:=rv.length
 refine call_reversed_list pl.isList ?_
 have hit:Heap.IsRevIter (s1.heap.push (revObj a ((its.toArray.size:Int)-1))) s1.heap.objs.size a (((xs.length:Nat):Int)-1-((0:Nat):Int)):=by
  refine⟨_,aN _ rfl,rfl,?_⟩
  have e1:((xs.length:Nat):Int)-1-((0:Nat):Int)=(its.toArray.size:Int)-1:=by rw[aJ];omega
  rw[e1];rfl
 refine wpAny_pyIter_revIter (s:={s1 with heap:=s1.heap.push (revObj a ((its.toArray.size:Int)-1))}) hit ?_
 refine⟨s1.heap.objs.size,[s1.heap.objs.size],_,_,H1,rfl,I1.kept (t':=s1.toks) (λb o e=>aB _ e),AJ a _ xs.length,⟨aO _,hit⟩,λb hb=>?_,q⟩
 have e:b=s1.heap.objs.size:=by simpa using hb
 subst e
 exact I1.yD (av _) (I1.hok.fresh (av _))
end
section
variable {X:Cx}{e:Expr}{te:TE}{pos p2:Pos}
def Ef (K:PySem.W.Frag)(te ts:TE):TE:=λσ H Q=>te σ H λx H1=>ts σ H1 λy H2=>∃ i,y = .int i/\∃ a xs,some i=some (-1:Int)/\x = .ref a/\SqL K H2 a xs/\∀ p,H2 p=none->Q (.ref p) (upd H2 p (.lst xs.reverse))
theorem wH {st:Expr}{ts:TE}(he:PE X e te)(hs:PE X st ts):PE X (.Subscript e (.Slice none none (some st) p2) pos) (Ef X.K te ts):=by
 intro pins s σ H Q I h
 refine Subscript_ (thn (he pins s σ H _ I h) λv s1 ⟨x,H1,I1,r1,q1⟩=>?_)
 refine wpAny_Slice ?_
 rw[evalPart_none]
 refine ao (ao (thn (jH hs pins s1 σ H1 (λo H2=>∃ a xs,o=some (-1)/\x = .ref a/\SqL X.K H2 a xs/\∀ p,H2 p=none->Q (.ref p) (upd H2 p (.lst xs.reverse))) I1 q1) λvk s3 ⟨o,H3,I3,pk,q3⟩=>?_))
 ·obtain⟨a,xs,rfl,rfl,hq,q⟩:=q3
  cases r1
  have I4:Inv X pins σ H3 {s3 with heap:=s3.heap.push {cls:=.type "slice",data:=.fields #[.none,.none,vk]}} :=I3.kept (t':=s3.toks) λb ob q=>aB _ q
  obtain⟨its,r,ht,hz⟩:=I4.list hq
  have hlen:=r.length
  refine tail_any (ops:=[.ref a,.ref s3.heap.objs.size]) ht.isList.typeIs slot_list_getitem.lookup ?_ (by with_unfolding_all rfl)
  refine wpAny_getItem_list_slice ht.isList (Heap.IsSliceOf.new ..) .none .none pk (by simp) ?_ (by rw[aJ]<;>omega)
  rw[PySem.W.krv_pick]
  refine⟨.ref _,_,I4.laid (t':=s3.toks) (o:=.lst xs.reverse) (λb ob q=>aB _ q) (av _) ⟨by rw[bu];exact hz,its.reverse,0,r.reverse,?_⟩,rfl,q _ (I4.hok.fresh (av _))⟩
  exact aN _ rfl
end
structure Bl (mg:Str->Option Value):Prop where
 len:mg "len" = none
 range:mg "range" = none
 sorted:mg "sorted" = none
 enumerate:mg "enumerate" = none
 reversed:mg "reversed" = none
 min:mg "min" = none
 max:mg "max" = none
 list:mg "list" = none
 int:mg "int" = none
 isinstance:mg "isinstance" = none
structure Fn (K:PySem.W.Frag)(mg:Str->Option Value)(x:Str)(st:Stmt)(ps:List Str)(f:Addr)(fd:FuncData):Prop where
 F:Fun K x x st f fd
 m:mg x=some (.ref f)
 b:Binds K fd ps []
def below (js:List (Int×Int))(e:Int):List Int:=(js.filter λp=>decide (p.2=e)).map (·.1)
def above (js:List (Int×Int))(e:Int):List Int:=(js.filter λp=>decide (p.1=e)).map (·.2)
def inc (js:List (Int×Int))(e:Int):Nat:=(below js e).length+(above js e).length
def jn (js:List (Int×Int))(e:Int):List Int:=srt (below js e++above js e)
theorem Gv (js:List (Int×Int))(e:Int):srt (above js e++below js e)=jn js e:=zS List.perm_append_comm
structure fb (l:Int×List (Int×Int)):Prop where
 one:1<=l.1
 most:l.1<=40
 len:l.2.length<=80
 inc:∀ e,inc l.2 e<=60
 ends:∀ p∈l.2,0<=p.1/\p.1<=p.2/\p.2<2*l.1
theorem inc_le (js:List (Int×Int))(e:Int):inc js e<=2*js.length:=by
 unfold inc below above
 rw[aa,aa]
 have h1:=bO (λp:Int×Int=>decide (p.2=e)) js
 have h2:=bO (λp:Int×Int=>decide (p.1=e)) js
 omega
def rq (H:Hp)(ns:List Int)(Q:VK):Prop:=∀ (p:Addr) (H':Hp),eQ H H'->H p=none->H' p=some (.lst (ns.map V.int))->Q (.ref p) H'
theorem eQ.upd {H H':Hp}{l:Addr}{o:HO}(s:eQ H H')(hn:H l=none):eQ H (upd H' l o):=λb u e=>by rw[eL (eN e hn)];exact s b u e
theorem h9 {K:PySem.W.Frag}{H:Hp}{ns:List Int}{v:V} :Da K H (dI ns) v↔∃ a,v = .ref a/\SqL K H a (ns.map V.int):=by
 unfold dI
 refine Iff.trans gR ?_
 constructor
 ·rintro⟨a,vs,rfl,h,q⟩
  rw[mB.mp q]at h
  exact⟨a,rfl,h⟩
 ·rintro⟨a,rfl,h⟩
  exact⟨a,_,rfl,h,mB.mpr rfl⟩
theorem fD {K:PySem.W.Frag}{H:Hp}{ns:List Int}{p:Addr}(h:H p=some (.lst (ns.map V.int))):Da K H (dI ns) (.ref p):=h9.mpr ⟨p,rfl,SqL.of h⟩
theorem j9 {K:PySem.W.Frag}{H:Hp}{l:Int×List (Int×Int)}{v:V}(h:Da K H (dL l) v):∃ a b,v = .ref a/\SqT K H a [.int l.1,.ref b]/\∃ vs,SqL K H b vs/\Das K H (l.2.map dP) vs:=by
 unfold dL at h
 obtain⟨a,vs,rfl,ht,q⟩:=gT.mp h
 obtain⟨v1,r,rfl,h1,q⟩:=fy.mp q
 obtain⟨v2,r,rfl,h2,q⟩:=fy.mp q
 cases fQ.mp q
 cases gS.mp h1
 unfold dJ at h2
 obtain⟨b,us,rfl,hl,q⟩:=gR.mp h2
 exact⟨a,b,rfl,ht,us,hl,q⟩
theorem mC {K:PySem.W.Frag}{H:Hp}{js:List (Int×Int)}{vs:List V}{i:Nat}{x:V}(h:Das K H (js.map dP) vs)(e:vs[i]? = some x):∃ a p,js[i]? = some p/\x = .ref a/\SqT K H a [.int p.1,.int p.2]:=by
 obtain⟨d,e1,hd⟩:=Dgs.get h e
 rw[aq]at e1
 cases q:js[i]? with
 |none=>rw[q]at e1;cases e1
 |some p=>
  rw[q]at e1
  cases e1
  unfold dP at hd
  obtain⟨a,us,rfl,ht,q⟩:=gT.mp hd
  obtain⟨v1,r,rfl,h1,q⟩:=fy.mp q
  obtain⟨v2,r,rfl,h2,q⟩:=fy.mp q
  cases fQ.mp q
  cases gS.mp h1
  cases gS.mp h2
  exact⟨a,p,rfl,rfl,ht⟩
theorem sy (ms:List Int):Ce (ms.map PyData.int):=⟨g8 (λ_=>rfl) ms,by have:=gO (f:=PyData.int) (k:=0) (λ_=>by simp[PyData.depth]) ms;omega⟩
theorem xM (ms:List Int)(x:Int):((ms.map PyData.int).any λz=>PyData.eqv z (.int x))=decide (x∈ms):=by
 rw[List.any_map,bR,dN,b6]
 constructor
 ·rintro⟨y,hy,e⟩
  have e':PyData.eqv (.int y) (.int x)=true:=e
  simp only[PyData.eqv,beq_iff_eq]at e'
  rw[<-e'];exact hy
 ·intro h
  exact⟨x,h,by show PyData.eqv (.int x) (.int x)=true;simp[PyData.eqv]⟩
theorem Ea {σ:St}{H:Hp}{A B:Hp->Prop}(h:A H):Cu σ H (λb H3=>if b=true then A H3 else B H3):=yr (A:=A H) (B:=B H) h
theorem iV {i:Nat}{x:V}{σ:St}{H:Hp}{te:TE}{P1:VK}{P0:Hp->Prop}(h:te (σ.set i (some x)) H P1):oP i x σ H (λσ2 H2=>Cu σ2 H2 λb H3=>if b=true then te σ2 H3 P1 else P0 H3):=yr (A:=te (σ.set i (some x)) H P1) (B:=P0 H) h
theorem jv {α:Type}(xs:List α):(xs.filter λ_=>true)=xs:=by simp
section
variable {X:Cx}{K:PySem.W.Frag}
theorem CO (hK:X.K=K)(hu:X.A.units+64<cLine):OpR X (compareOp .In) (CD K false):=hK ▸ yi hu
theorem sk (hK:X.K=K)(hu:X.A.units+64<cLine):OpR X (compareOp .NotIn) (CD K true):=hK ▸ kO hu
theorem mw (hK:X.K=K):IxR X (Ga K):=hK ▸ fo
end
structure JS (J:It)(n:Nat)(H1:Hp)(it:Nat->V->Prop):Prop where
 go:∀ i H,eQ H1 H->i<n->J.go i H
 yld:∀ i H x H',eQ H1 H->i<n->J.yld i H x H'->H'=H/\it i x
 stop:∀ H,eQ H1 H->J.stop n H
theorem pL {K:PySem.W.Frag}{a:Addr}{xs:List V}{H1:Hp}(hx:SqL K H1 a xs):JS (Itl K a) xs.length H1 (λi x=>xs[i]? = some x):=
 ⟨λi H s hi=>⟨xs,xs[i],s.seq hx,by simp⟩,λi H x H' s hi y=>⟨y.1,y.2 xs (s.seq hx)⟩,λH s=>⟨xs,s.seq hx,av _⟩⟩
theorem EY {K:PySem.W.Frag}{a:Addr}{xs:List V}{H1:Hp}(hx:SqL K H1 a xs):JS ⟨λi H=>(Itv K a).go i H/\∃ ys,SqL K H a ys/\ys.length=xs.length,(Itv K a).yld,λi H=>i=xs.length⟩ xs.length H1 (λi x=>xs.reverse[i]? = some x):=
 ⟨λi H s hi=>⟨⟨xs,xs.reverse[i]'(by rw[bu];exact hi),s.seq hx,af _⟩,xs,s.seq hx,rfl⟩,λi H x H' s hi y=>⟨y.1,y.2 xs (s.seq hx)⟩,λH s=>rfl⟩
theorem w5 {α:Type}{J:It}{n:Nat}{it:Nat->V->Prop}{l:Addr}{g:TG}{tt:TT}{te:TE}{cap:List (Option Nat)}{σ:St}{Q:VK}{H1:Hp}(S:JS J n H1 it)(ds:List α)(p:α->Bool)(f:α->V)(hn:H1 l=none)(hlen:n=ds.length)(hz:n<sizeLine)
  (hs:∀ (i:Nat) x d H,it i x->ds[i]? = some d->eQ H1 H->∀ (P1:VK) (P0:Hp->Prop),(p d=true->P1 (f d) H)->(p d=false->P0 H)->
   g x (iG cap σ) H λσ2 H2=>tt σ2 H2 λb H3=>if b=true then te σ2 H3 P1 else P0 H3)
  (hq:Q (.ref l) (upd H1 l (.lst ((ds.filter p).map f)))):LcW J g tt te cap σ Q l H1:=by
 refine⟨λi m acc H=>m=n-i/\i<=n/\acc=((ds.take i).filter p).map f/\H=upd H1 l (.lst acc),⟨n,by simp,aO _,rfl,rfl⟩,?_⟩
 rintro i m acc H ⟨rfl,hi,e1,e2⟩
 have sm:eQ H1 H:=by rw[e2];exact eE hn
 by_cases hlt:i<n
 ·refine .inr ⟨S.go i H sm hlt,λtL H'=>tL=((ds.take (i+1)).filter p).map f/\H'=upd H1 l (.lst tL),λtL H' ⟨p1,p2⟩=>⟨n-(i+1),by omega,rfl,hlt,p1,p2⟩,λx H' y0=>?_⟩
  obtain⟨e,y⟩:=S.yld i H x H' sm hlt y0
  clear y0
  subst e
  have hd:ds[i]? = some (ds[i]'(by omega)):=by simp
  generalize ds[i]'(by omega)=d at hd
  have step:((ds.take (i+1)).filter p).map f=acc++(if p d=true then[f d]else[]):=by
   rw[take_succ_filter p ds i d hd,ax,e1]
   cases p d<;>rfl
  refine hs i x d H' y hd sm _ _ (λhp=>?_) (λhp=>?_)
  ·refine⟨by rw[e2,eG],?_,?_,?_⟩
   ·have h1:acc.length<=i:=by
     rw[e1,aa]
     exact bz (bO _ _) (by rw[bj];omega)
    omega
   ·rw[step,hp];rfl
   ·rw[e2,pf]
  ·refine⟨?_,e2⟩
   rw[step,hp,aH aI,cM]
 ·have e:i=n:=by omega
  subst e
  refine .inl ⟨S.stop H sm,?_⟩
  rw[hlen,bo]at e1
  rw[e2,e1]
  exact hq
abbrev Mv:=(Str×Int)×List Int
def dMv (m:Mv):PyData:=.tuple [.tuple [.str m.1.1,.int m.1.2],dI m.2]
def fr (l:Int×List (Int×Int))(ns:List Int)(e:Int):List Int:=(jn l.2 e).filter λt=> !decide (t/2∈ns.map (· / 2))
def onM (ns:List Int)(e:Int):Mv:=(("on",e),ns.drop 1 ++ [e])
def jw (ns:List Int)(e:Int):Mv:=(("back",e),oth e::ns.dropLast)
def mvs (l:Int×List (Int×Int))(ns:List Int):List Mv:=(fr l ns (oth (ns.getLastD 0))).map (onM ns)++(fr l ns (ns.headD 0)).map (jw ns)
def Lf (H H2:Hp)(t:Addr):Addr->List V->Prop:=λa us=>H2 a=some (.lst us)/\H a=none/\a≠t
theorem kz {K:PySem.W.Frag}{H:Hp}{t b:Addr}{vs xs:List V}{o:HO}(ht:H t=some (.lst vs))(h:SqT K H b xs):SqT K (upd H t o) b xs:=by
 rcases h with(h |⟨o,h⟩)|h
 ·exact .inl (.inl (by rw[eL (fz h ht (by intro z;cases z))];exact h))
 ·exact .inl (.inr ⟨o,by rw[eL (fz h ht (by intro z;cases z))];exact h⟩)
 ·exact .inr h
theorem Dgs.grow {K:PySem.W.Frag}{H H2 H5:Hp}{t:Addr}{o:HO}{vs:List V}{ds:List PyData}{us:List V}(D:Dgs (Lf H H2 t) (SqT K H2) ds us)(S5:eQ H2 H5)(ht:H5 t=some (.lst vs)):
  Dgs (Lf H (upd H5 t o) t) (SqT K (upd H5 t o)) ds us:=
 Dgs.mono (λa us ⟨h1,h2,h3⟩=>⟨by rw[eL h3];exact S5 _ _ h1,h2,h3⟩) (λa us h=>kz ht (fv S5 h)) D
theorem oo {K:PySem.W.Frag}{H H2 H5:Hp}{t p1 p4 p5:Addr}{vs:List V}{ms:List Mv}{w:Str}{e:Int}{xs:List Int}(S:eQ H H2)(hn:H t=none)(ht:H2 t=some (.lst vs))(D:Dgs (Lf H H2 t) (SqT K H2) (ms.map dMv) vs)
  (S5:eQ H2 H5) (h1:H5 p1=some (.tup [.str w,.int e])) (n4:H2 p4=none) (h4:H5 p4=some (.lst (xs.map V.int))) (h5:H5 p5=some (.tup [.ref p1,.ref p4])):
  eQ H (upd H5 t (.lst (vs ++ [.ref p5])))/\(upd H5 t (.lst (vs ++ [.ref p5]))) t=some (.lst (vs ++ [.ref p5]))/\
   Dgs (Lf H (upd H5 t (.lst (vs ++ [.ref p5]))) t) (SqT K (upd H5 t (.lst (vs ++ [.ref p5])))) ((ms ++ [((w,e),xs)]).map dMv) (vs ++ [.ref p5]):=by
 have ht5:=S5 _ _ ht
 have q4:p4≠t:=(eN ht n4).symm
 refine⟨eQ.upd (S.trans S5) hn,eG,?_⟩
 rw[ax]
 refine Dgs.append (D.grow S5 ht5) (Dgs.one ?_)
 refine gT.mpr ⟨p5,_,rfl,kz ht5 (SqT.of h5),Dgs.two ?_ ?_⟩
 ·exact gT.mpr ⟨p1,_,rfl,kz ht5 (SqT.of h1),Dgs.two (yE.mpr rfl) (gS.mpr rfl)⟩
 ·exact gR.mpr ⟨p4,_,rfl,⟨by rw[eL q4];exact h4,eQ.free S n4,q4⟩,mB.mpr rfl⟩
def Ci (K:PySem.W.Frag)(H:Hp)(ms:List Mv)(Q:VK):Prop:=∀ (p:Addr) (vs:List V) (H':Hp),eQ H H'->H p=none->H' p=some (.lst vs)->Dgs (Lf H H' p) (SqT K H') (ms.map dMv) vs->Q (.ref p) H'
theorem pQ (ns:List Int):lI (ns.map V.int) (some 1) none=(ns.drop 1).map V.int:=by
 unfold lI
 rw[HT.pD]
 have e:HT.sIx (ns.map V.int).length 0 (some 1)=min 1 (ns.map V.int).length:=HT.uU _ _ 1
 rw[e,aa,cO]
 cases ns with
 |nil=>rfl
 |cons a r=>
  have e1:min 1 (a::r).length=1:=by simp
  rw[e1]
  simp
  exact bM (by simp)
theorem sT (ns:List Int):lI (ns.map V.int) none (some (-1))=ns.dropLast.map V.int:=by
 unfold lI
 have e:HT.sIx (ns.map V.int).length (ns.map V.int).length (some (-1))=ns.length-1:=by
  have h:=HT.Dv (-1) (ns.map V.int).length (ns.map V.int).length
  rw[aa]at h ⊢
  rw[aL (by decide)]at h
  omega
 rw[e,HT.pD,List.drop_zero,Nat.sub_zero,<-List.map_take,List.dropLast_eq_take]
theorem rk {ns:List Int}(h:ns≠ []):atI (ns.map V.int) (-1)=some (V.int (ns.getLastD 0)):=by
 obtain⟨r,x,rfl⟩:∃ r x,ns=r ++ [x]:=⟨ns.dropLast,ns.getLast h,(bP h).symm⟩
 rw[ax]
 show atI (r.map V.int ++ [V.int x]) (-1)=_
 rw[xK]
 have e:(r ++ [x]).getLastD 0=x:=by simp[bf]
 rw[e]
theorem mG {ns:List Int}(h:ns≠ []):atI (ns.map V.int) 0=some (V.int (ns.headD 0)):=by
 cases ns with
 |nil=>exact absurd rfl h
 |cons a r=>exact rm (j:=0) rfl
abbrev NoL:Addr->List V->Prop:=λ_ _=>False
abbrev Ps (K:PySem.W.Frag)(H:Hp)(js:List (Int×Int))(vs:List V):Prop:=Dgs NoL (SqT K H) (js.map dP) vs
theorem Ps.same {K:PySem.W.Frag}{H H':Hp}{js:List (Int×Int)}{vs:List V}(D:Ps K H js vs)(S:eQ H H'):Ps K H' js vs:=Dgs.mono (λ_ _ h=>h) (λ_ _ h=>fv S h) D
theorem Ps.FD {K:PySem.W.Frag}{H:Hp}{js:List (Int×Int)}{vs us:List V}{t:Addr}{o:HO}(D:Ps K H js vs)(ht:H t=some (.lst us)):Ps K (upd H t o) js vs:=Dgs.mono (λ_ _ h=>h) (λ_ _ h=>kz ht h) D
theorem Ps.das {K:PySem.W.Frag}{H:Hp}{js:List (Int×Int)}{vs:List V}(D:Ps K H js vs):Das K H (js.map dP) vs:=Dgs.mono (λ_ _ h=>h.elim) (λ_ _ h=>h) D
theorem Ps.da {K:PySem.W.Frag}{H:Hp}{js:List (Int×Int)}{vs:List V}{t:Addr}(D:Ps K H js vs)(ht:H t=some (.lst vs)):Da K H (dJ js) (.ref t):=gR.mpr ⟨t,vs,rfl,SqL.of ht,D.das⟩
theorem Ps.len {K:PySem.W.Frag}{H:Hp}{js:List (Int×Int)}{vs:List V}(D:Ps K H js vs):vs.length=js.length:=by rw[D.length,aa]
theorem zf {K:PySem.W.Frag}{H:Hp}{p:Addr}{x:Int×Int}(h:H p=some (.tup [.int x.1,.int x.2])):Dg NoL (SqT K H) (dP x) (.ref p):=gT.mpr ⟨p,_,rfl,SqT.of h,Dgs.two (gS.mpr rfl) (gS.mpr rfl)⟩
theorem Ps.push {K:PySem.W.Frag}{H:Hp}{js:List (Int×Int)}{vs:List V}{t p:Addr}{x:Int×Int}{o:HO}(D:Ps K H js vs)(ht:H t=some (.lst vs))(hp:H p=some (.tup [.int x.1,.int x.2])):Ps K (upd H t o) (js ++ [x]) (vs ++ [.ref p]):=by
 show Dgs _ _ ((js ++ [x]).map dP) _
 rw[ax]
 exact(D.FD ht).append (.one (Dg.mono (λ_ _ h=>h) (λ_ _ h=>kz ht h) (zf hp)))
theorem Ps.ins {K:PySem.W.Frag}{H:Hp}{js:List (Int×Int)}{vs:List V}{t p:Addr}{x:Int×Int}{o:HO}(i:Nat)(D:Ps K H js vs)(ht:H t=some (.lst vs))(hp:H p=some (.tup [.int x.1,.int x.2])):Ps K (upd H t o) (js.take i++x::js.drop i) (vs.take i ++ .ref p::vs.drop i):=by
 show Dgs _ _ ((js.take i++x::js.drop i).map dP) _
 rw[ax,aQ,List.map_take,cO]
 exact Dgs.insert i (D.FD ht) (Dg.mono (λ_ _ h=>h) (λ_ _ h=>kz ht h) (zf hp))
theorem mD {K:PySem.W.Frag}{H:Hp}{l:Int×List (Int×Int)}{p t:Addr}(h:H p=some (.tup [.int l.1,.ref t]))(hd:Da K H (dJ l.2) (.ref t)):Da K H (dL l) (.ref p):=gT.mpr ⟨p,_,rfl,SqT.of h,Dgs.two (gS.mpr rfl) hd⟩
theorem sa {α:Type}(l:List α)(i:Nat)(x:α):(l.take i++x::l.drop i).Perm (x::l):=by
 have h:=List.perm_middle (a:=x) (l₁:=l.take i) (l₂:=l.drop i)
 rw[dG]at h
 exact h
theorem sC (i j:Int):(if j<i then j else i)=min i j:=by omega
theorem qj (i j:Int):(if j>i then j else i)=max i j:=by omega
theorem qr {ns:List Int}{i:Int}(h0:0<=i)(h1:i<ns.length):∃ x,ns[i.toNat]? = some x/\x∈ns/\atI (ns.map V.int) i=some (V.int x):=by
 have hlt:i.toNat<ns.length:=by omega
 refine⟨ns[i.toNat],by simp,List.getElem_mem _,?_⟩
 have h:=rm (xs:=ns.map V.int) (j:=i.toNat) (v:=V.int ns[i.toNat]) (by rw[aq];simp)
 have e1:((i.toNat:Nat):Int)=i:=by omega
 rw[e1]at h
 exact h
end TL
namespace L2
open PySem PySem.Spec PySem.Calls PyProof.Rows PySem.W
section
variable {prog:Program}{w:World}{A:Around}{E:Value->Shared->Prop}{s:Shared}{K:Frag}{a C:Addr}{o:Obj}
structure ExC (K:Frag)(C:Addr):Prop where
 obj:mroIn K C (.type "object")=some true
 bex:mroIn K C (.type "BaseException")=some true
 cls:findIn K (.ref C) "__class__" = some (some (.builtin "object.__class__"))
 ga:findIn K (.ref C) "__getattribute__" = some (some (.builtin "BaseException.__getattribute__"))
 gn:findIn K (.ref C) "__getattr__" = some none
 isc:(clsIn K C).isSome=true
end
section
variable {P:Program}{w:World}{H H1:Hp}{h:Heap}{a:Addr}{o:HO}
theorem iq.some (x:iq P w H h a o):∃ u,h.get? a=Option.some u:=by
 cases o with
 |lst xs=>obtain⟨_,_,_,_,e⟩:=x;exact⟨_,e⟩
 |tup xs=>obtain⟨_,_,_,p⟩:=x;obtain⟨u,e,_⟩:=p;exact⟨u,e⟩
 |dK kvs=>obtain⟨_,_,_,_,o,_,_,e,_⟩:=x;exact⟨_,e⟩
 |dT kvs=>obtain⟨_,_,_,_,o,_,_,e,_⟩:=x;exact⟨_,e⟩
 |set S n=>obtain⟨o,_,_,_,e,_⟩:=x;exact⟨_,e⟩
 |ins C dx fs=>obtain⟨_,_,_,e,_⟩:=x;exact⟨_,e⟩
 |own y=>obtain⟨_,e⟩:=x;exact⟨_,e⟩
 |xd fs=>obtain⟨_,⟨_,_,_,e,_⟩,_⟩:=x;exact⟨_,e⟩
 |rng lo hi=>obtain⟨_,_,_,e⟩:=x;exact⟨_,e⟩
 |frz ob u=>obtain⟨e,_⟩:=x;exact⟨_,e⟩
 |tbl ps=>exact⟨_,(show h.get? a=Option.some _ from x)⟩
 |met f y=>exact⟨_,(show h.get? a=Option.some _ from x)⟩
 |ext φ=>obtain⟨_,⟨_,e⟩,_⟩:=x;exact⟨_,e⟩
theorem HOk.none_of (x:HOk P w H h)(e:h.get? a=Option.none):H a=Option.none:=by
 cases q:H a with
 |none=>rfl
 |some u=>obtain⟨v,z⟩:=(x a u q).some;rw[e]at z;cases z
end
structure Fl0 (P:Program)(w:World)(base:Heap)(l:List Env)(H H1:Hp)(h0 B h:Heap):Prop where
 bas:base.StaysIn B
 hok:HOk P w H1 B
 kp:∀ b o,h0.get? b=some o->H b=none->b∉frs l->B.get? b=some o
 thr:∀ b o,h0.get? b=some o->b∉frs l->∃ o',B.get? b=some o'
 un:Un (frs l) [] H H1 h0 h
theorem Fl0.step {P:Program}{w:World}{base:Heap}{l:List Env}{H H1:Hp}{h0 B h h':Heap}(x:Fl0 P w base l H H1 h0 B h)(st:B.StaysIn h')(ff:h.FunFrames B l)(ff':h'.FunFrames B l)(sm:h.UpToSlots h'):
  Fl0 P w base l H H1 h0 B h':=by
 refine⟨x.bas,x.hok,x.kp,x.thr,⟨λb o q n hb _=>st b o (x.kp b o q n hb),λb o q n hb _=>?_,x.un.free,λb o q _=>?_,x.un.ke,x.un.oH,x.un.pX⟩⟩
 ·obtain⟨sl,e⟩:=x.un.slot b o q n hb (by simp)
  obtain⟨_,o2,e2,nf⟩:=ff.mem hb
  rw[e]at e2;cases e2
  obtain⟨sl',e'⟩:=sm b _ e nf
  exact⟨sl',e'⟩
 ·by_cases hb:b∈frs l
  ·obtain⟨_,o2,e2,_⟩:=ff'.mem hb
   exact⟨o2,e2⟩
  ·obtain⟨o',e⟩:=x.thr b o q hb
   exact⟨o',st b o' e⟩
structure Fl (P:Program)(w:World)(base:Heap)(l:List Env)(H H1:Hp)(h0:Heap)(e C:Addr)(B h:Heap):Prop extends Fl0 P w base l H H1 h0 B h where
 fly:∃ a0,Heap.FlyingW B l e (.ref C) a0 h
def CXr (P:Program)(w:World)(base:Heap):CXT:=λl H s E ev s'=>
 ∃ e C H1 B,ev = .ref e/\s'.os=s.os/\AllBare s'.gens/\Fl P w base l H H1 s.heap e C B s'.heap/\E (.ref C) (some e) H1
section
variable {X:Cx}{pins:List (Addr×Obj)}{σ:St}{H H1:Hp}{s s':Shared}{e C:Addr}{B:Heap}
theorem Fl.inv (x:Fl X.prog X.w X.base X.stack H H1 s.heap e C B s'.heap)(I:Inv X pins σ H s)(ho:s'.os=s.os)(hg:AllBare s'.gens):Inv X pins σ H1 s':=by
 obtain⟨a0,f⟩:=x.fly
 exact I.DZ (ch:=[]) ho x.un (x.hok.kept f.1) hg (λb z=>absurd z (by simp))
theorem AZ {M:Model}{E:Value->Shared->Prop}{Q:Unit->Shared->Prop}{h':Heap}{vs:List Value}(I:Inv X pins σ H s)(hst:X.stack=X.env::X.outer)(hf:X.env.frame=some X.env.locals)(hex:X.ex = [])
  (hx:Heap.MadeExcOf s.heap h' e (.ref C) vs) (hQ:∀ B h'',Fl X.prog X.w X.base X.outer X.H₀ H X.s₀.heap e C B h''->Q () {s with heap:=h''}):
  wpAny M X.A (leaving X.env (.ref e)) Q E {s with heap:=h'} :=by
 have hfr:=I.ok.frames
 rw[hst]at hfr
 have Dc:=I.stack
 rw[hst]at Dc
 have hin:∀ env∈(X.env::X.outer),∀ b,env.frame=some b->b∈frs (X.env::X.outer):=λenv he b hb=>List.mem_filterMap.mpr ⟨env,he,hb⟩
 have nb:∀ b,b≠X.env.locals->b∉X.fs->b∉frs (X.env::X.outer):=λb h1 h2 hb=>by
  unfold frs at hb
  rw[dX,hf]at hb
  rcases aP.mp hb with z |z
  ·exact h1 z
  ·exact h2 z
 have neL:∀ b o,X.s₀.heap.get? b=some o->b≠X.env.locals:=λb o e=>aR (bg (aF e) I.ok.above)
 refine wpAny_leaves_madeW (base:=hideAll s.heap (frs (X.env::X.outer))) hfr hf (λb o q=>of_hideAll _ q) (funFrames_hide Dc hin) hx λh'' t x1 x2 x3 x4=>?_
 have hok:HOk X.prog X.w H (hideAll s.heap (frs (X.env::X.outer))):=λb u q=>by
  refine(I.hok b u q).lH (λc v hc z=>hideAll_get _ z λhm=>?_) (λ_ z=>z) λ_ _ z=>z
  have hn:H c=none:=I.uI c (by rw[hst];exact hm)
  rcases hc with rfl |hc
  ·rw[hn]at q;cases q
  ·rw[hn]at hc;cases hc
 have z0:Fl0 X.prog X.w X.base X.outer X.H₀ H X.s₀.heap (hideAll s.heap (frs (X.env::X.outer))) h':=by
  have ub:Un X.fs [] X.H₀ H X.s₀.heap s.heap:=by have:=I.base;rw[hex]at this;exact this
  refine⟨λb o q=>hideAll_get _ (I.bk b o q) λhm=>?_,hok,λb o q n hb=>hideAll_get _ (ub.keep b o q n hb (by simp)) (nb b (neL b o q) hb),λb o q hb=>?_,ub.trans (Un.kept hx.keeps)⟩
  ·have:=(Dc.mem hm).1
   rw[q]at this;cases this
  ·obtain⟨o',e1⟩:=ub.there b o q (by simp)
   exact⟨o',hideAll_get _ e1 (nb b (neL b o q) hb)⟩
 have ff:h'.FunFrames (hideAll s.heap (frs (X.env::X.outer))) X.outer:=by
  obtain⟨_,_,z⟩:=(funFrames_hide Dc hin).of_keeps λb o hb _=>⟨o,hx.keeps b o hb,rfl⟩
  exact z
 exact hQ _ h'' ⟨z0.step x1.1 ff x1.2.2.1 x4,_,x1⟩
theorem CM {M:Model}{E:Value->Shared->Prop}{Q:Unit->Shared->Prop}(I:Inv X pins σ H s)(hst:X.stack=X.env::X.outer)(hf:X.env.frame=some X.env.locals)(hex:X.ex = [])
  (ho:s'.os=s.os) (hg:AllBare s'.gens) (x:Fl X.prog X.w X.base X.stack H H1 s.heap e C B s'.heap) (hQ:∀ B h'',Fl X.prog X.w X.base X.outer X.H₀ H1 X.s₀.heap e C B h''->Q () {s' with heap:=h''}):
  wpAny M X.A (leaving X.env (.ref e)) Q E s':=by
 have J:=x.inv I ho hg
 have hfr:=I.ok.frames
 obtain⟨a0,f⟩:=x.fly
 have nb:∀ b,b≠X.env.locals->b∉X.fs->b∉frs X.stack:=λb h1 h2 hb=>(aP.mp (I.oR b hb)).elim h1 h2
 have neL:∀ b o,X.s₀.heap.get? b=some o->b≠X.env.locals:=λb o e=>aR (bg (aF e) I.ok.above)
 rw[hst]at hfr f
 have ub:Un X.fs [] X.H₀ H X.s₀.heap s.heap:=by have:=I.base;rw[hex]at this;exact this
 have uj:Un X.fs [] X.H₀ H1 X.s₀.heap s'.heap:=by have:=J.base;rw[hex]at this;exact this
 have z0:Fl0 X.prog X.w X.base X.outer X.H₀ H1 X.s₀.heap B s'.heap:=by
  refine⟨x.bas,x.hok,λb o q n hb=>x.kp b o (ub.keep b o q n hb (by simp)) (ub.free b o q n (by simp)) (nb b (neL b o q) hb),λb o q hb=>?_,uj⟩
  obtain⟨o',e1⟩:=ub.there b o q (by simp)
  exact x.thr b o' e1 (nb b (neL b o q) hb)
 have ff:s'.heap.FunFrames B X.outer:=f.2.2.1.2.2
 exact wpAny_leaves_onW hfr hf f λh'' x1 x2=>hQ B h'' ⟨z0.step x1.1 ff x1.2.2.1 x2,a0,x1⟩
end
section
variable {P:Program}{w:World}{K:PySem.W.Frag}{mg:Str->Option Value}{base:Heap}{N:List Str}{qual:Str}{scope:Scope}{f:Addr}{cd:Value}{A:Around}{outer:List Env}{s₀:Shared}{H₀:Hp}{E:XK}
def Raises (X:Cx)(E:XK):Prop:=∀ (pins:List (Addr×Obj)) (σ:St) (H:Hp) (s:Shared) (h':Heap) (e C:Addr) (vs:List Value),Inv X pins σ H s->Heap.MadeExcOf s.heap h' e (.ref C) vs->E (.ref C) (some e) H->X.xe (.ref e) {s with heap:=h'}
theorem jt:Raises (vH (CXr P w base) P w K mg base N qual scope f cd A outer s₀ H₀ E) E:=λpins σ H s h' e C vs I hx q=>
 AZ I rfl rfl rfl hx λB h'' z=>⟨e,C,H,B,rfl,I.os,I.bare,z,q⟩
theorem i6:Passes (CXr P w base) (vH (CXr P w base) P w K mg base N qual scope f cd A outer s₀ H₀ E) E:=λpins σ H s e s' I hx=>by
 obtain⟨a,C,H1,B,rfl,ho,hg,z,q⟩:=hx
 exact CM I rfl rfl rfl ho hg z λB' h'' z'=>⟨a,C,H1,B',rfl,ho.trans I.os,hg,z',q⟩
end
theorem Dq {K:Frag}{h:Heap}{C:Addr}{bmB:List Value}{newId:String}(X:K.In h)(q:excIn K C bmB newId=true):
  ∃ bm N nm qn bs hdct sn sub ab col dd k0 k1 k2 k3 k5 mN,h.get? C=some (excClassObj nm qn C N bs bm hdct sn sub ab col dd k0 k1 k2 k3 k5 newId)/\h.Ns N mN/\mN "__init__" = none/\OwnTail h bmB bm:=by
 unfold excIn at q
 split at q
 ·rename_i d1 c1 l1 lk
  split at q
  ·rename_i D1 tl j0 j1 j2 j3 nn j5 e1 e2
   simp only[eC,beq_iff_eq,Bool.not_eq_true']at q
   obtain⟨⟨⟨⟨⟨q1,q2⟩,q3⟩,q4⟩,q5⟩,q6⟩:=q
   subst q1 q2
   cases c1
   dsimp only at e1 q3 q5 q6
   subst e1 q3
   cases l1
   dsimp only at e2
   subst e2
   exact⟨tl,_,_,_,_,_,_,_,_,_,d1,j0,j1,j2,j3,j5,_,X _ _ lk,.of_isNs (isNs_of_in X q5),nsMap_none_of_in X q5 q6,tail_of_in X q4⟩
  ·cases q
 ·cases q
section
variable {X:Cx}{E:XK}{x:Str}{np lT pos:Pos}{C:Addr}{bmB:List Value}{Bn newId E5:String}{e₀:Expr}{rest:List Expr}{ta:TA}
def Eg (C:Addr)(E:XK)(ta:TA):TS:=λ_ σ H=>ta σ H λvs H1=>vs.length<=sizeLine/\∀ e,H1 e=none->E (.ref C) (some e) H1
theorem kh (hR:Raises X E)(hc:X.calm=true)(hg:Gl X x)(hm:X.mg x=some (.ref C))(q:excIn X.K C bmB newId=true)(FB:ExcBaseFacts Bn newId E5 bmB)(ha:PA X (e₀::rest) ta)
  (he:starEach (e₀::rest) X.env=(false,eval e₀ X.env)::starEach rest X.env:=by rfl) (hpl:(backTo lT (starEach rest X.env)).any (·.1)=false:=by rfl) (hd:(x==("__debug__" :Str))=false:=by decide):
  PS X (.Raise (some (.Call (.Name x np) (e₀::rest) [] lT)) none pos) (Eg C E ta):=by
 intro pins s σ H D I h
 obtain⟨tl,N,nm,qn,bs,hdct,sn,sub,ab,col,dd,k0,k1,k2,k3,k5,mN,hC,hN,hni,T⟩:=Dq I.mod.kin q
 refine wpAny_Raise_call_subT (C:=C) (nm:=nm) (q:=qn) (N:=N) (bs:=bs) (bm:=tl) (hdct:=hdct) (sn:=sn) (sub:=sub) (ab:=ab) (col:=col) (dd:=dd) (k0:=k0) (k1:=k1) (k2:=k2) (k3:=k3) (k5:=k5)
  FB (mN:=mN) (T.hasType FB.hasBase) (I.ok.hd hc) (by rw[he];show(false||(backTo lT (starEach rest X.env)).any (·.1))=false;rw[hpl];rfl) hni (qY I hg hm ⟨rfl,?_⟩ hd)
 have h2:=ha lT pins s σ H _ I h
 rw[he]at h2 ⊢
 exact Calls.evalArgs_plain (br h2 (λus s1 ⟨vs,H1,I1,r,z1,z2⟩=>⟨rfl,r.length ▸ z1,I1.bk _ _ hC,hN.keeps I1.bk,T.keeps I1.bk,λh' e hx=>hR pins σ H1 s1 h' e C us I1 hx (z2 e (I1.hok.none_of hx.new))⟩) λ_ _ y=>y)
end
section
variable {X:Cx}{pins:List (Addr×Obj)}{σ:St}{H H1:Hp}{s s':Shared}{e C:Addr}{B:Heap}
abbrev Cx.ND (X:Cx)(e:Addr):Cx:={X with A:=X.A.mark (some (.ref e)),calm:=false,xe:=λ_ _=>False}
end
section
variable {X:Cx}{CX:CXT}{k:Nat}{f:Addr}{fd:FuncData}{ps:List Str}{sp:Sp}{dvs:List V}{ds:List Value}{E:St->XK}{x:Str}{p pos:Pos}{e:Expr}{es:List Expr}{t:TA}
end
abbrev Cx.Ht (X:Cx)(pn:List (Addr×Obj))(W:Value->Shared->Prop):Cx:={X with pn:=X.pn++pn,xe:=W}
section
variable {X:Cx}{pins pn:List (Addr×Obj)}{σ:St}{H:Hp}{s:Shared}{W:Value->Shared->Prop}
end
structure DD (K:Frag)(D C:Addr):Prop where
 ty:typeIn K (.ref D)=some (.type "type")
 isc:(clsIn K D).isSome=true
 bex:mroIn K D (.type "BaseException")=some true
 mro:mroIn K C (.ref D)=some true
abbrev Ends.gone (D:Ends)(j:Nat):Ends:={nx:=λσ H=>D.nx (σ.set j none) H,rt:=D.rt,bk:=λσ H=>D.bk (σ.set j none) H,ct:=λσ H=>D.ct (σ.set j none) H}
section
variable {X:Cx}{body FV:List Stmt}{b₀:Stmt}{x n:Str}{np GF pos:Pos}{D:Addr}{j:Nat}{tb:(St->XK)->TS}{th:TS}
end
open TL
section
variable {P:Program}{w:World}{K:PySem.W.Frag}{mg:Str->Option Value}{base:Heap}
theorem Fun.okX {x qual:Str}{st:Stmt}{f:Addr}{fd:FuncData}{N ps:List Str}{k:Nat}{sp:Sp}(F:Fun K x qual st f fd)(S:fk N ps (eS st))(len:∀ vs H Q E,sp vs H Q E->vs.length=ps.length)
  (xk:∀ (cdv:Value) (A:Around) (outer:List Env) (s:Shared) (H:Hp) (vs:List V) (Q:VK) (E:XK),mH k (A.deeper (envOfC qual (eS st) s.heap.objs.size f cdv))->sp vs H Q E->
   ∃ t,PSs (vH (CXr P w base) P w K mg base N qual (eS st) f cdv A outer s H E) (j8 st) t/\t {nx:=λ_ H'=>Q .non H',rt:=Q} (start N vs) H):eY P w K mg base (CXr P w base) (k+1) f fd ps sp:=by
 obtain⟨oc,od,kV,doc,pm,an,cdv,ct,osl,rfl,lk,hcd⟩:=F.ex
 exact DS lk hcd S len λA outer s H vs Q E hr hsp=>xk cdv A outer s H vs Q E hr hsp
end
abbrev bmV:List Value:=[.type "ValueError",.type "Exception",.type "BaseException",.type "object"]
structure Xc (K:Frag)(mg:Str->Option Value)(x:Str)(C:Addr):Prop where
 m:mg x=some (.ref C)
 q:excIn K C bmV "ValueError.__new__" = true
 e:ExC K C
section
variable {X:Cx}
end
structure tM (K:Frag)(x:Str)(C:Addr):Prop where
 b:nsIn K mainGlobals x=some (some (.ref C))
 q:excIn K C bmV "ValueError.__new__" = true
 o:mroIn K C (.type "object")=some true
 p:mroIn K C (.type "BaseException")=some true
 r:findIn K (.ref C) "__class__" = some (some (.builtin "object.__class__"))
 g:findIn K (.ref C) "__getattribute__" = some (some (.builtin "BaseException.__getattribute__"))
 h:findIn K (.ref C) "__getattr__" = some none
 i:isClsIn K C=true
 t:typeIn K (.ref C)=some (.type "type")
section
variable {K:Frag}{h:Heap}{mg:Str->Option Value}{x:Str}{C D:Addr}
theorem tM.isc (a:tM K x C):(clsIn K C).isSome=true:=by
 have:=a.i
 unfold isClsIn at this
 exact this
theorem tM.ex (a:tM K x C):ExC K C:=⟨a.o,a.p,a.r,a.g,a.h,a.isc⟩
theorem tM.xc (a:tM K x C)(X:K.In h)(G:h.Ns mainGlobals mg):Xc K mg x C:=⟨mg_of X G a.b,a.q,a.ex⟩
variable {c1 c2 c3 c4 c5 c6 c7:Addr}
end
end L2
namespace TL
open PySem PySem.Spec PyProof.Rows L2
structure Bm (mg:Str->Option Value):Prop extends Bl mg where
 zip:mg "zip" = none
 sum:mg "sum" = none
 all:mg "all" = none
 set:mg "set" = none
 tuple:mg "tuple" = none
 abs:mg "abs" = none
 bool:mg "bool" = none
 dict:mg "dict" = none
 str:mg "str" = none
theorem Inv.Cr {X:Cx}{pins:List (Addr×Obj)}{σ:St}{H:Hp}{s:Shared}{h':Heap}{t':Nat}{ch:List Addr}(I:Inv X pins σ H s)(hf:∀ b∈ch,nh X pins H b)
  (keep:∀ b o,b∉ch->s.heap.get? b=some o->h'.get? b=some o):Inv X pins σ H {s with heap:=h',toks:=t'} :=by
 have nch:∀ b u,H b=some u->b∉ch:=λb u q z=>by rw[(hf b z).1]at q;cases q
 refine I.step (g':=s.gens) (d':=s.drawn) (ch:=ch) (λb hb=>?_) (λb o _ _ hc q _=>keep b o hc q) (λb o _ _ hc q _=>⟨o.slots,keep b o hc q⟩) (λ_ _ _ _ n=>n)
  (λb o hc q=>⟨o,keep b o hc q⟩) (λ_ _ e=>e) (λ_ _ _ e=>e) (λb ps e=>⟨#[],by rw[e];simp⟩) (λm hm=>?_) (λb u q=>?_) I.bare
 ·obtain⟨f0,f1,f2,f3,f4,f5⟩:=hf b hb
  exact⟨f3,f1,f4,f5⟩
 ·obtain⟨o,es,ep,ho,r⟩:=hm
  exact⟨o,es,ep,keep _ o (λz=>(hf _ z).2.1 rfl) ho,r⟩
 ·refine(I.hok b u q).lH (λc v hc q'=>keep c v ?_ q') (λc z=>z) λc ys z=>z
  rcases hc with z |z
  ·rw[z];exact nch b u q
  ·exact nch c _ z
def Itz (K:PySem.W.Frag)(a b:Addr):It:=
 ⟨λi H=>∃ xs ys x y,SqL K H a xs/\SqL K H b ys/\xs[i]? = some x/\ys[i]? = some y,
  λi H v H'=>∃ p,H p=none/\v = .ref p/\∀ xs ys x y,SqL K H a xs->SqL K H b ys->xs[i]? = some x->ys[i]? = some y->H'=upd H p (.tup [x,y]),
  λi H=>∃ xs ys,SqL K H a xs/\SqL K H b ys/\(xs.length<=i\/ys.length<=i)⟩
theorem AI {P:Program}{w:World}{K:PySem.W.Frag}{es:List Expr}{x1:Nat}{pt:Pos}{a b z TI TO i1 i2:Addr}(D:ZipApart z TI TO i1 i2 a b):
  Turn P w K (.Tuple es x1 pt) (Itz K a b) [z,TI,TO,i1,i2] z (λi h=>IsZip h z TI TO .none/\IsPair h TI (.ref i1) (.ref i2)/\(∃ u v,IsPair h TO u v)/\h.IsListIter i1 a i/\h.IsListIter i2 b i) where
 mem:=by simp
 obj:=λi h st c hc=>by
  obtain⟨hz,h1,⟨u,v,h2⟩,h3,h4⟩:=st
  obtain⟨o3,q3,_,d3⟩:=h3
  obtain⟨o4,q4,_,d4⟩:=h4
  simp only[aP,List.not_mem_nil,or_false]at hc
  rcases hc with rfl |rfl |rfl |rfl |rfl
  ·exact⟨_,hz,λv z=>by cases z⟩
  ·exact⟨_,h1,λv z=>by cases z⟩
  ·exact⟨_,h2,λv z=>by cases z⟩
  ·exact⟨_,q3,λv z=>by rw[d3]at z;cases z⟩
  ·exact⟨_,q4,λv z=>by rw[d4]at z;cases z⟩
 keep:=λi h h' ⟨hz,h1,⟨u,v,h2⟩,h3,h4⟩ k=>⟨k z (by simp) _ hz,k TI (by simp) _ h1,⟨u,v,k TO (by simp) _ h2⟩,h3.at λo q=>k i1 (by simp) o q,h4.at λo q=>k i2 (by simp) o q⟩
 item:=by
  intro X hP hw hK hc i pins s σ H E I hf st hg
  subst hP hw hK
  obtain⟨hz,h1,⟨u0,v0,h2⟩,h3,h4⟩:=st
  obtain⟨xs,ys,x,y,hx,hy,ex,ey⟩:=hg
  obtain⟨its,rv,p,hzx⟩:=I.list hx
  obtain⟨jts,rw',p',hzy⟩:=I.list hy
  obtain⟨u,hu,ru⟩:=rv.get ex
  obtain⟨v,hv,rv'⟩:=rw'.get ey
  refine wpAny_pyNext_zip_item D hz h1 h2 h3 h4 p.isList p'.isList (x:=u) (y:=v) (by simpa using hu) (by simpa using hv) λh' a1 a2 a3 a4 a5 a6 hk=>?_
  refine⟨_,rfl,?_⟩
  refine wpAny_letOwnedTupleGo_zip (s:={s with heap:=h'}) a1 λh'' m1 m2=>?_
  have lt:∀ {c o},s.heap.get? c=some o->s.heap.objs.size≠c:=λe=>cI (aF e)
  have keep:∀ b o,b∉ [z,TI,TO,i1,i2]->s.heap.get? b=some o->h''.get? b=some o:=λb o hb q=>m2.extBut b o (λz=>hb (by simp[z])) (hk b o (λz=>hb (by simp[z])) (λz=>hb (by simp[z])) (λz=>hb (by simp[z])) (λz=>hb (by simp[z])) q)
  have ht:h''.get? s.heap.objs.size=some {cls:=.type "tuple",data:=.seq [u,v].toArray} :=m2.extBut _ _ (lt hz) a5
  have J1:Inv X pins σ (upd H s.heap.objs.size (.tup [x,y])) {s with heap:=h'',toks:=s.toks} :=Inv.pW I hf keep (.cons ru (.cons rv' .nil)) (by show 2<=sizeLine;decide) ht
  have hn:H s.heap.objs.size=none:=I.fresh
  refine⟨.ref s.heap.objs.size,_,J1,rfl,⟨_,hn,rfl,λxs' ys' x' y' q1 q2 q3 q4=>?_⟩,⟨m1,?_,⟨_,_,m2.extBut _ _ D.TOz a2⟩,a3.extBut m2.extBut D.i1z,a4.extBut m2.extBut D.i2z⟩,λc hb=>?_⟩
  ·have e1:=I.mr q1 hx
   have e2:=I.mr q2 hy
   subst e1 e2
   rw[ex]at q3
   rw[ey]at q4
   cases q3
   cases q4
   rfl
  ·exact m2.extBut _ _ D.TIz (hk _ _ D.TIz D.TITO D.TIi1 D.TIi2 h1)
  ·have q:∃ o,s.heap.get? c=some o:=by
    obtain⟨o3,q3,_,d3⟩:=h3
    obtain⟨o4,q4,_,d4⟩:=h4
    have hb':=hb
    simp only[aP,List.not_mem_nil,or_false]at hb'
    rcases hb' with rfl |rfl |rfl |rfl |rfl
    ·exact⟨_,hz⟩
    ·exact⟨_,h1⟩
    ·exact⟨_,h2⟩
    ·exact⟨_,q3⟩
    ·exact⟨_,q4⟩
   obtain⟨o,q⟩:=q
   rw[eL (aR (aF q))]
   exact(hf c hb).1
 done:=by
  intro X hP hw hK hc i pins s σ H E I hf st hg
  subst hP hw hK
  obtain⟨hz,h1,⟨u0,v0,h2⟩,h3,h4⟩:=st
  obtain⟨xs,ys,hx,hy,e⟩:=hg
  obtain⟨its,rv,p,hzx⟩:=I.list hx
  obtain⟨jts,rw',p',hzy⟩:=I.list hy
  have l1:=rv.length
  have l2:=rw'.length
  refine wpAny_pyNext_zip_end (I.ok.hd hc) D hz h1 h2 h3 h4 p.isList p'.isList ?_ λh' hk=>⟨rfl,Inv.Cr (t':=s.toks) I hf λb o hb q=>hk b o (λz=>hb (by simp[z])) (λz=>hb (by simp[z])) (λz=>hb (by simp[z])) (λz=>hb (by simp[z])) q⟩
  rcases e with e |e
  ·left;simp;omega
  ·right;simp;omega
 self:=λ_ _ _ _ _ ⟨hz,_⟩ h=>wpAny_pyIter_zip hz h
section
variable {X:Cx}
def Lu (K:PySem.W.Frag)(ta:TA):TI:=λσ H R=>ta σ H λvs H1=>∃ a b,vs = [.ref a,.ref b]/\(∃ xs,SqL K H1 a xs)/\(∃ ys,SqL K H1 b ys)/\R (Itz K a b) H1
theorem A3 {a b:Expr}{ta:TA}{p pos:Pos}{es:List Expr}{x1:Nat}{pt:Pos}(hg:Gl X "zip")(hm:X.mg "zip" = none)(ha:PA X [a,b] ta)(hs:starEach [a,b] X.env = [(false,eval a X.env),(false,eval b X.env)]:=by rfl)(hs2:starEach [b] X.env = [(false,eval b X.env)]:=by rfl):
  PI X (.Tuple es x1 pt) (.Call (.Name "zip" p) [a,b] [] pos) (Lu X.K ta):=by
 intro pins s σ H R I h
 refine Call_ (oX I hg hm boot_zip (bU (thn (ha pos pins s σ H _ I h) λus s1 ⟨vs,H1,I1,r1,q1⟩=>?_) (by rw[hs,hs2]) (by rw[hs2];rfl)))
 obtain⟨a,b,e,⟨xs,hx⟩,⟨ys,hy⟩,q⟩:=q1
 subst e
 obtain⟨u,v,rfl,ru,rv⟩:=vals2 r1
 cases ru
 cases rv
 obtain⟨its,rv,p,hzx⟩:=I1.list hx
 obtain⟨jts,rw',p',hzy⟩:=I1.list hy
 have la:a<s1.heap.objs.size:=by obtain⟨o,n,e,_⟩:=p;exact aF e
 have lb:b<s1.heap.objs.size:=by obtain⟨o,n,e,_⟩:=p';exact aF e
 refine call_zip_2 p.isList p'.isList λh' k1 k2 k3 k4 k5 k6 k7=>?_
 refine wpAny_pyIter_zip (s:={s1 with heap:=h'}) k1 ?_
 have D:ZipApart (s1.heap.objs.size+4) (s1.heap.objs.size+2) (s1.heap.objs.size+3) s1.heap.objs.size (s1.heap.objs.size+1) a b:=by
  generalize s1.heap.objs.size=z at la lb
  have la':@LT.lt Nat _ a z:=la
  have lb':@LT.lt Nat _ b z:=lb
  constructor<;>first |exact(show @Ne Nat _ _ by omega)
 refine⟨s1.heap.objs.size+4,[s1.heap.objs.size+4,s1.heap.objs.size+2,s1.heap.objs.size+3,s1.heap.objs.size,s1.heap.objs.size+1],_,_,H1,rfl,I1.kept (t':=s1.toks) k7,AI D,⟨k1,k2,⟨_,_,k3⟩,k4,k5⟩,λc hc=>?_,q⟩
 have hb':s1.heap.objs.size<=c:=by
  simp only[aP,List.not_mem_nil,or_false]at hc
  rcases hc with rfl |rfl |rfl |rfl |rfl
  ·exact eu _ _
  ·exact eu _ _
  ·exact eu _ _
  ·exact av _
  ·exact eu _ _
 exact I1.yD hb' (I1.hok.fresh hb')
theorem Dj {K:PySem.W.Frag}{a b:Addr}{xs ys:List V}{g:TG}{tb:TS}{D:Ends}{σ:St}{H:Hp}(n:Nat)(hn:n=min xs.length ys.length)(Pv:Nat->St->Hp->Prop)(h0:Pv 0 σ H)(hl:∀ i σ H,i<=n->Pv i σ H->SqL K H a xs/\SqL K H b ys)
  (hs:∀ i x y σ H p,xs[i]? = some x->ys[i]? = some y->Pv i σ H->H p=none->g (.ref p) σ (upd H p (.tup [x,y])) λσ2 H2=>tb {D with nx:=Pv (i+1),ct:=Pv (i+1),bk:=D.nx} σ2 H2) (hd:∀ σ H,Pv n σ H->D.nx σ H):
  ∃ W:Nat->Nat->St->Hp->Prop,(∃ m,W 0 m σ H)/\∀ i m σ H,W i m σ H->
   ((Itz K a b).stop i H/\D.nx σ H)\/((Itz K a b).go i H/\∃ N:St->Hp->Prop,(∀ σ' H',N σ' H'->∃ m',m'<m/\W (i+1) m' σ' H')/\∀ x H',(Itz K a b).yld i H x H'->g x σ H' λσ2 H2=>tb {D with nx:=N,ct:=N,bk:=D.nx} σ2 H2):=by
 refine⟨λi m σ H=>m=n-i/\i<=n/\Pv i σ H,⟨n,by simp,aO _,h0⟩,?_⟩
 rintro i m σ H ⟨rfl,hi,p⟩
 obtain⟨q1,q2⟩:=hl i σ H hi p
 by_cases hlt:i<n
 ·have h1:i<xs.length:=by omega
  have h2:i<ys.length:=by omega
  refine .inr ⟨⟨xs,ys,xs[i],ys[i],q1,q2,by simp[h1],by simp[h2]⟩,Pv (i+1),λσ' H' p'=>⟨n-(i+1),by omega,rfl,hlt,p'⟩,λx H' y=>?_⟩
  obtain⟨pa,hp,e,y⟩:=y
  subst e
  have hx:xs[i]? = some xs[i]:=by simp[h1]
  have hy:ys[i]? = some ys[i]:=by simp[h2]
  rw[y xs ys _ _ q1 q2 hx hy]
  exact hs i _ _ σ H pa hx hy p hp
 ·have e:i=n:=by omega
  subst e
  exact .inl ⟨⟨xs,ys,q1,q2,by omega⟩,hd σ H p⟩
theorem B6 (hc:X.calm=true):mO X (.builtin "sum") (λxs H Q=>∃ (a:Addr) (ns:List Int),xs = [.ref a]/\SqL X.K H a (ns.map V.int)/\Q (.int ns.sum) H):=by
 intro pins s σ H xs us Q I r h
 obtain⟨a,ns,rfl,hx,q⟩:=h
 obtain⟨u,rfl,ru⟩:=vals1 r
 cases ru
 obtain⟨its,rv,p,hz⟩:=I.list hx
 have hi:IntsAre its ns:=intsAre_of rv
 obtain⟨xs,hx⟩:=hi.allInts.items
 have hl':s.heap.IsList a (intItems xs):=hx ▸ p.isList
 refine sum_intListG (I.ok.hd hc) hl' λh' tk t' hk=>?_
 have e1:ns=xs.toList.map (·.1):=by
  rw[<-nums_intItems,<-hx]
  exact(show numsOf its.toArray.toList=ns from hi.numsOf).symm
 have e2:preSum (numAt xs) xs.size=ns.sum:=by
  rw[preSum_eq,bM (by simp),e1]
 rw[e2]
 exact⟨.int ns.sum,H,I.kept (t':=tk) hk,⟨_,rfl⟩,q⟩
theorem qJ:∀ {bs:List Bool}{us:List Value},Vals (bs.map V.bl) us->us=bs.map Value.bool
 |[],_,.nil=>rfl
 |b::bs,_,.cons r t=>by
  cases r
  rw[qJ t];rfl
theorem B7 (hc:X.calm=true):mO X (.builtin "all") (λxs H Q=>∃ (a:Addr) (bs:List Bool),xs = [.ref a]/\SqL X.K H a (bs.map V.bl)/\Q (.bl (bs.all id)) H):=by
 intro pins s σ H xs us Q I r h
 obtain⟨a,bs,rfl,hx,q⟩:=h
 obtain⟨u,rfl,ru⟩:=vals1 r
 cases ru
 obtain⟨its,rv,p,hz⟩:=I.list hx
 have e:=qJ rv
 subst e
 have hl:=p.isList
 have hlt:a<s.heap.objs.size:=by obtain⟨_,e,_⟩:=hl;exact aF e
 refine call_all_walk (wpAny_pyIter_list hl ?_)
 refine⟨s.heap.objs.size,[s.heap.objs.size,a],[s.heap.objs.size],(bs.map Value.bool).toArray.size,_,_,λi=>(bs[i]?).getD true,rfl,Walks.list (A:=X.A.in1) (I.ok.hd hc) _ a (aR hlt) (bs.map Value.bool).toArray,
  ⟨⟨_,aN _ rfl,rfl,rfl⟩,hl.push _⟩,λi v s' Q' E' hP hQ=>?_,λh' tk hk=>?_⟩
 ·have hP':(bs.map Value.bool)[i]? = some v:=by simpa using hP
  rw[aq]at hP'
  cases q:bs[i]? with
  |none=>rw[q]at hP';cases hP'
  |some b=>
   rw[q]at hP'
   cases hP'
   have hQ':Q' b s':=by simpa [q]using hQ
   exact cq hQ'
 ·have e:((List.range (bs.map Value.bool).toArray.size).all λi=>(bs[i]?).getD true)=bs.all id:=by
   rw[aJ,aa];exact PyProof.Rows.LSm.range_all bs
  rw[e]
  have kk:∀ b x,s.heap.get? b=some x->h'.get? b=some x:=λb x e=>hk b x (λhm=>by rw[bh.mp hm]at e;exact de _ (aF e)) (aB _ e)
  exact⟨.bl (bs.all id),H,I.kept (t':=tk) kk,rfl,q⟩
end
section
variable {K:PySem.W.Frag}{l:Addr}{g:TG}{tt:TT}{te:TE}{cap:List (Option Nat)}{σ:St}{Q:VK}{H1:Hp}{J:It}
theorem vy (n:Nat)(Pv:Nat->List V->Hp->Prop)(h0:Pv 0 [] (upd H1 l (.lst [])))(go:∀ i acc H,i<n->Pv i acc H->J.go i H)(st:∀ acc H,Pv n acc H->J.stop n H)
  (hs:∀ i x acc H H',i<n->Pv i acc H->J.yld i H x H'->g x (iG cap σ) H' λσ2 H2=>tt σ2 H2 λb H3=>
    if b=true then te σ2 H3 λy H4=>H4 l=some (.lst acc)/\acc.length<sizeLine/\Pv (i+1) (acc ++ [y]) (upd H4 l (.lst (acc ++ [y])))
    else Pv (i+1) acc H3) (hd:∀ acc H,Pv n acc H->Q (.ref l) H):LcW J g tt te cap σ Q l H1:=by
 refine⟨λi m acc H=>m=n-i/\i<=n/\Pv i acc H,⟨n,by simp,aO _,h0⟩,?_⟩
 rintro i m acc H ⟨rfl,hi,p⟩
 by_cases hlt:i<n
 ·exact .inr ⟨go i acc H hlt p,λtL H'=>Pv (i+1) tL H',λtL H' p'=>⟨n-(i+1),by omega,rfl,hlt,p'⟩,λx H' y=>hs i x acc H H' hlt p y⟩
 ·have e:i=n:=by omega
  subst e
  exact .inl ⟨st acc H p,hd acc H p⟩
theorem C5 {α:Type}(n:Nat)(ds:List α)(p:α->Bool)(f:α->V)(hn:H1 l=none)(hlen:n=ds.length)(hz:n<sizeLine)(go:∀ i H,eQ H1 H->i<n->J.go i H)(st:∀ H,eQ H1 H->J.stop n H)
  (hs:∀ i x d H H',eQ H1 H->J.yld i H x H'->ds[i]? = some d->∀ (P1:VK) (P0:Hp->Prop),(∀ H2,p d=true->eQ H H2->P1 (f d) H2)->(∀ H2,p d=false->eQ H H2->P0 H2)->
   g x (iG cap σ) H' λσ2 H2=>tt σ2 H2 λb H3=>if b=true then te σ2 H3 P1 else P0 H3)
  (hq:∀ H',eQ H1 H'->H' l=some (.lst ((ds.filter p).map f))->Q (.ref l) H'):LcW J g tt te cap σ Q l H1:=by
 refine vy n (λi acc H=>acc=((ds.take i).filter p).map f/\eQ H1 H/\H l=some (.lst acc)) ⟨rfl,eE hn,eG⟩ (λi acc H hi ⟨_,s,_⟩=>go i H s hi) (λacc H ⟨_,s,_⟩=>st H s) ?_ ?_
 ·rintro i x acc H H' hi ⟨e1,s,hl⟩ y
  have hd:ds[i]? = some (ds[i]'(by omega)):=by simp
  generalize ds[i]'(by omega)=d at hd
  have step:((ds.take (i+1)).filter p).map f=acc++(if p d=true then[f d]else[]):=by
   rw[aZ,hd,List.filter_append,ax,e1]
   congr 1
   by_cases hp:p d=true
   ·simp[hp]
   ·have hp':p d=false:=by simpa using hp
    simp[hp']
  have la:acc.length<sizeLine:=by
   have h1:acc.length<=i:=by
    rw[e1,aa]
    exact bz (bO _ _) (by rw[bj];omega)
   omega
  refine hs i x d H H' s y hd _ _ (λH2 hp s2=>?_) (λH2 hp s2=>?_)
  ·refine⟨s2 _ _ hl,la,?_,eQ.upd (s.trans s2) hn,eG⟩
   rw[step,aL hp]
  ·refine⟨?_,s.trans s2,s2 _ _ hl⟩
   rw[step,aH (by rw[hp];exact aI),cM]
 ·rintro acc H ⟨e1,s,hl⟩
  rw[bM (by omega)]at e1
  subst e1
  exact hq H s hl
end
def AV (S:Int->Bool)(k:Int):Int->Bool:=λk'=>S k'||decide (k'=k)
def Bs (S:Int->Bool)(n:Nat)(k:Int):Nat:=if S k=true then n else n+1
section
variable {X:Cx}{pins:List (Addr×Obj)}{σ:St}{H:Hp}{s:Shared}
theorem Inv.setM {l:Addr}{S:Int->Bool}{n:Nat}(I:Inv X pins σ H s)(h:H l=some (.set S n)):s.heap.SetOf (intKind X.prog X.w) l S n:=I.hok l _ h
theorem isInt_self (k:Int)(t:Tok):Value.isInt k (.int k t)=true:=by simp[Value.isInt]
def F6:V->List V->Hp->VK->Prop:=λx vs H Q=>∃ l S n k,x = .ref l/\vs = [.int k]/\H l=some (.set S n)/\n+1<scanBound/\Q .non (upd H l (.set (AV S k) (Bs S n k)))
theorem C3:MtR X "set.add" F6:=by
 intro pins s σ H x vs v us Q I rx rv h
 obtain⟨l,S,n,k,rfl,rfl,hH,hb,q⟩:=h
 cases rx
 obtain⟨u,rfl,t,rfl⟩:=rv.one
 have hS:=Inv.setM I hH
 refine call_set_add (knd:=intKind X.prog X.w) (k:=k) (isInt_self k t) rfl hS hb λh' sb hS'=>?_
 refine⟨.non,_,I.write (t':=s.toks+1) (o:=.set (AV S k) (Bs S n k)) (x:=l) (e:=l) (by rw[hH];exact trivial) (.inl rfl) (λb u hb e=>sb.extBut b u hb e) ?_ ?_,rfl,q⟩
 ·obtain⟨o,_,_,_,e,_⟩:=hS';exact⟨o,e⟩
 ·exact hS'
theorem AB:mO X (.builtin "len") (λxs H Q=>∃ p S n,xs = [.ref p]/\H p=some (.set S n)/\Q (.int n) H):=by
 intro pins s σ H xs us Q I r h
 obtain⟨p,S,n,rfl,hH,q⟩:=h
 obtain⟨u,rfl,rx⟩:=vals1 r
 cases rx
 obtain⟨o,es,ep,t,e,hex,hd,hel,hm,hb,hf,hn⟩:=Inv.setM I hH
 refine call_len_set e hex hd hf ?_ ⟨.int n,H,I.tok _,⟨_,by rw[hn]⟩,q⟩
 have:scanBound=4096:=rfl
 omega
end
section
variable {X:Cx}{pins:List (Addr×Obj)}{σ:St}{H1:Hp}{s2:Shared}{scope:Scope}{N:List Str}{own:Nat}{cap:List (Option Nat)}{cl:List (Str×Addr)}{fp:List Addr}
 {tg iter elt:Expr}{ifs:List Expr}{pos:Pos}{g:TG}{tt:TT}{te:TE}{wi:TI}
def ScW (J:It)(g:TG)(tt:TT)(te:TE)(cap:List (Option Nat))(σ:St)(Q:VK)(l:Addr)(H1:Hp):Prop:=
 ∃ W:Nat->Nat->Hp->Prop,(∃ m,W 0 m (upd H1 l (.set (λ_=>false) 0)))/\∀ i m H,W i m H->
  (J.stop i H/\Q (.ref l) H)\/(J.go i H/\∃ N:Hp->Prop,(∀ H',N H'->∃ m',m'<m/\W (i+1) m' H')/\
   ∀ x H',J.yld i H x H'->g x (iG cap σ) H' λσ2 H2=>tt σ2 H2 λb H3=>
    if b=true then te σ2 H3 λy H4=>∃ S n k,y = .int k/\H4 l=some (.set S n)/\n+1<scanBound/\N (upd H4 l (.set (AV S k) (Bs S n k)))
    else N H3)
def tSC (wi:TI)(cap:List (Option Nat))(g:TG)(tt:TT)(te:TE):TE:=λσ H Q=>wi σ H λJ H1=>∀ l,H1 l=none->
 ScW J g tt te cap σ Q l H1
theorem Az {it:Addr}{tn:Nat->Heap->Prop}{J:It}{Q:VK}{RR:Value->Addr->Result->Shared->Prop}{E:Value->Shared->Prop}(I:Inv X pins σ H1 s2)(T:Turn X.prog X.w X.K tg J fp it tn)(t0:tn 0 s2.heap)
  (f:∀ b∈fp,nh X pins H1 b) (hc:X.calm=true) (C:fX X.env.scope X.N scope N own cap) (ho:qS own g)
  (lx:∀ x c,cl.lookup x=some c->X.env.cells.lookup x=some c) (oG:∀ y∈scope.names,y.2 = .free->∃ c,cl.lookup y.1=some c)
  (hg:∀ s3 H3,PG (fw X scope cl N fp s3 H3) tg g) (ht:∀ s3 H3,vR (fw X scope cl N fp s3 H3) ifs tt) (he:∀ s3 H3,PE (fw X scope cl N fp s3 H3) elt te)
  (hw:∀ l,H1 l=none->ScW J g tt te cap σ Q l H1)
  (fin:∀ l C s' H' m',Inv X pins σ H' s'->s'.heap.Ns C m'->H' C=none->Apart X pins C->Q (.ref l) H'->RR (.ref l) C (.ok .next) s'):
  wpAny (model X.prog X.w) X.A (newSet (.type "set")) (λacc s₃=>wpAny (model X.prog X.w) X.A (newFunctionEnv scope X.env.globals cl [] X.env.qual none .none (some X.env)) (λxE s₄=>
   codeAny (model X.prog X.w) X.A (.compStart (.SetComp elt [⟨tg,iter,ifs,0⟩] scope pos) 0 (.ref it) acc {xE with scope:=relabel scope X.env}) (RR acc xE.locals) s₄) E s₃) E s2:=by
 refine wpAny_newSet_of (knd:=intKind X.prog X.w) λled Ly=>?_
 refine wpAny_newFunctionEnv C.vn (by intro y hy;simp at hy) (λh₁ lu lr=>?_) C.kind
 dsimp only at lu lr ⊢
 obtain⟨W,⟨m0,w0⟩,turn⟩:=hw s2.heap.objs.size I.fresh
 have I3:Inv X pins σ (upd H1 s2.heap.objs.size (.set (λ_=>false) 0)) {s2 with heap:=s2.heap.push {cls:=.type "set",dict:=none,data:=.set #[] 0 (.fresh 0 0 led)}} :=
  I.laid (t':=s2.toks) (λb u e=>aB _ e) (av _) Ly
 generalize hs3:({s2 with heap:=s2.heap.push {cls:=.type "set",dict:=none,data:=.set #[] 0 (.fresh 0 0 led)}} :Shared)=s3 at I3
 have hh3:s3.heap=s2.heap.push {cls:=.type "set",dict:=none,data:=.set #[] 0 (.fresh 0 0 led)} :=by rw[<-hs3]
 rw[<-hh3]at lu lr ⊢
 have e4:({s2 with heap:=h₁,toks:=s2.toks+([]:List (Str×Value)).length} :Shared) = {s3 with heap:=h₁,toks:=s2.toks} :=by rw[<-hs3];rfl
 rw[e4]
 have k4:∀ b u,s3.heap.get? b=some u->h₁.get? b=some u:=λb u e=>lr.extBut b u (aR (aF e)) (aB _ e)
 have k3:∀ b u,s2.heap.get? b=some u->s3.heap.get? b=some u:=λb u e=>by rw[hh3];exact aB _ e
 have hb2:∀ b∈fp,b<s2.heap.objs.size:=λb hb=>by obtain⟨o,e,_⟩:=T.obj _ _ t0 b hb;exact aF e
 have f3:∀ b∈fp,nh X pins (upd H1 s2.heap.objs.size (.set (λ_=>false) 0)) b:=λb hb=>by
  obtain⟨f0,fr⟩:=f b hb
  exact⟨by rw[eL (aR (hb2 b hb))];exact f0,fr⟩
 have hb3:∀ b∈fp,b<s3.heap.objs.size:=λb hb=>by obtain⟨o,e,_⟩:=T.obj _ _ t0 b hb;exact aF (k3 b o e)
 have I4:=sI (tk:=s2.toks) I3 C lx oG (λb hb=>⟨f3 b hb,hb3 b hb⟩) lu k4
 generalize hH3:upd H1 s2.heap.objs.size (.set (λ_=>false) 0)=H3 at *
 have st4:tn 0 h₁:=T.keep _ _ _ t0 λb hb o e=>k4 b o (k3 b o e)
 have fpX:∀ {H':Hp},(∀ b∈fp,H' b=none)->∀ b∈fp,nh (fw X scope cl N fp s3 H3) [] H' b:=λ{H'} hn b hb=>by
  obtain⟨f0,f1,f2,f3',f4,f5⟩:=f3 b hb
  refine⟨hn b hb,aR (hb3 b hb),λhz=>?_,.inl hb,λx c e=>f4 x c (lx x c e),λp hp=>absurd (show p∈([]:List (Addr×Obj)) from hp) (by simp)⟩
  rcases aP.mp (I3.oR b hz)with z |z
  ·exact f1 z
  ·exact f2 z
 have loop:codeAny (model X.prog X.w) X.A (.compLoop (.SetComp elt [⟨tg,iter,ifs,0⟩] scope pos) 0 (.ref it) (.ref s2.heap.objs.size) (compEnvC scope cl s3.heap.objs.size X.env)) (RR (.ref s2.heap.objs.size) s3.heap.objs.size) {s3 with heap:=h₁,toks:=s2.toks} :=by
  refine vK (λn s'=>∃ i H',Inv (fw X scope cl N fp s3 H3) [] (iG cap σ) H' s'/\tn i s'.heap/\(∀ b∈fp,H' b=none)/\W i n H') ?_ m0 ⟨0,H3,I4,st4,λb hb=>(f3 b hb).1,w0⟩
  rintro n s' ⟨i,H',I',st,fr,w⟩
  rcases turn i n H' w with⟨stop,q⟩|⟨go,NN,hNN,step⟩
  ·refine thn (T.done (fw X scope cl N fp s3 H3) rfl rfl rfl hc i [] s' _ H' (λ_ _=>False) I' (fpX fr) st stop) λr s5 ⟨hr,I5⟩=>?_
   subst hr
   obtain⟨m5,hn5,_⟩:=id I5.loc
   exact fin _ _ s5 H' m5 (comp_back I3 f3 I5) hn5 I5.free (TL.Inv.apart I3) q
  ·refine thn (T.item (fw X scope cl N fp s3 H3) rfl rfl rfl hc i [] s' _ H' (λ_ _=>False) I' (fpX fr) st go) λr s5 ⟨u,hr,h5⟩=>?_
   subst hr
   refine thn h5 λ_ s6 ⟨x,H6,I6,r6,y6,st6,fr6⟩=>?_
   have I6':=I6.pinned (fpX fr6) (T.obj _ _ st6)
   refine thn (hg s3 H3 _ s6 _ H6 x u _ I6' r6 (ho.own _ _ _ _ (step x H6 y6))) λ_ s7 ⟨σ7,H7,I7,q7,l7,o7⟩=>?_
   have cov:∀ (i:Nat) v,(iG cap σ)[i]? = some (some v)->σ7[i]? = some (some v):=λi v e=>by
    obtain⟨j,c1,c2⟩:=oA e
    by_cases hi:i<own
    ·exact(C.sj hi c1).elim
    ·rw[o7 i (by omega)];exact e
   have back:∀ {H8:Hp}{s8:Shared},Inv (fw X scope cl N fp s3 H3) ([]++oW fp s6.heap) σ7 H8 s8->Inv (fw X scope cl N fp s3 H3) [] (iG cap σ) H8 s8/\tn (i+1) s8.heap/\∀ b∈fp,H8 b=none:=λ{H8 s8} I8=>by
    refine⟨(Inv.lZ (pins:=[]) I8).weak l7.symm cov,T.keep _ _ _ st6 λb hb o e=>(I8.pin (b,o) (aD _ (aD _ (iW hb e)))).1,λb hb=>?_⟩
    obtain⟨o,e,d⟩:=T.obj _ _ st6 b hb
    exact(I8.pin (b,o) (aD _ (aD _ (iW hb e)))).2.1
   refine thn (ht s3 H3 _ s7 σ7 H7 _ I7 q7) λb s8 ⟨H8,I8,q8⟩=>?_
   cases b with
   |false=>
    rw[aH aI]at q8 ⊢
    obtain⟨m',hm,w8⟩:=hNN _ q8
    obtain⟨J1,J2,J3⟩:=back I8
    exact⟨m',hm,i+1,H8,J1,J2,J3,w8⟩
   |true=>
    rw[aL rfl]at q8 ⊢
    refine thn (he s3 H3 _ s8 σ7 H8 _ I8 q8) λv s9 ⟨y,H9,I9,r9,S,nn,k,ey,ha,hz,n9⟩=>?_
    obtain⟨m',hm,w9⟩:=hNN _ n9
    subst ey
    refine thn (C3 _ s9 σ7 H9 (.ref s2.heap.objs.size) [.int k] (.ref s2.heap.objs.size) [v] (λ_ H10=>W (i+1) m' H10) I9 rfl (.cons r9 .nil) ⟨_,S,nn,k,rfl,rfl,ha,hz,w9⟩) λ_ s10 ⟨_,H10,I10,_,w10⟩=>?_
    obtain⟨J1,J2,J3⟩:=back I10
    exact⟨m',hm,i+1,H10,J1,J2,J3,w10⟩
 exact tK loop (T.self X.A 0 _ _ _ st4 loop)
theorem Ge (hi:PI X tg iter wi)(hc:X.calm=true)(C:fX X.env.scope X.N scope N own cap)(ho:qS own g)
  (hg:∀ cl fp s3 H3,PG (fw X scope cl N fp s3 H3) tg g) (ht:∀ cl fp s3 H3,vR (fw X scope cl N fp s3 H3) ifs tt) (he:∀ cl fp s3 H3,PE (fw X scope cl N fp s3 H3) elt te)
  (hs:∀ x,foldedSetIterable iter X.env x=pure x:=by intro _;rfl):PE X (.SetComp elt [⟨tg,iter,ifs,0⟩] scope pos) (tSC wi cap g tt te):=by
 intro pins s σ H Q I h
 obtain⟨cl,ecl,lx,oG⟩:=mZ (scope:=scope) (env:=X.env) λy hy hf=>I.ok.has y.1 (C.fre y hy hf)
 rw[arm_eval_SetComp]
 refine dt (use:=none) rfl hs ecl C.kind C.loc (thn (hi pins s σ H _ I h) λxv s1 h1=>thn h1 λitv s2 h2=>?_)
 obtain⟨it,fp,tn,J,H2,e,I2,T,st2,f2,hw⟩:=h2
 subst e
 refine Az (RR:=λacc C=>compPost (model X.prog X.w) X.A X.xe none (EP X pins σ Q) acc C) I2 T st2 f2 hc C ho lx oG (hg cl fp) (ht cl fp) (he cl fp) hw λl Ca s' H' m' I' hn oO hP q=>?_
 exact⟨m',hn,λh'' yx=>⟨.ref l,H',oy I' hP oO yx,rfl,q⟩⟩
end
def dn (ks:List Int):Nat->Nat
 | 0=>0
 |i+1=>if ks.getD i 0∈ks.take i then dn ks i else dn ks i+1
theorem zx (ks:List Int):∀ i,dn ks i<=i
 | 0=>av _
 |i+1=>by
  have:=zx ks i
  unfold dn
  split<;>omega
theorem DV {ks:List Int} :∀ {i},dn ks i=i↔∀ j,j<i->ks.getD j 0∉ks.take j
 | 0=>⟨λ_ j h=>absurd h (df j),λ_=>rfl⟩
 |i+1=>by
  have h1:=zx ks i
  have h2:=@DV ks i
  unfold dn
  constructor
  ·intro h j hj
   split at h
   ·omega
   ·rcases cD.mp hj with z |z
    ·exact h2.mp (by omega) j z
    ·subst z;assumption
  ·intro h
   rw[aH (h i (by omega)),h2.mpr λj hj=>h j (by omega)]
theorem yo (ks:List Int):ks.Nodup↔∀ j,j<ks.length->ks.getD j 0∉ks.take j:=by
 constructor
 ·intro h j hj hm
  obtain⟨i,hi,e⟩:=aU.mp hm
  rw[bj]at hi
  rw[List.getElem_take]at e
  have e2:ks.getD j 0=ks[j]:=by rw[aG,af hj];rfl
  rw[e2]at e
  have:=(cU h).mp e
  omega
 ·intro h
  rw[List.Nodup,List.pairwise_iff_getElem]
  intro i j hi hj hij e
  refine h j hj ?_
  have e2:ks.getD j 0=ks[j]:=by rw[aG,af hj];rfl
  rw[e2,<-e]
  exact aU.mpr ⟨i,by rw[bj];omega,by rw[List.getElem_take]⟩
theorem BV (ks:List Int):dn ks ks.length=ks.length↔ks.Nodup:=DV.trans (yo ks).symm
theorem DU (ks:List Int):dn ks ks.length<ks.length↔¬ks.Nodup:=by
 rw[<-BV]
 have:=zx ks ks.length
 omega
theorem take_snoc {ks:List Int}{i:Nat}(hi:i<ks.length):ks.take (i+1)=ks.take i ++ [ks.getD i 0]:=by
 rw[aZ,aG,af hi];rfl
theorem zW {ks:List Int}{i:Nat}(hi:i<ks.length):AV (λk=>decide (k∈ks.take i)) (ks.getD i 0) = λk=>decide (k∈ks.take (i+1)):=by
 funext k
 rw[take_snoc hi]
 simp[AV]
theorem Ak (ks:List Int)(i:Nat):Bs (λk=>decide (k∈ks.take i)) (dn ks i) (ks.getD i 0)=dn ks (i+1):=by
 unfold Bs
 rw[dn]
 by_cases h:ks.getD i 0∈ks.take i
 ·rw[aL h,aL (by simpa using h)]
 ·rw[aH h,aH (by simpa using h)]
section
variable {X:Cx}
end
section
variable {l:Addr}{g:TG}{tt:TT}{te:TE}{cap:List (Option Nat)}{σ:St}{Q:VK}{H1:Hp}{J:It}
theorem AS {α:Type}{n:Nat}{it:Nat->V->Prop}(S:JS J n H1 it)(ds:List α)(f:α->Int)(hn:H1 l=none)(hlen:n=ds.length)(hz:n+1<scanBound)
  (hs:∀ (i:Nat) x d H,it i x->ds[i]? = some d->eQ H1 H->∀ (P1:VK) (P0:Hp->Prop),P1 (.int (f d)) H->
   g x (iG cap σ) H λσ2 H2=>tt σ2 H2 λb H3=>if b=true then te σ2 H3 P1 else P0 H3)
  (hq:Q (.ref l) (upd H1 l (.set (λk=>decide (k∈ds.map f)) (dn (ds.map f) n)))):ScW J g tt te cap σ Q l H1:=by
 refine⟨λi m H=>m=n-i/\i<=n/\H=upd H1 l (.set (λk=>decide (k∈(ds.map f).take i)) (dn (ds.map f) i)),⟨n,by simp,aO _,?_⟩,?_⟩
 ·congr 2
 rintro i m H ⟨rfl,hi,e2⟩
 have sm:eQ H1 H:=by rw[e2];exact eE hn
 by_cases hlt:i<n
 ·refine .inr ⟨S.go i H sm hlt,λH'=>H'=upd H1 l (.set (λk=>decide (k∈(ds.map f).take (i+1))) (dn (ds.map f) (i+1))),λH' p2=>⟨n-(i+1),by omega,rfl,hlt,p2⟩,λx H' y0=>?_⟩
  obtain⟨e,y⟩:=S.yld i H x H' sm hlt y0
  clear y0
  subst e
  have hd:ds[i]? = some (ds[i]'(by omega)):=by simp
  generalize ds[i]'(by omega)=d at hd
  refine hs i x d H' y hd sm _ _ ⟨_,_,f d,rfl,by rw[e2];exact eG,?_,?_⟩
  ·have:=zx (ds.map f) i
   omega
  ·have e3:(ds.map f).getD i 0=f d:=by rw[aG,aq,hd];rfl
   have h1:=zW (ks:=ds.map f) (i:=i) (by rw[aa];omega)
   have h2:=Ak (ds.map f) i
   rw[e3]at h1 h2
   rw[h1,h2,e2,pf]
 ·have e:i=n:=by omega
  subst e
  refine .inl ⟨S.stop H sm,?_⟩
  rw[e2,bM (by rw[aa];omega)]
  exact hq
end
def hid (p:Addr)(H:Hp):Hp:=λb=>if b=p then none else H b
theorem iF {p:Addr}{H:Hp} :eQ (hid p H) H:=λb o h=>by
 unfold hid at h
 by_cases e:b=p
 ·rw[aL e]at h;cases h
 ·rw[aH e]at h;exact h
theorem fV {p b:Addr}{H:Hp}(h:b≠p):hid p H b=H b:=by unfold hid;rw[aH h]
theorem jI {p:Addr}{H:Hp} :hid p H p=none:=by unfold hid;rw[aL rfl]
theorem nH {p:Addr}{H H':Hp}(s:eQ H H'):eQ (hid p H) (hid p H'):=λb o h=>by
 by_cases e:b=p
 ·subst e;rw[jI]at h;cases h
 ·rw[fV e]at h ⊢;exact s _ _ h
theorem mY {p:Addr}{H:Hp}{o:HO} :hid p (upd H p o)=hid p H:=by
 funext b
 by_cases e:b=p
 ·subst e;rw[jI,jI]
 ·rw[fV e,fV e,eL e]
theorem AU {p:Addr}{H H':Hp}(s:eQ H H')(hn:H p=none):eQ H (hid p H'):=λb o h=>by
 rw[fV (eN h hn)];exact s _ _ h
theorem pN {K:PySem.W.Frag}{p a:Addr}{H:Hp}{vs xs:List V}(hp:H p=some (.lst vs))(h:SqT K H a xs):SqT K (hid p H) a xs:=by
 rcases h with(h |⟨o,h⟩)|h
 ·exact .inl (.inl (by rw[fV (fz h hp (by intro z;cases z))];exact h))
 ·exact .inl (.inr ⟨o,by rw[fV (fz h hp (by intro z;cases z))];exact h⟩)
 ·exact .inr h
theorem BZ (xs:List V){i:Int}(h:0<=i):lI xs none (some i)=xs.take i.toNat:=by
 unfold lI
 rw[HT.pD]
 have e:HT.sIx xs.length xs.length (some i)=min i.toNat xs.length:=by
  have:=HT.uU xs.length xs.length i.toNat
  rw[show((i.toNat:Nat):Int)=i by omega]at this
  exact this
 rw[e,List.drop_zero,Nat.sub_zero]
 by_cases h2:i.toNat<=xs.length
 ·rw[Nat.min_eq_left h2]
 ·rw[Nat.min_eq_right (by omega),bM (av _),bM (by omega)]
theorem xw (xs:List V){i:Int}(h:0<=i):lI xs (some i) none=xs.drop i.toNat:=by
 unfold lI
 rw[HT.pD]
 have e:HT.sIx xs.length 0 (some i)=min i.toNat xs.length:=by
  have:=HT.uU xs.length 0 i.toNat
  rw[show((i.toNat:Nat):Int)=i by omega]at this
  exact this
 rw[e]
 by_cases h2:i.toNat<=xs.length
 ·rw[Nat.min_eq_left h2,bM (by rw[bG];omega)]
 ·rw[Nat.min_eq_right (by omega),List.drop_of_length_le (av _),List.drop_of_length_le (by omega),List.take_nil]
section
variable {L T:Addr->List V->Prop}
theorem Dgs.take:∀ {ds:List PyData}{vs:List V} (i:Nat),Dgs L T ds vs->Dgs L T (ds.take i) (vs.take i)
 |_,_,0,_=>by rw[List.take_zero,List.take_zero];exact fQ.mpr rfl
 |[],vs,i+1,h=>by rw[fQ.mp h];exact fQ.mpr rfl
 |d::ds,vs,i+1,h=>by
  obtain⟨v,r,rfl,h1,h2⟩:=fy.mp h
  exact fy.mpr ⟨v,r.take i,rfl,h1,Dgs.take i h2⟩
theorem Dgs.drop:∀ {ds:List PyData}{vs:List V} (i:Nat),Dgs L T ds vs->Dgs L T (ds.drop i) (vs.drop i)
 |_,_,0,h=>h
 |[],vs,i+1,h=>by rw[fQ.mp h];exact fQ.mpr rfl
 |d::ds,vs,i+1,h=>by
  obtain⟨v,r,rfl,h1,h2⟩:=fy.mp h
  exact Dgs.drop i h2
end
theorem Dx {xs:List V}{v:V}(h:xs[xs.length-1]? = some v):atI xs (-1)=some v:=by
 have h1:=(ah.mp h).1
 have hne:xs≠ []:=λe=>by rw[e]at h1;simp at h1
 have e:xs.getLast hne=v:=by
  rw[List.getLast_eq_getElem]
  exact(ah.mp h).2
 rw[<-bP hne,e]
 exact xK _ _
theorem qq {xs:List V}{v:V}{i:Int}(h0:0<=i)(h:xs[i.toNat]? = some v):atI xs i=some v:=by
 have:=rm h
 rw[show((i.toNat:Nat):Int)=i by omega]at this
 exact this
section
variable {K:PySem.W.Frag}{l:Addr}{g:TG}{tt:TT}{te:TE}{cap:List (Option Nat)}{σ:St}{Q:VK}{H1:Hp}{J:It}
end
open PySem.W
section
variable {X:Cx}{pins:List (Addr×Obj)}{σ:St}{H H1:Hp}{s s':Shared}{e C:Addr}{B:Heap}
end
section
variable {prog:Program}{w:World}{A:Around}{R:Result->Shared->Prop}{s:Shared}{XE:Value->Shared->Prop}
end
section
variable {M:Model}{A:Around}{E:Value->Shared->Prop}{s:Shared}{env:Env}
end
section
variable {X:Cx}{pins:List (Addr×Obj)}{σ:St}{H H3:Hp}{s s3:Shared}{scope:Scope}{N:List Str}{own:Nat}{cap:List (Option Nat)}{cl:List (Str×Addr)}{fp:List Addr}{E:XK}
def XC (X:Cx)(scope:Scope)(cl:List (Str×Addr))(N:List Str)(fp:List Addr)(s3:Shared)(H3:Hp)(E:XK):Value->Shared->Prop:=λev s'=>∃ (ug:List (Addr×Obj)) (σ':St) (H':Hp) (s0:Shared),Inv (fw X scope cl N fp s3 H3) ug σ' H' s0/\CXr X.prog X.w X.base X.stack H' s0 E ev s'
abbrev Hq (X:Cx)(scope:Scope)(cl:List (Str×Addr))(N:List Str)(fp:List Addr)(s3:Shared)(H3:Hp)(E:XK):Cx:=(fw X scope cl N fp s3 H3).rA (XC X scope cl N fp s3 H3 E)
end
section
variable {X:Cx}{pins:List (Addr×Obj)}{σ:St}{H1:Hp}{s2:Shared}{scope:Scope}{N:List Str}{own:Nat}{cap:List (Option Nat)}{cl:List (Str×Addr)}{fp:List Addr}
 {tg iter elt:Expr}{ifs:List Expr}{pos:Pos}{g:TG}{tt:TT}{te:TE}{wi:TI}{E:XK}
end
end TL
namespace TL
open PySem PySem.Spec PyProof.Rows L2
theorem ju {P:Program}{w:World}{base:Heap}{X:Cx} :Passes (CXr P w base) X E0:=λ_ _ _ _ _ _ _ hx=>by
 obtain⟨_,_,_,_,_,_,_,_,q⟩:=hx
 exact q.elim
section
variable {X:Cx}{pins:List (Addr×Obj)}{σ:St}{H:Hp}{s:Shared}{a:Addr}{kvs:List (List Key×V)}
theorem Inv.freeze (I:Inv X pins σ H s)(ha:H a=some (.dT kvs)):∃ o,Inv X pins σ (upd H a (.frz o (.dT kvs))) s:=by
 obtain⟨z,hm,xs,r,o,es,ep,e,c⟩:=I.hok a _ ha
 refine⟨o,?_⟩
 have h0:Inv X pins σ (upd H a (.frz o (.dT kvs))) {s with heap:=s.heap,toks:=s.toks} :=by
  refine I.un (t':=s.toks) ⟨λb o q _ _ _=>q,λb o q _ _ _=>⟨o.slots,q⟩,λb u q n _=>?_,λb o q _=>⟨o,q⟩,λb xs q=>?_,λb u x q=>?_,λb ps q=>⟨#[],?_⟩⟩ λb u q=>?_
  ·rw[eL (bB (eN ha n))];exact n
  ·rw[eL (fz q ha (by intro z;cases z))];exact q
  ·rw[eL (fz q ha (by intro z;cases z))];exact q
  ·rw[eL (fz q ha (by intro z;cases z)),q];simp
  ·have ho:∀ c b',H c=some (.own b')->upd H a (.frz o (.dT kvs)) c=some (.own b'):=λc b' q=>by rw[eL (fz q ha (by intro z;cases z))];exact q
   have ht:∀ c xs,H c=some (.tup xs)->upd H a (.frz o (.dT kvs)) c=some (.tup xs):=λc xs q=>by rw[eL (fz q ha (by intro z;cases z))];exact q
   by_cases hb:b=a
   ·subst hb
    rw[eG]at q
    cases q
    exact⟨e,(I.hok b _ ha).lH (λ_ _ _ q=>q) (λc q=>ho c _ q) ht⟩
   ·rw[eL hb]at q
    exact(I.hok b u q).lH (λ_ _ _ q=>q) (λc q=>ho c _ q) ht
 exact h0
theorem Inv.EN {o:Obj}(I:Inv X pins σ H s)(ha:H a=some (.frz o (.dT kvs)))(h0:∀ o u,X.H₀ a≠some (.frz o u)):Inv X pins σ (upd H a (.dT kvs)) s:=by
 have ne:∀ b,H b=none->b≠a:=λb n=>bB (eN ha n)
 have hu:Un X.fs X.ex X.H₀ (upd H a (.dT kvs)) X.s₀.heap s.heap:=by
  refine⟨I.base.keep,I.base.slot,λb u q n hx=>?_,I.base.there,λb xs q=>?_,λb u x q=>?_,λb ps q=>?_⟩
  ·have:=I.base.free b u q n hx
   rw[eL (ne b this)];exact this
  ·have:=I.base.ke b xs q
   rw[eL (fz this ha (by intro z;cases z))];exact this
  ·have hb:b≠a:=λz=>by subst z;exact h0 _ _ q
   rw[eL hb];exact I.base.oH b u x q
  ·obtain⟨m,e⟩:=I.base.pX b ps q
   exact⟨m,by rw[eL (fz e ha (by intro z;cases z))];exact e⟩
 refine⟨I.ok,I.os,I.bare,hu,I.loc,I.cell,by rw[eL (ne _ I.free)];exact I.free,λx c e=>by rw[eL (ne _ (I.mz x c e))];exact I.mz x c e,λp hp=>?_,λb u q=>?_,I.len⟩
 ·obtain⟨p1,p2,p3⟩:=I.pin p hp
  exact⟨p1,by rw[eL (ne _ p2)];exact p2,p3⟩
 ·have ho:∀ c b',H c=some (.own b')->upd H a (.dT kvs) c=some (.own b'):=λc b' q=>by rw[eL (fz q ha (by intro z;cases z))];exact q
  have ht:∀ c xs,H c=some (.tup xs)->upd H a (.dT kvs) c=some (.tup xs):=λc xs q=>by rw[eL (fz q ha (by intro z;cases z))];exact q
  by_cases hb:b=a
  ·subst hb
   rw[eG]at q
   cases q
   exact(I.hok b _ ha).2.lH (λ_ _ _ q=>q) (λc q=>ho c _ q) ht
  ·rw[eL hb]at q
   exact(I.hok b u q).lH (λ_ _ _ q=>q) (λc q=>ho c _ q) ht
def HE (t:TE):TE:=λσ H Q=>∃ a kvs,H a=some (.dT kvs)/\∀ o,t σ (upd H a (.frz o (.dT kvs))) λv H'=>H' a=some (.frz o (.dT kvs))/\Q v (upd H' a (.dT kvs))
theorem A7 {e:Expr}{t:TE}(h:PE X e t):PE X e (HE t):=by
 intro pins s σ H Q I q
 obtain⟨a,kvs,ha,q⟩:=q
 have h0:∀ o u,X.H₀ a≠some (.frz o u):=λo u z=>by have:=I.base.oH a o u z;rw[ha]at this;cases this
 obtain⟨o,I1⟩:=Inv.freeze I ha
 refine thn (h pins s σ _ _ I1 (q o)) λu s1 ⟨v,H1,I2,r,e1,q1⟩=>⟨v,_,Inv.EN I2 e1 h0,r,q1⟩
def IC (t:TS):TS:=λD σ H=>∃ a kvs,H a=some (.dT kvs)/\∀ o,t ⟨λσ' H'=>H' a=some (.frz o (.dT kvs))/\D.nx σ' (upd H' a (.dT kvs)),λv H'=>H' a=some (.frz o (.dT kvs))/\D.rt v (upd H' a (.dT kvs)),λ_ _=>False,λ_ _=>False⟩ σ (upd H a (.frz o (.dT kvs)))
theorem Et {st:Stmt}{t:TS}(h:PS X st t):PS X st (IC t):=by
 intro pins s σ H D I q
 obtain⟨a,kvs,ha,q⟩:=q
 have h0:∀ o u,X.H₀ a≠some (.frz o u):=λo u z=>by have:=I.base.oH a o u z;rw[ha]at this;cases this
 obtain⟨o,I1⟩:=Inv.freeze I ha
 refine thn (h pins s σ _ _ I1 (q o)) λf s1 hf=>?_
 match f,hf with
 |.next,⟨σ',H',I2,e1,q1⟩=>exact⟨σ',_,Inv.EN I2 e1 h0,q1⟩
 |.brk,⟨_,_,_,q1⟩=>exact q1.elim
 |.cont,⟨_,_,_,q1⟩=>exact q1.elim
 |.ret u,⟨v,σ',H',I2,r,e1,q1⟩=>exact⟨v,σ',_,Inv.EN I2 e1 h0,r,q1⟩
end
section
variable {prog:Program}{w:World}{A:Around}{E:Value->Shared->Prop}{s:Shared}{d it:Addr}{o:Obj}{es:Array DictEntry}{ep i:Nat}
theorem mi (ho:s.heap.get? d=some o)(hx:o.ExactDict):s.TypeIs (.ref d) "dict" :=⟨o,ho,hx.1⟩
theorem uf {Q:Value->Shared->Prop}(hn:(d==sysModules)=false)(ho:s.heap.get? d=some o)(hx:o.ExactDict)(hd:o.data = .dict es ep)
  (hQ:Q (.ref s.heap.objs.size) {s with heap:=s.heap.push {cls:=.type "dict_keyiterator",data:=.fields #[.ref d,.int 0 0,.int es.size 0,.int ep 0]}}):wpAny (model prog w) A (pyIter (.ref d)) Q E s:=by
 have hT:=mi ho hx
 refine wpAny_pyIter_slot hT F.slot_dict_iter (bW F.slot_dict_iter hT F.entry_dict_iter ?_ (F.args_dict_iter_1 _))
 unfold Builtin.«dict.__iter__»
 refine ae ?_
 unfold Builtin.Dict.dictSlotNone
 refine ae (wpAny_notOrdered_dict hT (ao ?_))
 show wpAny _ _ (Builtin.Dict.showsAll d >>= _) _ _ s
 unfold Builtin.Dict.showsAll
 rw[aH (by rw[hn];exact aI)]
 refine ae (ao (ae (cV ho hd (ae (dz ho hd ?_)))))
 refine ae (bS (ao ⟨_,rfl,"dict_keyiterator",_,⟨_,aN _ rfl,rfl⟩,bV.lookup,?_⟩))
 simpa [rawInt]using hQ
theorem ue {Q:Option Value->Shared->Prop}{e:DictEntry}(hit:s.heap.IsKeyIter it d i es.size ep)(ho:s.heap.get? d=some o)(hd:o.data = .dict es ep)(hx:es[i]? = some e)
  (hQ:∀ h',h'.IsKeyIter it d (i+1) es.size ep->Heap.SameBut it s.heap h'->Q (some e.key) {s with heap:=h'}):wpAny (model prog w) A (pyNext (.ref it)) Q E s:=by
 obtain⟨oi,hoi,hc,hdi⟩:=id hit
 have hT:=hit.typeIs
 unfold pyNext
 refine ae (wpAny_attempt (dC (name:=Str.ofString "__next__") hT bV
  (bW bV hT F.entry_dict_keyiterator_next ?_ (F.args_dict_keyiterator_next_1 _))))
 refine ae (ao (ae (ae ?_)))
 first |refine ae (cP hT (ao ?_))|refine ae (dj hT (ao ?_))
 refine ae (wpAny_fieldsOf hoi hdi ?_)
 have vB:Builtin.Dict_items.ownsTuple "dict_keyiterator" = false:=by decide
 simp only[vB,bE,cw]
 show wpAny _ _ (if(Value.ref d==Value.none)=true then _ else _) _ _ s
 rw[aH (show ¬((Value.ref d==Value.none)=true) from aI)]
 refine ae (ao (ae (cV ho hd ?_)))
 rw[aH (by simp)]
 refine ae (ao (ae (dz ho hd ?_)))
 rw[aH (by simp)]
 refine ao ?_
 obtain⟨hlt,he⟩:=Array.getElem?_eq_some_iff.mp hx
 simp only[show ¬((i:Int)<0) from by omega,cw,dy,d9 hlt]
 refine ae ?_
 first |refine ae (cP hT (ao ?_))|refine ae (dj hT (ao ?_))
 refine ae (wpAny_isOneOf_keyiter hT ?_)
 show wpAny _ _ (setField (.ref it) 1 (rawInt ((i:Int)+1)) >>= _) _ _ s
 refine ae (wpAny_setField hoi hdi (by simp) ?_)
 have De:(s.heap.update it (Obj.mapFields (·.setIfInBounds 1 (rawInt ((i:Int)+1))))).IsKeyIter it d (i+1) es.size ep:=
  ⟨_,Heap.get?_update_self _ hoi (Obj.isFreed_of_fields (Obj.data_mapFields hdi _)),(Obj.cls_mapFields ..).trans hc,by rw[Obj.data_mapFields hdi];simp[rawInt]⟩
 refine ae (cS ?_)
 refine ae (wpAny_isOneOf_keyiter (s:={s with heap:=s.heap.update it (Obj.mapFields (·.setIfInBounds 1 (rawInt ((i:Int)+1))))}) De.typeIs ?_)
 show wpAny _ _ (pure es[i].key) _ _ _
 rw[he]
 exact ao (ao ⟨_,rfl,ao (hQ _ De (Heap.SameBut.update ..))⟩)
theorem wB {Q:Option Value->Shared->Prop}(hh:A.handled=none)(hit:s.heap.IsKeyIter it d i es.size ep)(ho:s.heap.get? d=some o)(hd:o.data = .dict es ep)(hx:es.size<=i)
  (hQ:∀ h',Heap.ExtBut it s.heap h'->Q none {s with heap:=h'}):wpAny (model prog w) A (pyNext (.ref it)) Q E s:=by
 obtain⟨oi,hoi,hc,hdi⟩:=id hit
 have hT:=hit.typeIs
 unfold pyNext
 refine ae (wpAny_attempt (dC (name:=Str.ofString "__next__") hT bV
  (bW bV hT F.entry_dict_keyiterator_next ?_ (F.args_dict_keyiterator_next_1 _))))
 refine ae (ao (ae (ae ?_)))
 first |refine ae (cP hT (ao ?_))|refine ae (dj hT (ao ?_))
 refine ae (wpAny_fieldsOf hoi hdi ?_)
 have vB:Builtin.Dict_items.ownsTuple "dict_keyiterator" = false:=by decide
 simp only[vB,bE,cw]
 show wpAny _ _ (if(Value.ref d==Value.none)=true then _ else _) _ _ s
 rw[aH (show ¬((Value.ref d==Value.none)=true) from aI)]
 refine ae (ao (ae (cV ho hd ?_)))
 rw[aH (by simp)]
 refine ae (ao (ae (dz ho hd ?_)))
 rw[aH (by simp)]
 refine ao ?_
 simp only[show ¬((i:Int)<0) from by omega,cw,dy,Array.getElem?_eq_none hx]
 refine ae ?_
 first |refine ae (cP hT (ao ?_))|refine ae (dj hT (ao ?_))
 show wpAny _ _ (setField (.ref it) 0 .none >>= _) _ _ s
 refine ae (wpAny_setField hoi hdi (by simp) ?_)
 show wpAny _ _ (newExc (.type "StopIteration") [] >>= _) _ _ _
 refine ae ?_
 simp only[newExc,newTuple]
 refine ae (bS ?_ (by size_fits))
 refine ae (m:=firstArgMember _ _) (wpAny_of_eq (a:=Value.none) (by first |rfl |(simp only[firstArgMember];rfl)) ?_)
 refine bS ?_ (by size_fits)
 simp only[raiseNew]
 refine ae (wpAny_handled ?_)
 rw[show A.in1.handled=none from hh]
 refine ae (ao (wpAny_throw ?_))
 refine ae (dY (T:= "StopIteration") (b:=true) ⟨_,aN _ rfl,rfl⟩ isSubtype_stop ?_)
 exact ao (hQ _ (((Heap.SameBut.update ..).extBut.push _).push _))
theorem ud {Q:Value->Shared->Prop}{n:Nat}(hit:s.heap.IsKeyIter it d i n ep)(h:Q (.ref it) s):wpAny (model prog w) A (pyIter (.ref it)) Q E s:=by
 have hT:=hit.typeIs
 refine wpAny_pyIter_slot hT F.slot_dict_keyiterator_iter (bW F.slot_dict_keyiterator_iter hT F.entry_dict_keyiterator_iter ?_ (F.args_dict_keyiterator_iter_1 _))
 show wpAny _ _ (ret (.ref it)) _ _ s
 exact ao ⟨_,rfl,"dict_keyiterator",_,hT,bV.lookup,h⟩
end
theorem oq {α β:Type}{R:α->β->Prop} :∀ {l₁:List α}{l₂:List β}{i:Nat}{p:α},Paired R l₁ l₂->l₁[i]? = some p->∃ q,l₂[i]? = some q/\R p q
 |_,_,0,_,.cons r _,e=>by cases e;exact⟨_,rfl,r⟩
 |_,_,i+1,p,.cons _ t,e=>oq (i:=i) t e
def Itk (a:Addr)(o:Obj)(kvs:List (List Key×V)):It:=
 ⟨λi H=>H a=some (.frz o (.dT kvs))/\i<kvs.length,λi H x H'=>H'=H/\∃ b p,kvs[i]? = some p/\x = .ref b/\H b=some (.tup (p.1.map kV)),λi H=>H a=some (.frz o (.dT kvs))/\kvs.length<=i⟩
theorem zO {P:Program}{w:World}{K:PySem.W.Frag}{tg:Expr}{hx:Heap}(htg:∀ it u,letOwnedTupleGo tg it u=pure ())(a it:Addr)(o:Obj)(kvs:List (List Key×V))(es:Array DictEntry)(ep:Nat)(hd:o.data = .dict es ep)(hl:es.size=kvs.length):
  Turn P w K tg (Itk a o kvs) [it] it (λi h=>h.IsKeyIter it a i es.size ep) where
 mem:=by simp
 obj:=λi h st b hb=>by
  have e:b=it:=by simpa using hb
  subst e
  obtain⟨oi,hoi,_,hdi⟩:=st
  exact⟨oi,hoi,λv z=>by rw[hdi]at z;cases z⟩
 keep:=λi h h' st k=>by
  obtain⟨oi,hoi,r⟩:=st
  exact⟨oi,k it (by simp) oi hoi,r⟩
 item:=by
  intro X hP hw hK hc i pins s σ H E I hf st hg
  subst hP hw hK
  obtain⟨ha,hi⟩:=hg
  obtain⟨ho,z,hm,xs,r,o',es',ep',e',_,hd',hes,_⟩:=I.hok a _ ha
  rw[ho]at e'
  cases e'
  rw[hd]at hd'
  cases hd'
  have hp:kvs[i]? = some kvs[i]:=by simp[hi]
  obtain⟨q,hq,q1,q2,q3⟩:=oq r hp
  have he:es[i]? = some (entryOfKey (tupleKind (gq X.prog X.w)) q):=by
   rw[<-dH,hes,aq,hq];rfl
  obtain⟨g0,g1,g2,g3,g4,g5⟩:=hf it (by simp)
  refine ue st ho hd he λh' k1 k2=>?_
  refine⟨_,rfl,?_⟩
  rw[htg]
  refine ao ⟨.ref q.2.1,H,I.turned (t':=s.toks) (λb u hb e=>k2.extBut b u hb e) g0 g1 g3 g4 g5,rfl,⟨rfl,q.2.1,_,hp,rfl,q2⟩,k1,λb hb=>?_⟩
  have e:b=it:=by simpa using hb
  subst e;exact g0
 done:=by
  intro X hP hw hK hc i pins s σ H E I hf st hg
  subst hP hw hK
  obtain⟨ha,hi⟩:=hg
  obtain⟨ho,_⟩:=I.hok a _ ha
  obtain⟨g0,g1,g2,g3,g4,g5⟩:=hf it (by simp)
  exact wB (I.ok.hd hc) st ho hd (by rw[hl];exact hi) λh' eb=>⟨rfl,I.turned (t':=s.toks) (λb u hb e=>eb b u hb e) g0 g1 g3 g4 g5⟩
 self:=λ_ _ _ _ _ st h=>ud st h
section
variable {X:Cx}
def GA (tl:TE):TI:=λσ H R=>tl σ H λx H1=>∃ a o kvs,x = .ref a/\H1 a=some (.frz o (.dT kvs))/\R (Itk a o kvs) H1
theorem CH {tg e:Expr}{tl:TE}(hl:PE X e tl)(htg:∀ it u,letOwnedTupleGo tg it u=pure ():=by intro _ _;rfl):PI X tg e (GA tl):=by
 intro pins s σ H R I h
 refine thn (hl pins s σ H _ I h) λu s1 ⟨x,H1,I1,r1,a,o,kvs,ex,ha,q⟩=>?_
 subst ex
 cases(show u=Value.ref a from r1)
 obtain⟨ho,z,hm,xs,r,o',es,ep,e',hxd,hd,hes,_⟩:=I1.hok a _ ha
 rw[ho]at e'
 cases e'
 have hsz:es.size=kvs.length:=by
  have h1:=bX List.length hes
  rw[cF,aa,<-bT r]at h1
  exact h1
 refine uf hm ho hxd hd ?_
 refine⟨s1.heap.objs.size,[s1.heap.objs.size],_,_,H1,rfl,I1.kept (t':=s1.toks) (λb u e=>aB _ e),zO (hx:=s1.heap) htg a _ o kvs es ep hd hsz,⟨_,aN _ rfl,rfl,rfl⟩,λb hb=>?_,q⟩
 have e:b=s1.heap.objs.size:=by simpa using hb
 subst e
 exact I1.yD (av _) (I1.hok.fresh (av _))
end
section
variable {X:Cx}{pins:List (Addr×Obj)}{σ:St}{H:Hp}{s:Shared}{a b:Addr}{kvs:List (List Key×V)}{k:List Key}{v:V}{r:Value}{A:Around}{E:Value->Shared->Prop}
theorem Fm {Q:Unit->Shared->Prop}(hu:A.units<cLine)(I:Inv X pins σ H s)(e:H a=some (.dT kvs))(eb:H b=some (.tup (k.map kV)))(l:kvs.length<sizeLine)(rv:RelV v r)
  (h:∀ s',Inv X pins σ (upd H a (.dT (putK kvs k v))) s'->Q () s'):wpAny (model X.prog X.w) A (dictSet a (.ref b) r) Q E s:=by
 obtain⟨z,hd,xs,rel,dd⟩:=BU I.hok e
 have hz:xs.length<=sizeLine:=by rw[<-bT rel];exact z
 have hl:(putK kvs k v).length<=sizeLine:=by have:=nF kvs k v;omega
 refine wpAny_dictSet_heap (hsz:=hz) hu (qk I.hok eb) dd λh' dd' hs=>h _ ?_
 obtain⟨q,es,ep,hq,h2,h3,h4,_,h5⟩:=dd'
 refine pP I (by rw[e];exact True.intro) hs ⟨q,hq⟩ ⟨hl,hd,_,(rel.put k eb rv).keeps λc ys ec=>?_,q,es,ep,hq,h2,h3,h4,h5⟩
 rw[eL (fz ec e (λz=>nomatch z))]
 exact ec
def Eh (tk tv:TE):TE:=λσ H Q=>∀ p,H p=none->xT [(tk,tv)] σ (upd H p (.dT [])) λps H2=>∃ (x y:V) (b:Addr) (ks:List Key),ps = [(x,y)]/\x=V.ref b/\H2 b=some (.tup (ks.map kV))/\H2 p=some (.dT [])/\Q (.ref p) (upd H2 p (.dT [(ks,y)]))
theorem wK {pos:Pos}{k v:Expr}{tk tv:TE}(hu:X.A.units+1<cLine)(hk:PE X k tk)(hv:PE X v tv):PE X (.Dict [some k] [v] pos) (Eh tk tv):=by
 intro pins s σ H Q I q
 have hn:=I.hok.fresh (av s.heap.objs.size)
 have I1:=I.laid (a:=s.heap.objs.size) (o:=.dT []) (h':=s.heap.push {cls:=.type "dict",data:=.dict #[]}) (t':=s.toks) (λ_ _ q=>aB _ q) (av _) (xr s.heap I.big)
 refine wpAny_Dict_any rfl rfl (by simp) (by simp) (thn (A2 hk hv CG pins _ σ _ _ I1 (q _ hn)) λws s2 ⟨ps,H2,I2,rel,x,y,b,ks,ep,ex,hb,hp,q2⟩=>?_)
 subst ep ex
 cases rel with
 |@cons p w' ps ws r t=>
   cases t
   obtain⟨w1,w2⟩:=w'
   obtain⟨r1,r2⟩:=r
   cases(show w1=Value.ref b from r1)
   unfold storeAll
   rw[cz]
   refine ae (ae (Fm (by omega) I2 hp hb (by rw[dg];decide) r2 λs3 I3=>ao ?_))
   refine ao ⟨.ref s.heap.objs.size,_,I3,rfl,?_⟩
   exact q2
theorem A6 {x y n:Str}{i:Int}{u:Value}{k1 k2:Nat}{p1 p2 p3 p4 pos:Pos}(hg:Gl X n)(hm:X.mg n=some u)(r:RelV (.int i) u)(hi:i.natAbs.log2<1920)(hz:x.length<=1000/\y.length<=1000/\(Str.ofString (toString i)).length<=1000)
  (hd:(n==("__debug__" :Str))=false:=by decide):PE X (.JoinedStr [.Constant (.str x) k1 p1,.FormattedValue (.Name n p2) (-1) none p3,.Constant (.str y) k2 p4] pos) (λ_ H Q=>∀ z,Q (.str z) H):=by
 intro pins s σ H Q I q
 obtain⟨t,rfl⟩:=r
 have hl:∀ a b:Str,(a++b).length=a.length+b.length:=strLen_append
 have he:Str.empty.length=0:=rfl
 refine wpAny_JoinedStr ?_
 refine PySem.wpAny_Constant_str ⟨x,_,rfl,by rw[hl,he,dD];omega,?_⟩
 refine wpAny_FormattedValue_plain (qY (I.tok _) hg hm (wpAny_formatField_int hi ⟨_,_,rfl,by rw[hl,hl,he,dD];omega,?_⟩) hd)
 refine PySem.wpAny_Constant_str ⟨y,_,rfl,by rw[hl,hl,hl,he,dD];omega,?_⟩
 refine⟨by rw[hl,hl,hl,he,dD];omega,⟨.str _,H,?_,⟨_,rfl⟩,q _⟩⟩
 exact I.tok _
end
section
variable {X:Cx}{K:PySem.W.Frag}
theorem kb (e:X.K=K):mO X (.type "list") (λxs H Q=>∃ p ys,xs = [.ref p]/\(SqL K H p ys\/SqT K H p ys)/\∀ l,H l=none->Q (.ref l) (upd H l (.lst ys))):=by subst e;exact iA
end
abbrev Ln:=Int×List (Int×Int)
structure fT (l:Ln)(ns:List Int):Prop where
 ends:∀ e∈ns,0<=e/\e<2*l.1
 nd:(ns.map (· / 2)).Nodup
 ch:∀ (i:Nat) x y,ns[i]? = some x->ns[i+1]? = some y->y∈jn l.2 (oth x)
theorem lS {l:Ln}(ok:fb l){e x:Int} :x∈jn l.2 e↔(min e x,max e x)∈l.2:=by
 unfold jn
 rw[Cz,az]
 constructor
 ·rintro(z |z)
  ·obtain⟨p,hp,rfl⟩:=ak.mp z
   obtain⟨h1,h2⟩:=b9.mp hp
   have h2:p.2=e:=by simpa using h2
   have:=ok.ends p h1
   have e1:(min e p.1,max e p.1)=p:=cZ (by show min e p.1=p.1;omega) (by show max e p.1=p.2;omega)
   rw[e1];exact h1
  ·obtain⟨p,hp,rfl⟩:=ak.mp z
   obtain⟨h1,h2⟩:=b9.mp hp
   have h2:p.1=e:=by simpa using h2
   have:=ok.ends p h1
   have e1:(min e p.2,max e p.2)=p:=cZ (by show min e p.2=p.1;omega) (by show max e p.2=p.2;omega)
   rw[e1];exact h1
 ·intro h
  by_cases hx:e<=x
  ·have e1:(min e x,max e x)=(e,x):=cZ (by show min e x=e;omega) (by show max e x=x;omega)
   rw[e1]at h
   exact .inr (ak.mpr ⟨(e,x),b9.mpr ⟨h,by simp⟩,rfl⟩)
  ·have e1:(min e x,max e x)=(x,e):=cZ (by show min e x=x;omega) (by show max e x=e;omega)
   rw[e1]at h
   exact .inl (ak.mpr ⟨(x,e),b9.mpr ⟨h,by simp⟩,rfl⟩)
theorem pM {l:Ln}(ok:fb l){e x:Int}(h:x∈jn l.2 e):e∈jn l.2 x:=by
 rw[lS ok]at h ⊢
 rw[show min x e=min e x by omega,show max x e=max e x by omega];exact h
theorem mW {l:Ln}(ok:fb l){e x:Int}(h:x∈jn l.2 e):0<=x/\x<2*l.1:=by
 have:=ok.ends _ ((lS ok).mp h)
 dsimp only at this
 omega
theorem qo {l:Ln}{ns:List Int}{e x:Int}(h:x∈fr l ns e):x∈jn l.2 e/\x/2∉ns.map (· / 2):=by
 obtain⟨h1,h2⟩:=b9.mp h
 exact⟨h1,by simpa using h2⟩
theorem fT.on {l:Ln}{ns:List Int}{e:Int}(ok:fb l)(T:fT l ns)(hne:ns≠ [])(he:e∈fr l ns (oth (ns.getLastD 0))):fT l (ns.drop 1 ++ [e]):=by
 obtain⟨h1,h2⟩:=qo he
 have hl:1<=ns.length:=by cases ns with |nil=>exact absurd rfl hne |cons x r=>simp
 refine⟨λx hx=>?_,?_,λi x y hx hy=>?_⟩
 ·rcases az.mp hx with z |z
  ·exact T.ends x (List.mem_of_mem_drop z)
  ·have z:x=e:=by simpa using z
   rw[z];exact mW ok h1
 ·rw[ax,bN]
  refine⟨by rw[cO];exact T.nd.sublist (List.drop_sublist _ _),by simp,λa ha b hb z=>?_⟩
  have hb:b=e/2:=by simpa using hb
  rw[cO]at ha
  exact h2 (by rw[<-hb,<-z];exact List.mem_of_mem_drop ha)
 ·have ld:(ns.drop 1).length=ns.length-1:=bG
  by_cases hi:i+1<(ns.drop 1).length
  ·rw[aj hi,dh]at hy
   rw[aj (by omega),dh]at hx
   exact T.ch (1+i) x y hx (by rw[<-hy];congr 1)
  ·have hlt:=(ah.mp hy).1
   rw[ai,aE]at hlt
   have e1:i+1=(ns.drop 1).length:=by omega
   rw[e1,aw (av _),aV]at hy
   cases hy
   rw[aj (by omega),dh]at hx
   have e2:ns.getLastD 0=x:=by
    rw[bf,cy,show ns.length-1=1+i by omega,hx];rfl
   rw[e2]at h1
   exact h1
theorem fT.back {l:Ln}{ns:List Int}{e:Int}(ok:fb l)(T:fT l ns)(hne:ns≠ [])(he:e∈fr l ns (ns.headD 0)):fT l (oth e::ns.dropLast):=by
 obtain⟨h1,h2⟩:=qo he
 have hl:1<=ns.length:=by cases ns with |nil=>exact absurd rfl hne |cons x r=>simp
 refine⟨λx hx=>?_,?_,λi x y hx hy=>?_⟩
 ·rcases aP.mp hx with z |z
  ·rw[z]
   have:=mW ok h1
   unfold oth
   omega
  ·exact T.ends x ((List.dropLast_sublist ns).subset z)
 ·rw[aQ,bL]
  refine⟨λz=>h2 ?_,?_⟩
  ·rw[nC]at z
   have:=(List.dropLast_sublist ns).map (· / 2)
   exact this.subset z
  ·exact T.nd.sublist ((List.dropLast_sublist ns).map _)
 ·cases i with
  |zero=>
   cases hx
   have hy:ns.dropLast[0]? = some y:=hy
   rw[kC]
   have hy2:ns[0]? = some y:=by
    have:=(ah.mp hy).1
    rw[List.getElem?_dropLast]at hy
    split at hy
    ·exact hy
    ·cases hy
   have e2:ns.headD 0=y:=by cases ns with |nil=>cases hy2 |cons a r=>cases hy2;rfl
   rw[e2]at h1
   exact pM ok h1
  |succ j=>
   have hx:ns.dropLast[j]? = some x:=hx
   have hy:ns.dropLast[j+1]? = some y:=hy
   rw[List.getElem?_dropLast]at hx hy
   split at hx
   ·split at hy
    ·exact T.ch j x y hx hy
    ·cases hy
   ·cases hx
theorem vt {l:Ln}{ns:List Int}{m:Mv}(ok:fb l)(T:fT l ns)(hne:ns≠ [])(hm:m∈mvs l ns):fT l m.2/\m.2.length=ns.length/\m.2≠ []:=by
 have hl:1<=ns.length:=by cases ns with |nil=>exact absurd rfl hne |cons x r=>simp
 rcases az.mp hm with z |z
 ·obtain⟨e,he,rfl⟩:=ak.mp z
  refine⟨T.on ok hne he,?_,λe=>?_⟩
  ·simp only[onM,ai,bG,bc,dg];omega
  ·simp[onM]at e
 ·obtain⟨e,he,rfl⟩:=ak.mp z
  refine⟨T.back ok hne he,?_,λe=>?_⟩
  ·simp only[jw,bc,cB];omega
  ·simp[jw]at e
theorem mV {α:Type} [DecidableEq α]:∀ {l1 l2:List α},l1.Nodup->(∀ x∈l1,x∈l2)->l1.length<=l2.length
 |[],_,_,_=>aO _
 |x::r,l2,nd,h=>by
  rw[bL]at nd
  have hx:=h x aC
  have:=mV (l1:=r) (l2:=l2.erase x) nd.2 λy hy=>by
   have:y≠x:=λz=>nd.1 (by rw[<-z];exact hy)
   exact(List.mem_erase_of_ne this).mpr (h y (aA _ hy))
  rw[List.length_erase_of_mem hx]at this
  have h1:1<=l2.length:=by cases l2 with |nil=>cases hx |cons a b=>simp
  rw[bc]
  omega
def yH (l:Ln):List (Int×Int):=l.2.map (λp=>(oth p.1,p.2))++l.2.map λp=>(oth p.2,p.1)
def vF (l:Ln):List Int:=(List.range (2*l.1).toNat).map λi:Nat=>(i:Int)
def vN (l:Ln):Nat->List (List Int)
 | 0=>[[]]
 | 1=>(vF l).map λe=>[e]
 |n+2=>(yH l).flatMap λp=>(vN l n).map λr=>p.1::p.2::r
theorem Dy {l:Ln}(ok:fb l){x y:Int}(h:y∈jn l.2 (oth x)):(x,y)∈yH l:=by
 have h:=(lS ok).mp h
 unfold yH
 rw[az]
 by_cases hc:oth x<=y
 ·rw[show min (oth x) y=oth x by omega,show max (oth x) y=y by omega]at h
  exact .inl (ak.mpr ⟨_,h,by rw[kC]⟩)
 ·rw[show min (oth x) y=y by omega,show max (oth x) y=oth x by omega]at h
  exact .inr (ak.mpr ⟨_,h,by rw[kC]⟩)
theorem xG {l:Ln}(ok:fb l):∀ (n:Nat) (ns:List Int),ns.length=n->(∀ e∈ns,0<=e/\e<2*l.1)->(∀ (i:Nat) x y,ns[i]? = some x->ns[i+1]? = some y->y∈jn l.2 (oth x))->ns∈vN l n
 | 0,ns,hl,_,_=>by rw[List.eq_nil_of_length_eq_zero hl];exact aC
 | 1,[e],_,he,_=>by
  have:=he e aC
  refine ak.mpr ⟨e,ak.mpr ⟨e.toNat,by rw[List.mem_range];omega,by omega⟩,rfl⟩
 |n+2,x::y::r,hl,he,hc=>by
  refine List.mem_flatMap.mpr ⟨(x,y),Dy ok (hc 0 x y rfl rfl),ak.mpr ⟨r,xG ok n r (by simpa using hl) (λe h=>he e (aA _ (aA _ h))) (λi a b ha hb=>hc (i+2) a b ha hb),rfl⟩⟩
theorem xH {l:Ln}(ok:fb l):∀ n,(vN l n).length<=160 ^ ((n+1)/2)
 | 0=>by simp[vN]
 | 1=>by
  simp only[vN,vF,aa,List.length_range]
  have:=ok.most
  omega
 |n+2=>by
  have ih:=xH ok n
  simp only[vN]
  rw[List.length_flatMap]
  have e1:(yH l).map (λa=>((vN l n).map λr=>a.1::a.2::r).length)=(yH l).map λ_=>(vN l n).length:=by
   refine dW λa _=>by rw[aa]
  rw[e1,List.map_const',List.sum_replicate_nat]
  have h1:(yH l).length<=160:=by
   unfold yH
   rw[ai,aa,aa]
   have:=ok.len
   omega
  have e2:(n+2+1)/2=(n+1)/2+1:=by omega
  rw[e2,Nat.pow_succ,Nat.mul_comm (160 ^ _)]
  exact Nat.mul_le_mul h1 ih
theorem xR {l:Ln}(ok:fb l){n:Nat}(hn:n<=6){ts:List (List Int)}(nd:ts.Nodup)(h:∀ t∈ts,fT l t/\t.length=n):ts.length<=4096000:=by
 have h1:=mV nd (l2:=vN l n) λt ht=>xG ok n t (h t ht).2 (h t ht).1.ends (h t ht).1.ch
 have h2:=xH ok n
 have h3:160 ^ ((n+1)/2)<=160 ^ 3:=Nat.pow_le_pow_right (by decide) (by omega)
 have h4:160 ^ 3=4096000:=by decide
 omega
abbrev Ent:=List Int×Option (List Int×(Str×Int))
def lU (t:List Int)(o:List Ent)(m:Mv):List Ent:=if m.2∈o.map (·.1)then o else o ++ [(m.2,some (t,m.1))]
def fR (t:List Int)(ms:List Mv)(o:List Ent):List Ent:=ms.foldl (lU t) o
def eT (l:Ln)(ns:List Int):Nat->List Ent
 | 0=>[(ns,none)]
 |i+1=>match (eT l ns i)[i]? with
  |some e=>fR e.1 (mvs l e.1) (eT l ns i)
  |none=>eT l ns i
theorem tj (t:List Int)(o:List Ent)(m:Mv):o <+:lU t o m:=by
 unfold lU
 split
 ·exact List.prefix_rfl
 ·exact cJ _ _
theorem nZ (t:List Int)(ms:List Mv):∀ o,o <+:fR t ms o:=by
 induction ms with
 |nil=>exact λo=>List.prefix_rfl
 |cons m r ih=>exact λo=>(tj t o m).trans (ih _)
theorem rP {t:List Int}{ms:List Mv}{o:List Ent}{j:Nat}{m:Mv}(h:ms[j]? = some m):fR t (ms.take (j+1)) o=lU t (fR t (ms.take j) o) m:=by
 unfold fR
 rw[aZ,h,bJ];rfl
theorem nv {t:List Int}(ms:List Mv)(o:List Ent)(j:Nat):fR t (ms.take j) o <+:fR t ms o:=by
 have:fR t ms o=fR t (ms.drop j) (fR t (ms.take j) o):=by
  unfold fR
  rw[<-bJ,dG]
 rw[this]
 exact nZ _ _ _
theorem lY {l:Ln}{ns:List Int}{i:Nat}{e:Ent}(h:(eT l ns i)[i]? = some e):eT l ns (i+1)=fR e.1 (mvs l e.1) (eT l ns i):=by
 rw[eT,h]
theorem nX (l:Ln)(ns:List Int)(i:Nat):eT l ns i <+:eT l ns (i+1):=by
 rw[eT]
 split
 ·exact nZ _ _ _
 ·exact List.prefix_rfl
theorem rC (l:Ln)(ns:List Int)(i:Nat):∀ k,eT l ns i <+:eT l ns (i+k)
 | 0=>List.prefix_rfl
 |k+1=>(rC l ns i k).trans (nX l ns (i+k))
theorem tN {l:Ln}{ns:List Int}{i:Nat}(h:(eT l ns i).length<=i):∀ k,eT l ns (i+k)=eT l ns i
 | 0=>rfl
 |k+1=>by
  have ih:=tN h k
  have:(eT l ns (i+k))[i+k]? = none:=bH (by rw[ih];omega)
  show eT l ns (i+k+1)=_
  rw[eT,this]
  exact ih
structure mM (l:Ln)(ns:List Int)(es:List Ent):Prop where
 tr:∀ e∈es,fT l e.1/\e.1.length=ns.length/\e.1≠ []
 nd:(es.map (·.1)).Nodup
 ne:es≠ []
theorem mM.add {l:Ln}{ns t:List Int}{es:List Ent}{m:Mv}(ok:fb l)(h:mM l ns es)(hm:m∈mvs l t)(ht:fT l t/\t.length=ns.length/\t≠ []):mM l ns (lU t es m):=by
 unfold lU
 split
 ·exact h
 ·rename_i hn
  obtain⟨h1,h2,h3⟩:=vt ok ht.1 ht.2.2 hm
  refine⟨λe he=>?_,?_,by simp⟩
  ·rcases az.mp he with z |z
   ·exact h.tr e z
   ·have z:e=(m.2,some (t,m.1)):=by simpa using z
    rw[z];exact⟨h1,by show m.2.length=ns.length;omega,h3⟩
  ·rw[ax,bN]
   refine⟨h.nd,by simp,λa ha b hb z=>?_⟩
   have hb:b=m.2:=by simpa using hb
   exact hn (by rw[<-hb,<-z];exact ha)
theorem mM.scan {l:Ln}{ns t:List Int}(ok:fb l)(ht:fT l t/\t.length=ns.length/\t≠ []):∀ {ms:List Mv}{es:List Ent},(∀ m∈ms,m∈mvs l t)->mM l ns es->mM l ns (fR t ms es)
 |[],_,_,h=>h
 |m::r,es,hm,h=>mM.scan (ms:=r) ok ht (λx hx=>hm x (aA _ hx)) (h.add ok (hm m aC) ht)
theorem iu {l:Ln}{ns:List Int}(ok:fb l)(T:fT l ns)(hne:ns≠ []):∀ i,mM l ns (eT l ns i)
 | 0=>⟨λe he=>by have z:e=(ns,none):=(by simpa [eT]using he);rw[z];exact⟨T,rfl,hne⟩,by simp[eT],by simp[eT]⟩
 |i+1=>by
  have ih:=iu ok T hne i
  rw[eT]
  split
  ·rename_i e he
   exact mM.scan ok (ih.tr e (ay he)) (λm hm=>hm) ih
  ·exact ih
theorem mM.len {l:Ln}{ns:List Int}{es:List Ent}(ok:fb l)(h:mM l ns es)(hn:ns.length<=6):es.length<=4096000:=by
 have:=xR ok hn h.nd λt ht=>by
  obtain⟨e,he,rfl⟩:=ak.mp ht
  exact⟨(h.tr e he).1,(h.tr e he).2.1⟩
 rw[aa]at this
 exact this
theorem mM.KP {l:Ln}{ns:List Int}{es:List Ent}(h:mM l ns es)(hn:ns.length=1):es.length<=(2*l.1).toNat:=by
 have:=mV h.nd (l2:=(vF l).map λe=>[e]) λt ht=>by
  obtain⟨e,he,rfl⟩:=ak.mp ht
  obtain⟨h1,h2,_⟩:=h.tr e he
  rw[hn]at h2
  match hq:e.1,h2 with
  |[x],_=>
   have:=h1.ends x (by rw[hq];exact aC)
   exact ak.mpr ⟨x,ak.mpr ⟨x.toNat,by rw[List.mem_range];omega,by omega⟩,rfl⟩
 rw[aa,aa]at this
 unfold vF at this
 rw[aa,List.length_range]at this
 exact this
def okJ (m:Int)(p:Int×Int):Prop:=(0<=p.1/\p.1<2*m)/\(0<=p.2/\p.2<2*m)/\p.1<=p.2/\p.1/2≠p.2/2
structure ib (l:Ln):Prop where
 one:1<=l.1
 most:l.1<=14
 len:l.2.length<=24
 ok:∀ p∈l.2,okJ l.1 p
 nd:l.2.Nodup
theorem ib.gI {l:Ln}(G:ib l):fb l:=by
 have h1:=G.len
 refine⟨G.one,by have:=G.most;omega,by omega,λe=>?_,λp hp=>?_⟩
 ·have:=inc_le l.2 e;omega
 ·obtain⟨a,b,c,_⟩:=G.ok p hp
  exact⟨a.1,c,b.2⟩
structure Ren (m:Int)(nm es:List Int):Prop where
 len:(nm.length:Int)=m
 nb:∀ x∈nm,0<=x/\x<m
 nd:nm.Nodup
 qP:es.length=2*nm.length
 at_:∀ j,j<nm.length->∃ f:Int,(f=0\/f=1)/\es[2*j]? = some (2*nm.getD j 0+f)/\es[2*j+1]? = some (2*nm.getD j 0+1-f)
def rho (es:List Int)(e:Int):Int:=es.getD e.toNat 0
def rj (es:List Int)(p:Int×Int):Int×Int:=(min (rho es p.1) (rho es p.2),max (rho es p.1) (rho es p.2))
theorem Ren.rho {m:Int}{nm es:List Int}(R:Ren m nm es){e:Int}(h0:0<=e)(h1:e<2*m):
  ∃ f:Int,(f=0\/f=1)/\TL.rho es e=2*nm.getD (e/2).toNat 0+(if e%2=0 then f else 1-f)/\
   ∀ e',0<=e'->e'/2=e/2->TL.rho es e'=2*nm.getD (e/2).toNat 0+(if e'%2=0 then f else 1-f):=by
 have hl:=R.len
 obtain⟨f,hf,e1,e2⟩:=R.at_ (e/2).toNat (by omega)
 have key:∀ e',0<=e'->e'/2=e/2->TL.rho es e'=2*nm.getD (e/2).toNat 0+(if e'%2=0 then f else 1-f):=λe' h2 h3=>by
  unfold TL.rho
  by_cases c:e'%2=0
  ·rw[aL c,aG,show e'.toNat=2*(e/2).toNat by omega,e1];rfl
  ·rw[aH c,aG,show e'.toNat=2*(e/2).toNat+1 by omega,e2]
   show 2*nm.getD (e/2).toNat 0+1-f=_
   omega
 exact⟨f,hf,key e h0 rfl,key⟩
theorem Ren.oJ {m:Int}{nm es:List Int}(R:Ren m nm es){e:Int}(h0:0<=e)(h1:e<2*m):TL.rho es e/2=nm.getD (e/2).toNat 0:=by
 obtain⟨f,hf,e1,_⟩:=R.rho h0 h1
 rw[e1]
 split<;>omega
theorem Ren.Gr {m:Int}{nm es:List Int}(R:Ren m nm es){p:Int}(h0:0<=p)(h1:p<m):0<=nm.getD p.toNat 0/\nm.getD p.toNat 0<m:=by
 have hl:=R.len
 have h2:p.toNat<nm.length:=by omega
 have:nm.getD p.toNat 0=nm[p.toNat]:=by rw[aG,af h2];rfl
 rw[this]
 exact R.nb _ (List.getElem_mem h2)
theorem Ren.vp {m:Int}{nm es:List Int}(R:Ren m nm es){p q:Int}(h0:0<=p)(h1:p<m)(g0:0<=q)(g1:q<m)(e:nm.getD p.toNat 0=nm.getD q.toNat 0):p=q:=by
 have hl:=R.len
 have h2:p.toNat<nm.length:=by omega
 have h3:q.toNat<nm.length:=by omega
 have e1:nm.getD p.toNat 0=nm[p.toNat]:=by rw[aG,af h2];rfl
 have e2:nm.getD q.toNat 0=nm[q.toNat]:=by rw[aG,af h3];rfl
 rw[e1,e2]at e
 have:=(cU R.nd).mp e
 omega
theorem Ren.xZ {m:Int}{nm es:List Int}(R:Ren m nm es){e:Int}(h0:0<=e)(h1:e<2*m):0<=TL.rho es e/\TL.rho es e<2*m:=by
 obtain⟨f,hf,e1,_⟩:=R.rho h0 h1
 have:=R.Gr (p:=e/2) (by omega) (by omega)
 rw[e1]
 split<;>omega
theorem Ren.inj {m:Int}{nm es:List Int}(R:Ren m nm es){e e':Int}(h0:0<=e)(h1:e<2*m)(g0:0<=e')(g1:e'<2*m)(h:TL.rho es e=TL.rho es e'):e=e':=by
 have hp:e/2=e'/2:=by
  have a:=R.oJ h0 h1
  have b:=R.oJ g0 g1
  rw[h,b]at a
  exact(R.vp (by omega) (by omega) (by omega) (by omega) a).symm
 obtain⟨f,hf,e1,e2⟩:=R.rho h0 h1
 rw[e1,e2 e' g0 hp.symm]at h
 by_cases c:e%2=0<;>by_cases d:e'%2=0
 ·omega
 ·rw[aL c,aH d]at h;omega
 ·rw[aH c,aL d]at h;omega
 ·omega
theorem Ren.oth {m:Int}{nm es:List Int}(R:Ren m nm es){e:Int}(h0:0<=e)(h1:e<2*m):TL.rho es (TL.oth e)=TL.oth (TL.rho es e):=by
 obtain⟨f,hf,e1,e2⟩:=R.rho h0 h1
 have h2:TL.oth e/2=e/2:=by unfold TL.oth;omega
 have h3:0<=TL.oth e:=by unfold TL.oth;omega
 rw[e2 _ h3 h2,e1]
 unfold TL.oth
 by_cases c:e%2=0
 ·rw[aL c,aH (by omega)];omega
 ·rw[aH c,aL (by omega)];omega
theorem Ren.okJ {m:Int}{nm es:List Int}(R:Ren m nm es){p:Int×Int}(h:TL.okJ m p):TL.okJ m (rj es p):=by
 obtain⟨⟨a0,a1⟩,⟨b0,b1⟩,le,ne⟩:=h
 have ha:=R.xZ a0 a1
 have hb:=R.xZ b0 b1
 have pa:=R.oJ a0 a1
 have pb:=R.oJ b0 b1
 have hne:TL.rho es p.1/2≠TL.rho es p.2/2:=λz=>by
  rw[pa,pb]at z
  exact ne (R.vp (by omega) (by omega) (by omega) (by omega) z)
 unfold TL.okJ rj
 dsimp only
 generalize TL.rho es p.1=x at *
 generalize TL.rho es p.2=y at *
 refine⟨by omega,by omega,by omega,λz=>?_⟩
 by_cases c:x<=y
 ·rw[cA c,cv c]at z;exact hne z
 ·rw[cG (by omega),cN (by omega)]at z;exact hne z.symm
theorem okJ.lt {m:Int}{p:Int×Int}(h:okJ m p):p.1<p.2:=by
 obtain⟨_,_,le,ne⟩:=h
 by_cases c:p.1=p.2
 ·rw[c]at ne;exact absurd rfl ne
 ·omega
theorem DP {a b c d:Int}(h1:min a b=min c d)(h2:max a b=max c d):(a=c/\b=d)\/(a=d/\b=c):=by
 rcases Int.le_total a b with x |x<;>rcases Int.le_total c d with y |y
 ·rw[cA x,cA y]at h1;rw[cv x,cv y]at h2;exact .inl ⟨h1,h2⟩
 ·rw[cA x,cG y]at h1;rw[cv x,cN y]at h2;exact .inr ⟨h1,h2⟩
 ·rw[cG x,cA y]at h1;rw[cN x,cv y]at h2;exact .inr ⟨h2,h1⟩
 ·rw[cG x,cG y]at h1;rw[cN x,cN y]at h2;exact .inl ⟨h2,h1⟩
theorem Ren.Eo {m:Int}{nm es:List Int}(R:Ren m nm es){p q:Int×Int}(hp:TL.okJ m p)(hq:TL.okJ m q)(e:rj es p=rj es q):p=q:=by
 obtain⟨⟨a0,a1⟩,⟨b0,b1⟩,le,ne⟩:=id hp
 obtain⟨⟨c0,c1⟩,⟨d0,d1⟩,le',ne'⟩:=id hq
 have l1:=hp.lt
 have l2:=hq.lt
 unfold rj at e
 rw[Prod.mk.injEq]at e
 obtain⟨e1,e2⟩:=e
 obtain⟨pa,pb⟩:=p
 obtain⟨qa,qb⟩:=q
 dsimp only at *
 have hor:=DP e1 e2
 rcases hor with⟨x,y⟩|⟨x,y⟩
 ·rw[R.inj a0 a1 c0 c1 x,R.inj b0 b1 d0 d1 y]
 ·have:=R.inj a0 a1 d0 d1 x
  have:=R.inj b0 b1 c0 c1 y
  omega
theorem Ren.line {m:Int}{nm es:List Int}(R:Ren m nm es){js js':List (Int×Int)}(G:ib (m,js))(hp:js'.Perm (js.map (rj es))):ib (m,js'):=by
 refine⟨G.one,G.most,?_,λp h=>?_,?_⟩
 ·have:=hp.length_eq
  rw[aa]at this
  show js'.length<=24
  have:=G.len
  dsimp only at this
  omega
 ·obtain⟨q,hq,rfl⟩:=ak.mp (hp.mem_iff.mp h)
  exact R.okJ (G.ok q hq)
 ·refine hp.nodup_iff.mpr ?_
  rw[List.Nodup,ef]
  exact List.Pairwise.imp_of_mem (λ{a b} ha hb hab z=>hab (R.Eo (G.ok a ha) (G.ok b hb) z)) G.nd
def Oy (K:PySem.W.Frag)(H:Hp)(Q:VK):Prop:=∀ (v:V) (l:Ln) (H':Hp),eQ H H'->Da K H' (dL l) v->ib l->Q v H'
end TL
namespace TL
theorem sP {m:Int}{js:List (Int×Int)}{a b:Int}(G:ib (m,js))(ne:a/2≠b/2)(a0:0<=a)(a1:a<2*m)(b0:0<=b)(b1:b<2*m)(hn:(min a b,max a b)∉js)(hl:js.length<24):ib (m,js ++ [(min a b,max a b)]):=by
 refine⟨G.one,G.most,?_,λp hp=>?_,?_⟩
 ·show(js ++ [(min a b,max a b)]).length<=24
  rw[ai];show js.length+1<=24;omega
 ·rcases az.mp hp with z |z
  ·exact G.ok p z
  ·have z:p=(min a b,max a b):=by simpa using z
   subst z
   unfold okJ
   dsimp only
   refine⟨by omega,by omega,by omega,λz=>?_⟩
   by_cases c:a<=b
   ·rw[cA c,cv c]at z;exact ne z
   ·rw[cG (by omega),cN (by omega)]at z;exact ne z.symm
 ·refine bN.mpr ⟨G.nd,by simp,λx hx y hy=>?_⟩
  have hy:y=(min a b,max a b):=by simpa using hy
  rw[hy]
  exact λz=>hn (z ▸ hx)
open PySem PySem.Spec PyProof.Rows L2
section
variable {prog:Program}{w:World}{A:Around}{E:Value->Shared->Prop}{s:Shared}{l b:Addr}{items Ls:Array Value}{n n2:Nat}
end
section
variable {X:Cx}
end
abbrev TF:=St->Hp->Str->(Str->Hp->Prop)->Prop
section
variable {X:Cx}{e:Expr}{es:List Expr}{te:TE}{tf:TF}{pos:Pos}
end
section
variable {X:Cx}
end
section
variable {prog:Program}{w:World}{A:Around}{E:Value->Shared->Prop}{s:Shared}
end
section
variable {X:Cx}{pos:Pos}
end
section
variable {prog:Program}{w:World}{A:Around}{E:Value->Shared->Prop}{s:Shared}
end
section
variable {X:Cx}{pos:Pos}
end
section
variable {X:Cx}
end
section
variable {X:Cx}{tg e:Expr}{te:TE}
end
end TL
namespace TS
open PySem
open SetTable
def adv (mask:Nat)(p:Probe):Probe:=
 if p.more>0 then {p with j:=p.j+1,more:=p.more-1} else
 {p with j:=(leap mask p.i p.perturb).1,more:=runEnd mask (leap mask p.i p.perturb).1-(leap mask p.i p.perturb).1,i:=(leap mask p.i p.perturb).1,perturb:=(leap mask p.i p.perturb).2}
def pAt (mask:Nat)(h:Int):Nat->Probe
 | 0=>{j:=bits h%(mask+1),more:=runEnd mask (bits h%(mask+1))-bits h%(mask+1),i:=bits h%(mask+1),perturb:=bits h,dummy:=none}
 |n+1=>adv mask (pAt mask h n)
open SetTable
def Dz (mask:Nat)(taken:List Nat)(h:Int)(j:Nat):Prop:=∃ n,(pAt mask h n).j=j/\∀ m,m<n->(pAt mask h m).j∈taken
structure WFT (t:SetTable)(hs:List Int):Prop where
 pow:∃ k,3<=k/\t.mask+1=2 ^ k
 small:t.mask<=8191
 dum:t.dummies = #[]
 rise:t.place.toList.Pairwise (· < ·)
 all:∀ j∈t.place.toList,j<=t.mask
 len:t.place.size=hs.length
 room:hs.length*5<t.mask*3
 reach:∀ i (h:i<hs.length) j,t.place[i]? = some j->Dz t.mask t.place.toList hs[i] j
open SetTable
end TS
namespace TL
open PySem TS
section
variable {prog:Program}{w:World}{K:Type} [DecidableEq K] {knd:KeyKind prog w K}{A:Around}{E:Value->Shared->Prop}{s:Shared}
def LO (knd:KeyKind prog w K)(x:List K×Addr):Int×Value:=(tupleKeyHash knd x.1,.ref x.2)
def Ox (knd:KeyKind prog w K)(h:Heap)(a:Addr)(xs:List (List K×Addr)):Prop:=
 ∃ o es ep t,h.get? a=some o/\o.ExactSet/\o.data = .set es ep t/\es.toList=xs.map (LO knd)/\(xs.map (·.1)).Nodup/\WFT t (xs.map λx=>tupleKeyHash knd x.1)
end
section
variable {prog:Program}{w:World}{K:Type} [DecidableEq K] {knd:KeyKind prog w K}{A:Around}{E:Value->Shared->Prop}{s:Shared}
end
open PySem.Spec PyProof.Rows L2
def Ow (P:Program)(w:World)(a:Addr)(xs:List (List Key×Addr)):HO:=.ext λh=>Ox (gq P w) h a xs
abbrev keysOf (xs:List (List Key×Addr)):List (List Key):=xs.map λx=>x.1
section
variable {X:Cx}{pins:List (Addr×Obj)}{σ:St}{H:Hp}{s:Shared}
end
section
variable {prog:Program}{w:World}{A:Around}{R:Result->Shared->Prop}{I:Addr}{fp wr:List Addr}{G:Array GenState->Array GenState->Prop}{n:Nat}{P:Nat->Value->Prop}{St:Nat->Shared->Prop}
end
section
variable {prog:Program}{w:World}{A:Around}{E:Value->Shared->Prop}{s:Shared}
end
section
variable {X:Cx}
end
section
variable {X:Cx}{o e:Expr}{es:List Expr}{to:TE}{t:TA}{name:Str}{apos lT:Pos}{id:String}{r:V->List V->Hp->VK->Prop}
end
open HT
section
variable {prog:Program}{w:World}{A:Around}{E:Value->Shared->Prop}{s:Shared}
end
section
variable {X:Cx}{e:Expr}{te:TE}{pos p2:Pos}
end
section
variable {X:Cx}{a b c d:Expr}{ta tb tc td:TE}{pos:Pos}
end
end TL
namespace TL
open PySem PySem.Spec PyProof.Rows L2
section
variable {X:Cx}
end
section
variable {X:Cx}
end
section
variable {X:Cx}{K:PySem.W.Frag}{T:String}{name:Str}{id:String}{r:V->List V->Hp->VK->Prop}{o e:Expr}{es:List Expr}{to:TE}{t:TA}{apos lT:Pos}
end
section
variable {K:PySem.W.Frag}{l:Addr}{g:TG}{tt:TT}{te:TE}{cap:List (Option Nat)}{σ:St}{Q:VK}{H1:Hp}{J:It}
end
section
variable {X:Cx}
end
open PySem.W
def ev {α:Type} :List α->List α
 |[]=>[]
 |[x]=>[x]
 |x::_::r=>x::ev r
section
variable {X:Cx}{e st lo:Expr}{te ts tl:TE}{pos p2:Pos}
end
section
variable {X:Cx}{tg:Expr}
end
section
variable {X:Cx}
end
section
variable {X:Cx}
end
section
variable {X:Cx}{tg:Expr}
end
end TL
namespace TL
open PySem PySem.Spec PyProof.Rows L2 TS
section
variable {prog:Program}{w:World}{A:Around}{R:Result->Shared->Prop}{s:Shared}
theorem vL {kx vx target iter:Expr}{ifs:List Expr}{scope:Scope}{pos:Pos}{it:Value}{D:Addr}{env:Env}(I:Nat->Shared->Prop)
  (turn:∀ n s,I n s->wpAny (model prog w) A (pyNext it) (λr s₁=>match r with
   |none=>R (.ok .next) s₁
   |some v=>wpAny (model prog w) A (letOwnedTupleGo target it v) (λ_ s₀=>wpAny (model prog w) A (assign target env v) (λ_ s₂=>
     wpAny (model prog w) A (qT ifs env) (λok s₃=>
      if ok=true then wpAny (model prog w) A (eval kx env) (λkv s₄=>wpAny (model prog w) A (eval vx env) (λvv s₅=>
       wpAny (model prog w) A (dictSet D kv vv) (λ_ s₆=>∃ m,m<n/\I m s₆) (λ_ _=>False) s₅) (λ_ _=>False) s₄) (λ_ _=>False) s₃
      else ∃ m,m<n/\I m s₃) (λ_ _=>False) s₂) (λ_ _=>False) s₀) (λ_ _=>False) s₁) (λ_ _=>False) s)
  (n:Nat) (h:I n s):
  codeAny (model prog w) A (.compLoop (.DictComp kx vx [⟨target,iter,ifs,0⟩] scope pos) 0 it (.ref D) env) R s:=by
 refine codeAny_loop rfl I (λn s hI=>?_) n h
 show wpAny _ A ((compTurn (.DictComp kx vx [⟨target,iter,ifs,0⟩] scope pos) 0 it (.ref D) env).onRaise (λx=>do noteFrame x env;theTreesLotGoes x)) _ _ s
 refine wpAny_noted ?_
 rw[compTurn_dict]
 refine ae (b8 (ae (br (turn n s hI) (λr s₁ h₁=>?_) λ_ _ h'=>h'.elim)))
 cases r with
 |none=>exact ao h₁
 |some v=>
  refine ae (br h₁ (λ_ s₀ h₀=>?_) λ_ _ h'=>h'.elim)
  refine ae (br h₀ (λ_ s₂ h₂=>ae (br h₂ (λok s₃ h₃=>?_) λ_ _ h'=>h'.elim)) λ_ _ h'=>h'.elim)
  cases ok with
  |false=>exact ao ⟨rfl,h₃⟩
  |true=>
   exact ae (ae (br h₃ (λkv s₄ h₄=>ae (cS (br h₄ (λvv s₅ h₅=>ae (b8 (cS (br h₅ (λ_ s₆ h₆=>ao ⟨rfl,h₆⟩) λ_ _ h'=>h'.elim)))) λ_ _ h'=>h'.elim))) λ_ _ h'=>h'.elim))
end
section
variable {X:Cx}{pins:List (Addr×Obj)}{σ:St}{H1:Hp}{s2:Shared}{scope:Scope}{N:List Str}{own:Nat}{cap:List (Option Nat)}{cl:List (Str×Addr)}{fp:List Addr}
 {tg iter elt vlt:Expr}{ifs:List Expr}{pos:Pos}{g:TG}{tt:TT}{te tv:TE}{wi:TI}
end
section
variable {X:Cx}{pins:List (Addr×Obj)}{σ:St}{H1:Hp}{s2:Shared}{scope:Scope}{N:List Str}{own:Nat}{cap:List (Option Nat)}{cl:List (Str×Addr)}{fp:List Addr}
 {tg iter elt vlt:Expr}{ifs:List Expr}{pos:Pos}{g:TG}{tt:TT}{te tv:TE}{wi:TI}
end
end TL
namespace L2
open PySem PySem.Spec PySem.Calls PyProof.Rows PySem.W
section
variable {X:Cx}{body FV:List Stmt}{b₀:Stmt}{x:Str}{np GF pos:Pos}{D:Addr}{tb:(St->XK)->TS}{th:TS}
end
end L2
namespace TL
open PySem PySem.Spec PyProof.Rows L2
theorem yq {l:Int×List (Int×Int)}(h:fb l)(e:Int):(jn l.2 e).length<=60:=by
 unfold jn
 rw[mR,ai]
 exact h.inc e
theorem yC {l:Int×List (Int×Int)}(h:fb l)(ns:List Int)(e:Int):(fr l ns e).length<=60:=bz (bO _ _) (yq h e)
theorem oI {α β:Type}(f:α->β)(l:List α)(i:Nat)(x:α)(h:l[i]? = some x):(l.take (i+1)).map f=(l.take i).map f ++ [f x]:=by
 rw[aZ,h,ax];rfl
theorem nR:∀ (ds:List PyData),(∀ d∈ds,d.canLay0=true)->PyData.canLayAll0 ds=true
 |[],_=>by simp[PyData.canLayAll0]
 |d::ds,h=>by
  simp only[PyData.canLayAll0,eC]
  exact⟨h d aC,nR ds λx hx=>h x (aA _ hx)⟩
theorem tR (l:Int×List (Int×Int))(ns:List Int):∀ m∈mvs l ns,PyData.strOk m.1.1=true:=λm hm=>by
 rcases az.mp hm with z |z
 ·obtain⟨e,_,rfl⟩:=ak.mp z
  show PyData.strOk (Str.ofString "on")=true
  decide +kernel
 ·obtain⟨e,_,rfl⟩:=ak.mp z
  show PyData.strOk (Str.ofString "back")=true
  decide +kernel
def dM (k:Str×Int):PyData:=.tuple [.str k.1,.int k.2]
theorem DO {k:Str×Int}(h:PyData.strOk k.1=true):OkD (dM k):=by
 refine⟨?_,?_⟩
 ·simp only[dM,PyData.canLay0,PyData.canLayAll0,h,Bool.and_true]
 ·simp only[dM,PyData.depth,PyData.depthAll];decide
theorem G0 (a b:Str×Int):PyData.eqv (dM a) (dM b)=decide (a=b):=by
 obtain⟨a1,a2⟩:=a
 obtain⟨b1,b2⟩:=b
 simp only[dM,PyData.eqv,PyData.eqvAll,Bool.and_true]
 by_cases h:a1=b1<;>by_cases h':a2=b2<;>simp[h,h']
theorem zi {K:PySem.W.Frag}{H H1:Hp}{p:Addr}{ms:List Mv}{vs:List V}{i:Nat}{y:V}(D:Dgs (Lf H H1 p) (SqT K H1) (ms.map dMv) vs)(hy:vs[i]? = some y):
  ∃ m ad p1 b,ms[i]? = some m/\y = .ref ad/\SqT K H1 ad [.ref p1,.ref b]/\Da K H1 (dM m.1) (.ref p1)/\H1 b=some (.lst (m.2.map V.int))/\H b=none/\b≠p:=by
 obtain⟨d,e1,hd⟩:=Dgs.get D hy
 rw[aq]at e1
 cases q:ms[i]? with
 |none=>rw[q]at e1;cases e1
 |some m=>
  rw[q]at e1
  cases e1
  unfold dMv at hd
  obtain⟨ad,us,rfl,ht,q⟩:=gT.mp hd
  obtain⟨v1,r,rfl,h1,q⟩:=fy.mp q
  obtain⟨v2,r,rfl,h2,q⟩:=fy.mp q
  cases fQ.mp q
  have h1':Da K H1 (dM m.1) v1:=Dg.mono (λa us h=>SqL.of h.1) (λ_ _ h=>h) h1
  obtain⟨p1,_,rfl,_,_⟩:=gT.mp h1
  unfold dI at h2
  obtain⟨b,zs,rfl,⟨l1,l2,l3⟩,hz⟩:=gR.mp h2
  rw[mB.mp hz]at l1
  exact⟨m,ad,p1,b,rfl,rfl,ht,h1',l1,l2,l3⟩
def fnd (ms:List Mv)(k:Str×Int):Option (List Int):=(ms.find? λm=>decide (m.1=k)).map (·.2)
theorem Dn {ms:List Mv}{k:Str×Int}{i:Nat}{m:Mv}(hi:ms[i]? = some m)(e:m.1=k)(no:∀ j,j<i->∀ n,ms[j]? = some n->n.1≠k):fnd ms k=some m.2:=by
 unfold fnd
 have:ms.find? (λm=>decide (m.1=k))=some m:=by
  rw[List.find?_eq_some_iff_getElem]
  obtain⟨hl,hg⟩:=ah.mp hi
  refine⟨by simpa using e,i,hl,hg,λj hj=>?_⟩
  have:=no j hj _ (ah.mpr ⟨by omega,rfl⟩)
  simpa using this
 rw[this];rfl
theorem BR {ms:List Mv}{k:Str×Int}(no:∀ j,j<ms.length->∀ n,ms[j]? = some n->n.1≠k):fnd ms k=none:=by
 unfold fnd
 rw[Option.map_eq_none_iff,List.find?_eq_none]
 intro m hm
 obtain⟨j,hj,e⟩:=aU.mp hm
 have:=no j hj m (ah.mpr ⟨hj,e⟩)
 simpa using this
def dLI (xss:List (List Int)):PyData:=.list (xss.map dI)
theorem EF (xss:List (List Int)):OkD (dLI xss):=by
 refine⟨?_,?_⟩
 ·simp only[dLI,PyData.canLay0]
  refine nR _ λd hd=>?_
  obtain⟨m,hm,rfl⟩:=ak.mp hd
  exact(iE m).1
 ·simp only[dLI,PyData.depth]
  have:=gO (f:=dI) (k:=1) (λm=>by
   simp only[dI,PyData.depth]
   have:=gO (f:=PyData.int) (k:=0) (λ_=>by simp[PyData.depth]) m
   omega) xss
  omega
def stp (l:Ln)(o:Option (List (List Int)))(k:Str×Int):Option (List (List Int)):=o.bind λts=>(fnd (mvs l (ts.getLastD [])) k).map λb=>ts ++ [b]
def wkl (l:Ln)(ns:List Int)(run:List (Str×Int)):Option (List (List Int)):=run.foldl (stp l) (some [ns])
theorem rL (l:Ln)(run:List (Str×Int)):run.foldl (stp l) none=none:=by
 induction run with
 |nil=>rfl
 |cons k r ih=>exact ih
theorem vV {l:Ln}{ns:List Int}{run:List (Str×Int)}{i:Nat}{k:Str×Int}(h:run[i]? = some k):wkl l ns (run.take (i+1))=stp l (wkl l ns (run.take i)) k:=by
 unfold wkl
 rw[aZ,h,bJ]
 rfl
theorem AD {l:Ln}{ns:List Int}{run:List (Str×Int)}{i:Nat}(h:wkl l ns (run.take i)=none):wkl l ns run=none:=by
 unfold wkl at h ⊢
 rw[<-dG i run,bJ,h,rL]
theorem Dl {l:Ln}{ns b:List Int}{k:Str×Int}(hne:ns≠ [])(h:fnd (mvs l ns) k=some b):b≠ []/\b.length=ns.length:=by
 unfold fnd at h
 cases q:(mvs l ns).find? (λm=>decide (m.1=k))with
 |none=>rw[q]at h;cases h
 |some m=>
  rw[q]at h
  cases h
  have hm:=d8 q
  have hl:1<=ns.length:=by cases ns with |nil=>exact absurd rfl hne |cons x r=>simp
  have:m.2.length=ns.length:=by
   rcases az.mp hm with z |z
   ·obtain⟨e,_,h⟩:=ak.mp z
    rw[<-h];simp only[onM,ai,bG,bc,dg];omega
   ·obtain⟨e,_,h⟩:=ak.mp z
    rw[<-h];simp only[jw,bc,cB];omega
  refine⟨λe=>?_,this⟩
  have e:m.2 = []:=e
  rw[e]at this
  simp at this
  omega
structure Cd (ns:List Int)(i:Nat)(ts:List (List Int)):Prop where
 len:ts.length=i+1
 each:∀ t∈ts,t≠ []/\t.length=ns.length
theorem Cd.snoc {l:Ln}{ns:List Int}{i:Nat}{ts:List (List Int)}{k:Str×Int}{b:List Int}(w:Cd ns i ts)(h:fnd (mvs l (ts.getLastD [])) k=some b):Cd ns (i+1) (ts ++ [b]):=by
 have hne:ts≠ []:=λe=>by have:=w.len;rw[e]at this;simp at this
 have hl:ts.getLastD []∈ts:=by
  rw[bf,List.getLast?_eq_some_getLast hne]
  exact List.getLast_mem hne
 obtain⟨h1,h2⟩:=w.each _ hl
 obtain⟨h3,h4⟩:=Dl h1 h
 refine⟨by rw[ai,w.len];rfl,λt ht=>?_⟩
 rcases az.mp ht with z |z
 ·exact w.each t z
 ·have z:t=b:=by simpa using z
  rw[z];exact⟨h3,by omega⟩
def dR (run:List (Str×Int)):PyData:=.list (run.map dM)
theorem yF {K:PySem.W.Frag}{H:Hp}{run:List (Str×Int)}{vs:List V}{i:Nat}{y:V}(h:Das K H (run.map dM) vs)(e:vs[i]? = some y):∃ k,run[i]? = some k/\Da K H (dM k) y:=by
 obtain⟨d,e1,hd⟩:=Dgs.get h e
 rw[aq]at e1
 cases q:run[i]? with
 |none=>rw[q]at e1;cases e1
 |some k=>rw[q]at e1;cases e1;exact⟨k,rfl,hd⟩
structure lP (K:PySem.W.Frag)(H:Hp)(q:Addr)(run:List (Str×Int)):Prop where
 ex:∃ vs,H q=some (.lst vs)/\Das K (hid q H) (run.map dM) vs
 ok:∀ k∈run,PyData.strOk k.1=true
theorem lP.same {K:PySem.W.Frag}{H H':Hp}{q:Addr}{run:List (Str×Int)}(r:lP K H q run)(s:eQ H H'):lP K H' q run:=by
 obtain⟨⟨vs,h1,h2⟩,h3⟩:=r
 exact⟨⟨vs,s _ _ h1,Das.same (nH s) h2⟩,h3⟩
theorem lP.da {K:PySem.W.Frag}{H:Hp}{q:Addr}{run:List (Str×Int)}(r:lP K H q run):Da K H (dR run) (.ref q):=by
 obtain⟨⟨vs,h1,h2⟩,h3⟩:=r
 exact gR.mpr ⟨q,vs,rfl,SqL.of h1,Das.same iF h2⟩
abbrev Ma:=Mv×Addr×Addr
theorem uX {K:PySem.W.Frag}{H:Hp} :∀ {as:List Addr}{ts:List (List Int)},as.length=ts.length->(∀ (i:Nat) b t,as[i]? = some b->ts[i]? = some t->H b=some (.lst (t.map V.int)))->Das K H (ts.map dI) (as.map V.ref)
 |[],[],_,_=>fQ.mpr rfl
 |a::as,t::ts,hl,h=>fy.mpr ⟨_,_,rfl,fD (h 0 a t rfl rfl),uX (by simpa using hl) λi b t' h1 h2=>h (i+1) b t' h1 h2⟩
theorem fT.snoc {l:Int×List (Int×Int)}{ns:List Int}{x:Int}(ok:fb l)(T:fT l ns)(hne:ns≠ [])(hx:x∈fr l ns (oth (ns.getLastD 0))):fT l (ns ++ [x]):=by
 obtain⟨h1,h2⟩:=b9.mp hx
 have h2:¬x/2∈ns.map (· / 2):=by simpa using h2
 refine⟨λe he=>?_,?_,λi a b ha hb=>?_⟩
 ·rcases az.mp he with z |z
  ·exact T.ends e z
  ·have z:e=x:=by simpa using z
   rw[z];exact mW ok h1
 ·rw[ax,bN]
  refine⟨T.nd,by simp,λa ha b hb=>?_⟩
  have hb:b=x/2:=by simpa using hb
  intro z
  exact h2 (by rw[<-hb,<-z];exact ha)
 ·by_cases hi:i+1<ns.length
  ·rw[aj hi]at hb
   rw[aj (by omega)]at ha
   exact T.ch i a b ha hb
  ·have hlt:i+1<(ns ++ [x]).length:=(ah.mp hb).1
   rw[ai,aE]at hlt
   have e1:i+1=ns.length:=by omega
   rw[e1,aw (av _),aV]at hb
   cases hb
   rw[aj (by omega)]at ha
   have e2:ns.getLastD 0=a:=by
    rw[bf,cy]
    have:ns.length-1=i:=by omega
    rw[this,ha];rfl
   rw[e2]at h1
   exact h1
theorem BY {K:PySem.W.Frag}{H:Hp}{k:Str×Int}{v:V}(h:Da K H (dM k) v):∃ a,v = .ref a/\SqT K H a [.str k.1,.int k.2]:=by
 unfold dM at h
 obtain⟨a,vs,rfl,ht,q⟩:=gT.mp h
 obtain⟨v1,r,rfl,h1,q⟩:=fy.mp q
 obtain⟨v2,r,rfl,h2,q⟩:=fy.mp q
 cases fQ.mp q
 cases yE.mp h1
 cases gS.mp h2
 exact⟨a,rfl,ht⟩
theorem zD {K:PySem.W.Frag}{H:Hp}{k:Str×Int}{a:Addr}(h:SqT K H a [.str k.1,.int k.2]):Da K H (dM k) (.ref a):=gT.mpr ⟨a,_,rfl,h,Dgs.two (yE.mpr rfl) (gS.mpr rfl)⟩
theorem GO {K:PySem.W.Frag}{H:Hp}{p:Addr}{vs:List V}{k:Str×Int}{v:V}(hp:H p=some (.lst vs))(h:Da K H (dM k) v):Da K (hid p H) (dM k) v:=by
 obtain⟨a,rfl,ht⟩:=BY h
 exact zD (pN hp ht)
abbrev OE (cs:List Ma):List Mv:=cs.map (·.1)
theorem kP {l:Ln}(ok:fb l){ns:List Int}{m:Mv}(hm:m∈mvs l ns):(m.1.1=Str.ofString "on" \/m.1.1=Str.ofString "back")/\0<=m.1.2/\m.1.2<2*l.1:=by
 rcases az.mp hm with z |z
 ·obtain⟨e,he,h⟩:=ak.mp z
  rw[<-h]
  exact⟨.inl rfl,mW ok (qo he).1⟩
 ·obtain⟨e,he,h⟩:=ak.mp z
  rw[<-h]
  exact⟨.inr rfl,mW ok (qo he).1⟩
inductive jN (l:Ln) (ns:List Int):List (Str×Int)->List Int->Prop
 |nil:jN l ns [] ns
 |snoc {run:List (Str×Int)}{b:List Int}{m:Mv} :jN l ns run b->m∈mvs l b->jN l ns (run ++ [m.1]) m.2
theorem jN.words {l:Ln}(ok:fb l){ns:List Int}{run:List (Str×Int)}{b:List Int}(h:jN l ns run b):∀ k∈run,(k.1=Str.ofString "on" \/k.1=Str.ofString "back")/\0<=k.2/\k.2<2*l.1:=by
 induction h with
 |nil=>exact λk hk=>(nomatch hk)
 |snoc h hm ih=>
  intro k hk
  rcases az.mp hk with z |z
  ·exact ih k z
  ·have z:k=_:=bh.mp z
   rw[z];exact kP ok hm
theorem rK {x:Str}(h:x=Str.ofString "on" \/x=Str.ofString "back"):PyData.strOk x=true:=by
 rcases h with rfl |rfl<;>decide +kernel
end TL
namespace TL
open PySem TS
section
variable {prog:Program}{w:World}{A:Around}{E:Value->Shared->Prop}{s:Shared}
end
open PyProof.Rows PySem.W
section
variable {prog:Program}{w:World}{A:Around}{E:Value->Shared->Prop}{s:Shared}{it a:Addr}{o:Obj}{es:Array (Int×Value)}{ep:Nat}{t:SetTable}{hs:List Int}{i j:Nat}
end
section
variable {prog:Program}{w:World}{A:Around}{E:Value->Shared->Prop}{s:Shared}{a:Addr}{ep:Nat}{xs:List (Int×Tok)}
end
end TL
namespace TL
open PySem PySem.Spec PyProof.Rows L2 TS
section
variable {X:Cx}{pins:List (Addr×Obj)}{σ:St}{H:Hp}{s:Shared}
end
section
variable {X:Cx}{o e:Expr}{es:List Expr}{to:TE}{t:TA}{name:Str}{apos lT:Pos}{id:String}{r:V->List V->Hp->VK->Prop}
end
end TL
namespace L2
open PySem PySem.Spec PyProof.Rows
section
variable {P:Program}{w:World}{K:PySem.W.Frag}{mg:Str->Option Value}{base:Heap}
end
end L2
namespace TL
open PySem PySem.Spec PyProof.Rows L2 TS
section
variable {X:Cx}
end
end TL
namespace TL
open PySem L2 PyProof.Rows
open PySem.Spec TS
def kyI (t:List Int):List Key:=t.map Sum.inl
theorem hV (t:List Int):(kyI t).map kV=t.map V.int:=by
 unfold kyI;rw[bx];rfl
theorem qZ {a b:List Int}(h:kyI a=kyI b):a=b:=by
 unfold kyI at h
 induction a generalizing b with
 |nil=>cases b with |nil=>rfl |cons y r=>cases h
 |cons x r ih=>
  cases b with
  |nil=>cases h
  |cons y s=>
   rw[aQ,aQ,List.cons.injEq]at h
   rw[Sum.inl.inj h.1,ih h.2]
abbrev Rows:=List (List Int×Int)
def FW (l:Ln)(tr s:List Int):Prop:=s.length=tr.length/\s≠ []/\fT l s
def Hi (l:Ln)(tr:List Int)(ss:List (List Int)):Prop:=ss.Nodup/\∀ s∈ss,FW l tr s
def gv (rows:Rows)(s:List Int):Option Int:=(rows.find? λr=>decide (r.1=s)).map (·.2)
def F1 (l:Ln)(rows:Rows)(r:List Int×Int):Prop:=∀ m∈mvs l r.1,∃ n,gv rows m.2=some n/\n<=r.2+1
def Hj (l:Ln)(tr:List Int)(rows:Rows):Prop:=Hi l tr (rows.map (·.1))/\gv rows tr=some 0/\∀ r∈rows,F1 l rows r
def kvR (rows:Rows):List (List Key×V):=rows.map λr=>(kyI r.1,V.int r.2)
theorem rd (rows:Rows)(s:List Int):ky (kvR rows) (kyI s)=(gv rows s).map V.int:=by
 unfold ky gv kvR
 rw[List.find?_map,Option.map_map,Option.map_map]
 have:((λkv:List Key×V=>decide (kv.1=kyI s)) ∘ λr:List Int×Int=>(kyI r.1,V.int r.2)) = λr=>decide (r.1=s):=by
  funext r
  show decide (kyI r.1=kyI s)=decide (r.1=s)
  by_cases h:r.1=s
  ·rw[bA h,bA (by rw[h])]
  ·rw[bq h,bq λz=>h (qZ z)]
 rw[this]
 rfl
theorem jT {rows:Rows}(nd:(rows.map (·.1)).Nodup){r:List Int×Int}(h:r∈rows):gv rows r.1=some r.2:=by
 unfold gv
 induction rows with
 |nil=>cases h
 |cons q qs ih=>
  rw[aQ,bL]at nd
  by_cases e:q.1=r.1
  ·rw[List.find?_cons_of_pos (by simpa using e)]
   rcases aP.mp h with z |z
   ·rw[z];rfl
   ·exact absurd (ak.mpr ⟨r,z,e.symm⟩) nd.1
  ·rw[List.find?_cons_of_neg (by simpa using e)]
   rcases aP.mp h with z |z
   ·exact absurd (by rw[z]) e
   ·exact ih nd.2 z
theorem iX {rows:Rows}{s:List Int}{n:Int}(h:gv rows s=some n):(s,n)∈rows:=by
 unfold gv at h
 cases q:rows.find? λr=>decide (r.1=s)with
 |none=>rw[q]at h;cases h
 |some r=>
  rw[q]at h
  have h1:=d8 q
  have h2:r.1=s:=by simpa using List.find?_some q
  have h3:r.2=n:=by simpa using h
  rw[<-h2,<-h3];exact h1
theorem sD {rows:Rows}{s:List Int}(h:gv rows s=none):s∉rows.map (·.1):=λz=>by
 obtain⟨r,hr,e⟩:=ak.mp z
 unfold gv at h
 rw[Option.map_eq_none_iff,List.find?_eq_none]at h
 exact h r hr (by simpa using e)
theorem sS:∀ (a b:List Int),PyData.eqvAll (a.map PyData.int) (b.map PyData.int)=decide (a=b)
 |[],[]=>by simp[PyData.eqvAll]
 |[],y::b=>by simp[PyData.eqvAll]
 |x::a,[]=>by simp[PyData.eqvAll]
 |x::a,y::b=>by
  rw[aQ,aQ,PyData.eqvAll,sS a b,bR]
  simp[PyData.eqv]
theorem ux (a b:List Int):PyData.eqv (dI a) (dI b)=decide (a=b):=by
 unfold dI
 rw[PyData.eqv,sS]
theorem Ft (ss:List (List Int))(t:List Int):((ss.map dI).any λz=>PyData.eqv z (dI t))=decide (t∈ss):=by
 rw[List.any_map,bR,dN,b6]
 constructor
 ·rintro⟨y,hy,e⟩
  have e:PyData.eqv (dI y) (dI t)=true:=e
  rw[ux,b6]at e
  exact e ▸ hy
 ·exact λh=>⟨t,h,by show PyData.eqv (dI t) (dI t)=true;rw[ux];exact bA rfl⟩
theorem zg (ss:List (List Int)):Ce (ss.map dI):=by
 have h:=EF ss
 unfold dLI at h
 refine⟨by have:=h.1;rwa [PyData.canLay0]at this,?_⟩
 have:=h.2
 rw[PyData.depth]at this
 omega
def DH (l:Ln)(tr:List Int)(ss:List (List Int)):Prop:=ss.Nodup/\tr∈ss/\∀ s∈ss,FW l tr s/\∀ m∈mvs l s,m.2∈ss
def Ep (l:Ln)(tr:List Int)(rows:Rows):Prop:=∀ r∈rows,(r.1=tr->r.2=0)/\∀ q∈rows,q.1∈(mvs l r.1).map (·.2)->q.2<=r.2+1
theorem B9 {l:Ln}{tr:List Int}{rows:Rows} :Hj l tr rows↔DH l tr (rows.map (·.1))/\Ep l tr rows:=by
 constructor
 ·rintro⟨⟨nd,st⟩,h0,h1⟩
  refine⟨⟨nd,ak.mpr ⟨_,iX h0,rfl⟩,λs hs=>⟨st s hs,λm hm=>?_⟩⟩,λr hr=>⟨λe=>?_,λq hq hm=>?_⟩⟩
  ·obtain⟨r,hr,rfl⟩:=ak.mp hs
   obtain⟨n,hn,_⟩:=h1 r hr m hm
   exact ak.mpr ⟨_,iX hn,rfl⟩
  ·have:=jT nd hr
   rw[e,h0]at this
   exact(aW this).symm
  ·obtain⟨m,hm1,hm2⟩:=ak.mp hm
   obtain⟨n,hn,hle⟩:=h1 r hr m hm1
   have:=jT nd hq
   rw[<-hm2,hn]at this
   cases this
   exact hle
 ·rintro⟨⟨nd,ht,st⟩,h1⟩
  obtain⟨r,hr,e⟩:=ak.mp ht
  refine⟨⟨nd,λs hs=>(st s hs).1⟩,?_,λr hr m hm=>?_⟩
  ·have:=jT nd hr
   rw[(h1 r hr).1 e,show r.1=tr from e]at this
   exact this
  ·obtain⟨q,hq,e⟩:=ak.mp ((st r.1 (ak.mpr ⟨r,hr,rfl⟩)).2 m hm)
   have e:q.1=m.2:=e
   exact⟨q.2,by rw[<-e];exact jT nd hq,(h1 r hr).2 q hq (ak.mpr ⟨m,hm,e.symm⟩)⟩
end TL
namespace TL
open PySem L2 PyProof.Rows
def swp (p:Int×Int):Int×Int:=(p.2,p.1)
def both (js:List (Int×Int)):List (Int×Int):=js++js.map swp
open PySem.Spec TS
def Pw {α:Type}(R:α->V->Prop):List α->List V->Prop
 |[],[]=>True
 |d::ds,v::vs=>R d v/\Pw R ds vs
 |_,_=>False
theorem Pw.len {α:Type}{R:α->V->Prop} :∀ {ds:List α}{vs:List V},Pw R ds vs->vs.length=ds.length
 |[],[],_=>rfl
 |d::ds,v::vs,h=>by rw[bc,bc,Pw.len h.2]
theorem Pw.imp {α:Type}{R S:α->V->Prop}(f:∀ d v,R d v->S d v):∀ {ds:List α}{vs:List V},Pw R ds vs->Pw S ds vs
 |[],[],_=>trivial
 |d::ds,v::vs,h=>⟨f _ _ h.1,Pw.imp f h.2⟩
theorem Pw.app {α:Type}{R:α->V->Prop} :∀ {ds es:List α}{vs us:List V},Pw R ds vs->Pw R es us->Pw R (ds++es) (vs++us)
 |[],_,[],_,_,h=>h
 |d::ds,_,v::vs,_,h,h2=>⟨h.1,Pw.app h.2 h2⟩
theorem Pw.one {α:Type}{R:α->V->Prop}{d:α}{v:V}(h:R d v):Pw R [d] [v]:=⟨h,trivial⟩
section
variable {K:PySem.W.Frag}{l:Addr}{g:TG}{tt:TT}{te:TE}{cap:List (Option Nat)}{σ:St}{Q:VK}{H1:Hp}{J:It}
theorem Bx {α:Type}(n:Nat)(ds:List α)(Φ:Hp->α->V->Prop)(mono:∀ {H H':Hp} d v,eQ H H'->Φ H d v->Φ H' d v)(hn:H1 l=none)(hlen:n=ds.length)(hz:n<sizeLine)(go:∀ i H,eQ H1 H->i<n->J.go i H)(st:∀ H,eQ H1 H->J.stop n H)
  (hs:∀ i x d H H',eQ H1 H->(∃ us,H l=some (.lst us))->J.yld i H x H'->ds[i]? = some d->∀ (P1:VK) (P0:Hp->Prop),(∀ v H2,eQ H H2->Φ (hid l H2) d v->P1 v H2)->
   g x (iG cap σ) H' λσ2 H2=>tt σ2 H2 λb H3=>if b=true then te σ2 H3 P1 else P0 H3)
  (hq:∀ vs H',eQ H1 H'->H' l=some (.lst vs)->Pw (Φ (hid l H')) ds vs->Q (.ref l) H'):LcW J g tt te cap σ Q l H1:=by
 refine vy n (λi acc H=>Pw (Φ (hid l H)) (ds.take i) acc/\eQ H1 H/\H l=some (.lst acc)) ⟨trivial,eE hn,eG⟩ (λi acc H hi ⟨_,s,_⟩=>go i H s hi) (λacc H ⟨_,s,_⟩=>st H s) ?_ ?_
 ·rintro i x acc H H' hi ⟨e1,s,hl⟩ y
  have hd:ds[i]? = some (ds[i]'(by omega)):=by simp
  generalize ds[i]'(by omega)=d at hd
  refine hs i x d H H' s ⟨_,hl⟩ y hd _ _ (λv H2 s2 dv=>?_)
  have la:=Pw.len e1
  rw[bj]at la
  refine⟨s2 _ _ hl,by omega,?_,eQ.upd (s.trans s2) hn,eG⟩
  rw[mY,aZ,hd]
  exact Pw.app (Pw.imp (λd v=>mono d v (nH s2)) e1) (Pw.one dv)
 ·rintro acc H ⟨e1,s,hl⟩
  rw[bM (by omega)]at e1
  exact hq acc H s hl e1
end
theorem nY {l:Ln}{ns:List Int}(ok:fb l)(T:fT l ns):fT l (ns.reverse.map oth):=by
 refine⟨λe he=>?_,?_,λi x y hx hy=>?_⟩
 ·obtain⟨z,hz,rfl⟩:=ak.mp he
  have:=T.ends z (ez.mp hz)
  unfold oth;omega
 ·rw[bx,show((λx:Int=>x/2) ∘ oth)=(λx:Int=>x/2) from funext λe=>by show oth e/2=e/2;unfold oth;omega,cu]
  exact(List.reverse_perm _).nodup_iff.mpr T.nd
 ·rw[aq]at hx hy
  have hi:i+1<ns.length:=by
   by_cases z:i+1<ns.length
   ·exact z
   ·rw[bH (by rw[bu];omega)]at hy;cases hy
  rw[List.getElem?_reverse (by omega)]at hx
  rw[List.getElem?_reverse (by omega)]at hy
  cases q1:ns[ns.length-1-i]? with
  |none=>rw[q1]at hx;cases hx
  |some a=>
   cases q2:ns[ns.length-1-(i+1)]? with
   |none=>rw[q2]at hy;cases hy
   |some b=>
    rw[q1]at hx;rw[q2]at hy
    cases hx;cases hy
    have:=T.ch (ns.length-1-(i+1)) b a q2 (by rw[show ns.length-1-(i+1)+1=ns.length-1-i by omega];exact q1)
    rw[kC]
    exact pM ok this
end TL
namespace TL
open PySem PySem.Spec PyProof.Rows L2
section
variable {J:It}{l:Addr}{g:TG}{tt:TT}{te:TE}{cap:List (Option Nat)}{σ:L2.St}{Q:VK}{H1:Hp}
end
section
variable {D:Ends}{σ:L2.St}{H:Hp}
theorem nm {t R:TS}(h:∀ r:TS,(∀ D σ H,R D σ H->r D σ H)->oE t r D σ H):oE t R D σ H:=h R λ_ _ _ z=>z
theorem nm2 {t1 t2 R:TS}(h:∀ r:TS,(∀ D σ H,R D σ H->r D σ H)->oE t1 (oE t2 r) D σ H):oE t1 (oE t2 R) D σ H:=h R λ_ _ _ z=>z
theorem nm3 {t1 t2 t3 R:TS}(h:∀ r:TS,(∀ D σ H,R D σ H->r D σ H)->oE t1 (oE t2 (oE t3 r)) D σ H):oE t1 (oE t2 (oE t3 R)) D σ H:=h R λ_ _ _ z=>z
theorem cut {t u:TS}(J:L2.St->Hp->Prop)(first:∀ (N:L2.St->Hp->Prop) (R:VK) (B C:L2.St->Hp->Prop),(∀ σ' H',J σ' H'->N σ' H')->(∀ v H',D.rt v H'->R v H')->t ⟨N,R,B,C⟩ σ H)(rest:∀ σ' H',J σ' H'->u D σ' H'):oE t u D σ H:=
 first (u D) D.rt D.bk D.ct rest λ_ _ z=>z
theorem ik {K:PySem.W.Frag}{a:Addr}{xs:List V}{g:TG}{tb:TS}(Pv:Nat->L2.St->Hp->Prop)(h0:Pv 0 σ H)(hl:∀ i σ H,i<=xs.length->Pv i σ H->SqL K H a xs)
  (hs:∀ i x σ H (N:L2.St->Hp->Prop) (R:VK) (B:L2.St->Hp->Prop),(∀ σ' H',Pv (i+1) σ' H'->N σ' H')->(∀ v H',D.rt v H'->R v H')->xs[i]? = some x->Pv i σ H->g x σ H λσ2 H2=>tb ⟨N,R,B,N⟩ σ2 H2) (hd:∀ σ H,Pv xs.length σ H->D.nx σ H):
  ∃ W:Nat->Nat->L2.St->Hp->Prop,(∃ m,W 0 m σ H)/\∀ i m σ H,W i m σ H->
   ((Itl K a).stop i H/\D.nx σ H)\/((Itl K a).go i H/\∃ N:L2.St->Hp->Prop,(∀ σ' H',N σ' H'->∃ m',m'<m/\W (i+1) m' σ' H')/\∀ x H',(Itl K a).yld i H x H'->g x σ H' λσ2 H2=>tb {D with nx:=N,ct:=N,bk:=D.nx} σ2 H2):=
 nI Pv h0 hl (λi x σ H hx p=>hs i x σ H _ _ _ (λ_ _ z=>z) (λ_ _ z=>z) hx p) hd
theorem oZ {lo:Int}{n:Nat}{g:TG}{tb:TS}(Pv:Nat->L2.St->Hp->Prop)(h0:Pv 0 σ H)
  (hs:∀ i σ H (N:L2.St->Hp->Prop) (R:VK) (B:L2.St->Hp->Prop),(∀ σ' H',Pv (i+1) σ' H'->N σ' H')->(∀ v H',D.rt v H'->R v H')->i<n->Pv i σ H->g (.int (lo+i)) σ H λσ2 H2=>tb ⟨N,R,B,N⟩ σ2 H2) (hd:∀ σ H,Pv n σ H->D.nx σ H):
  ∃ W:Nat->Nat->L2.St->Hp->Prop,(∃ m,W 0 m σ H)/\∀ i m σ H,W i m σ H->
   ((Itr lo n).stop i H/\D.nx σ H)\/((Itr lo n).go i H/\∃ N:L2.St->Hp->Prop,(∀ σ' H',N σ' H'->∃ m',m'<m/\W (i+1) m' σ' H')/\∀ x H',(Itr lo n).yld i H x H'->g x σ H' λσ2 H2=>tb {D with nx:=N,ct:=N,bk:=D.nx} σ2 H2):=
 ox Pv h0 (λi σ H hx p=>hs i σ H _ _ _ (λ_ _ z=>z) (λ_ _ z=>z) hx p) hd
theorem Av {K:PySem.W.Frag}{a:Addr}{xs:List V}{g:TG}{tb:TS}(Pv:Nat->L2.St->Hp->Prop)(h0:Pv 0 σ H)(hl:∀ i σ H,i<=xs.length->Pv i σ H->SqL K H a xs)
  (hs:∀ i x σ H p (N:L2.St->Hp->Prop) (R:VK) (B:L2.St->Hp->Prop),(∀ σ' H',Pv (i+1) σ' H'->N σ' H')->(∀ v H',D.rt v H'->R v H')->xs[i]? = some x->Pv i σ H->H p=none->g (.ref p) σ (upd H p (.tup [.int i,x])) λσ2 H2=>tb ⟨N,R,B,N⟩ σ2 H2) (hd:∀ σ H,Pv xs.length σ H->D.nx σ H):
  ∃ W:Nat->Nat->L2.St->Hp->Prop,(∃ m,W 0 m σ H)/\∀ i m σ H,W i m σ H->
   ((Ite K a).stop i H/\D.nx σ H)\/((Ite K a).go i H/\∃ N:L2.St->Hp->Prop,(∀ σ' H',N σ' H'->∃ m',m'<m/\W (i+1) m' σ' H')/\∀ x H',(Ite K a).yld i H x H'->g x σ H' λσ2 H2=>tb {D with nx:=N,ct:=N,bk:=D.nx} σ2 H2):=
 BQ Pv h0 hl (λi x σ H p hx q np=>hs i x σ H p _ _ _ (λ_ _ z=>z) (λ_ _ z=>z) hx q np) hd
theorem nW {c:TT}{tb:TS}(Pv:L2.St->Hp->Prop)(μ:L2.St->Hp->Nat)(h0:Pv σ H)
  (hs:∀ σ H (N:L2.St->Hp->Prop) (R:VK) (B:L2.St->Hp->Prop),(∀ σ' H',Pv σ' H'->μ σ' H'<μ σ H->N σ' H')->(∀ v H',D.rt v H'->R v H')->(∀ σ' H',D.nx σ' H'->B σ' H')->Pv σ H->c σ H λb H1=>if b=true then tb ⟨N,R,B,N⟩ σ H1 else B σ H1)
  (mono:∀ σ H Q Q',(∀ b H1,Q b H1->Q' b H1)->c σ H Q->c σ H Q'):rJ c tb D σ H:=
 AE Pv μ h0 (λσ H p=>hs σ H _ _ _ (λ_ _ a b=>⟨a,b⟩) (λ_ _ z=>z) (λ_ _ z=>z) p) mono
end
section
variable {prog:Program}{w:World}{A:Around}{E:Value->Shared->Prop}{s:Shared}{d it vw:Addr}{o:Obj}{es:Array DictEntry}{ep i:Nat}{ok ov:Value}
theorem yb {Q:Value->Shared->Prop}(hn:(d==sysModules)=false)(ho:s.heap.get? d=some o)(hx:o.ExactDict)
  (hQ:Q (.ref s.heap.objs.size) {s with heap:=s.heap.push {cls:=.type "dict_items",data:=.fields #[.ref d]}}):wpAny (model prog w) A (call (.builtin "dict.items") [.ref d]) Q E s:=by
 have hT:=mi ho hx
 refine bW F.slot_dict_items hT F.entry_dict_items ?_ (F.args_dict_items_1 _)
 unfold Builtin.«dict.items»
 refine ae ?_
 unfold Builtin.Dict.noArgs
 refine ae (wpAny_notOrdered_dict hT (ao ?_))
 show wpAny _ _ (Builtin.Dict.showsAll d >>= _) _ _ s
 unfold Builtin.Dict.showsAll
 rw[aH (by rw[hn];exact aI)]
 exact ae (ao (ae (bS (ao ⟨_,rfl,hQ⟩))))
theorem zY {Q:Value->Shared->Prop}(hv:s.heap.IsItemsView vw d)(ho:s.heap.get? d=some o)(hd:o.data = .dict es ep)
  (hQ:Q (.ref s.heap.objs.size) {s with heap:=s.heap.push {cls:=.type "dict_itemiterator",data:=.fields #[.none,.bool false,.ref d,.int 0 0,.int es.size 0,.int ep 0,.none,.none]}}):wpAny (model prog w) A (pyIter (.ref vw)) Q E s:=by
 obtain⟨ov,hov,hcv,hdv⟩:=id hv
 have hT:=hv.typeIs
 refine wpAny_pyIter_slot hT F.slot_dict_items_iter (bW F.slot_dict_items_iter hT F.entry_dict_items_iter ?_ (F.args_dict_items_iter_1 _))
 unfold Builtin.«dict_items.__iter__»
 refine ae (ao (ae ?_))
 unfold Builtin.Dict_items.dictOf
 refine ae (wpAny_field hov hdv (x:=.ref d) rfl (ao (ae ?_)))
 unfold Builtin.Dict_items.newIterator
 refine ae (cV ho hd (ae (dz ho hd ?_)))
 have vB:Builtin.Dict_items.ownsTuple "dict_itemiterator" = true:=by decide
 simp only[vB,dZ]
 refine bS (ao ⟨_,rfl,"dict_itemiterator",_,⟨_,aN _ rfl,rfl⟩,cm.lookup,?_⟩)
  (by simp only[sizeOk,Builtin.Dict_items.ownedTupleFields,aJ,ai,bc,dg,dD];omega)
 simpa [rawInt,Builtin.Dict_items.ownedTupleFields]using hQ
theorem zX {Q:Option Value->Shared->Prop}{e:DictEntry}(hit:IsItemIter s.heap it d i es.size ep ok ov)(ho:s.heap.get? d=some o)(hd:o.data = .dict es ep)(hx:es[i]? = some e)
  (hQ:∀ h',IsItemIterOut h' it d (i+1) es.size ep e.key e.val s.heap.objs.size->h'.get? s.heap.objs.size=some {cls:=.type "tuple",data:=.seq #[e.key,e.val]} ->
   (∀ b o,b≠it->s.heap.get? b=some o->h'.get? b=some o)->Q (some (.ref s.heap.objs.size)) {s with heap:=h'}):wpAny (model prog w) A (pyNext (.ref it)) Q E s:=by
 obtain⟨hp,g,dr,tk,os⟩:=s
 have hT:Shared.TypeIs ⟨hp,g,dr,tk,os⟩ (.ref it) "dict_itemiterator" :=⟨_,hit,rfl⟩
 unfold pyNext
 refine ae (wpAny_attempt (dC (name:=Str.ofString "__next__") hT cm
  (bW cm hT F.entry_dict_itemiterator_next ?_ (F.args_dict_itemiterator_next_1 _))))
 refine ae (ao (ae (ae ?_)))
 first |refine ae (cK hT (ao ?_))|refine ae (di hT (ao ?_))
 refine ae (wpAny_fieldsOf hit rfl ?_)
 have vB:Builtin.Dict_items.ownsTuple "dict_itemiterator" = true:=by decide
 simp only[vB,dZ]
 show wpAny _ _ (if(Value.ref d==Value.none)=true then _ else _) _ _ _
 rw[aH (show ¬((Value.ref d==Value.none)=true) from aI)]
 refine ae (ao (ae (cV ho hd ?_)))
 rw[aH (by simp)]
 refine ae (ao (ae (dz ho hd ?_)))
 rw[aH (by simp)]
 refine ao ?_
 obtain⟨hlt,he⟩:=Array.getElem?_eq_some_iff.mp hx
 simp only[show ¬((i:Int)<0) from by omega,cw,dy,d9 hlt]
 rw[he]
 refine ae ?_
 first |refine ae (cK hT (ao ?_))|refine ae (di hT (ao ?_))
 refine ae (wpAny_isOneOf_itemiter hT ?_)
 show wpAny _ _ (setField (.ref it) 3 (rawInt ((i:Int)+1)) >>= _) _ _ ⟨hp,g,dr,tk,os⟩
 refine ae (dB hit (by simp) λh₁ he₁ hs₁=>?_)
 replace hs₁:Heap.SameBut it hp h₁:=hs₁
 replace he₁:IsItemIter h₁ it d (i+1) es.size ep ok ov:=by
  have e:((i+1:Nat):Int)=(i:Int)+1:=by omega
  unfold IsItemIter;rw[e];simpa [rawInt]using he₁
 have hT₁:Shared.TypeIs ⟨h₁,g,dr,tk,os⟩ (.ref it) "dict_itemiterator" :=⟨_,he₁,rfl⟩
 refine ae (cS ?_)
 refine ae (wpAny_isOneOf_itemiter hT₁ (ae (wpAny_isOneOf_itemiter hT₁ ?_)))
 show wpAny _ _ (Builtin.Dict_items.pairFromOwner (.ref it) 6 e.key e.val) _ _ ⟨h₁,g,dr,tk,os⟩
 unfold Builtin.Dict_items.pairFromOwner
 refine ae (wpAny_newTuple ?_)
 have he₂:IsItemIter (h₁.push {cls:=.type "tuple",data:=.seq #[e.key,e.val]}) it d (i+1) es.size ep ok ov:=aB _ he₁
 generalize hh₂:h₁.push {cls:=.type "tuple",data:=.seq #[e.key,e.val]} = h₂ at he₂
 have hz₁:h₁.objs.size=hp.objs.size:=hs₁.1
 have hil:it<hp.objs.size:=aF hit
 have ht₂:h₂.get? hp.objs.size=some {cls:=.type "tuple",data:=.seq #[e.key,e.val]} :=by rw[<-hh₂,<-hz₁];exact aN _ rfl
 have hk₂:∀ b o,b≠it->hp.get? b=some o->h₂.get? b=some o:=λb o hb e=>by rw[<-hh₂];exact aB _ (hs₁.extBut b o hb e)
 show wpAny _ _ (Builtin.Dict_items.ownedTupleIsFree (.ref it) >>= _) _ _ ⟨h₂,g,dr,tk,os⟩
 rw[hz₁]
 clear hh₂ he₁ hs₁ hT₁ hz₁ h₁
 refine ae ?_
 unfold Builtin.Dict_items.ownedTupleIsFree
 refine ae (wpAny_field he₂ rfl (x:=.none) rfl (ao ?_))
 simp only[dZ]
 refine ae (wpAny_field he₂ rfl (x:=ok) rfl (ae (wpAny_field he₂ rfl (x:=ov) rfl ?_)))
 refine ae (dB he₂ (by simp) λh₃ he₃ hs₃=>?_)
 replace hs₃:Heap.SameBut it h₂ h₃:=hs₃
 replace he₃:IsItemIter h₃ it d (i+1) es.size ep e.key ov:=he₃
 refine ae (dB he₃ (by simp) λh₄ he₄ hs₄=>?_)
 replace hs₄:Heap.SameBut it h₃ h₄:=hs₄
 replace he₄:IsItemIter h₄ it d (i+1) es.size ep e.key e.val:=he₄
 refine ae (dB he₄ (by simp) λh₅ he₅ hs₅=>?_)
 replace hs₅:Heap.SameBut it h₄ h₅:=hs₅
 replace he₅:IsItemIterOut h₅ it d (i+1) es.size ep e.key e.val hp.objs.size:=he₅
 refine ae (dB he₅ (by simp) λh₆ he₆ hs₆=>?_)
 replace hs₆:Heap.SameBut it h₅ h₆:=hs₆
 replace he₆:IsItemIterOut h₆ it d (i+1) es.size ep e.key e.val hp.objs.size:=he₆
 refine ae (wpAny_letGo (ao (ao ⟨_,rfl,ao (hQ h₆ he₆ ?_ ?_)⟩)))
 ·exact hs₆.extBut _ _ (cI hil) (hs₅.extBut _ _ (cI hil) (hs₄.extBut _ _ (cI hil) (hs₃.extBut _ _ (cI hil) ht₂)))
 ·exact λb o hb e=>hs₆.extBut b o hb (hs₅.extBut b o hb (hs₄.extBut b o hb (hs₃.extBut b o hb (hk₂ b o hb e))))
theorem AX {Q:Option Value->Shared->Prop}(hh:A.handled=none)(hit:IsItemIter s.heap it d i es.size ep ok ov)(ho:s.heap.get? d=some o)(hd:o.data = .dict es ep)(hx:es.size<=i)
  (hQ:∀ h',Heap.ExtBut it s.heap h'->Q none {s with heap:=h'}):wpAny (model prog w) A (pyNext (.ref it)) Q E s:=by
 have hT:s.TypeIs (.ref it) "dict_itemiterator" :=⟨_,hit,rfl⟩
 unfold pyNext
 refine ae (wpAny_attempt (dC (name:=Str.ofString "__next__") hT cm
  (bW cm hT F.entry_dict_itemiterator_next ?_ (F.args_dict_itemiterator_next_1 _))))
 refine ae (ao (ae (ae ?_)))
 first |refine ae (cK hT (ao ?_))|refine ae (di hT (ao ?_))
 refine ae (wpAny_fieldsOf hit rfl ?_)
 have vB:Builtin.Dict_items.ownsTuple "dict_itemiterator" = true:=by decide
 simp only[vB,dZ]
 show wpAny _ _ (if(Value.ref d==Value.none)=true then _ else _) _ _ s
 rw[aH (show ¬((Value.ref d==Value.none)=true) from aI)]
 refine ae (ao (ae (cV ho hd ?_)))
 rw[aH (by simp)]
 refine ae (ao (ae (dz ho hd ?_)))
 rw[aH (by simp)]
 refine ao ?_
 simp only[show ¬((i:Int)<0) from by omega,cw,dy,Array.getElem?_eq_none hx]
 refine ae ?_
 first |refine ae (cK hT (ao ?_))|refine ae (di hT (ao ?_))
 show wpAny _ _ (setField (.ref it) 2 .none >>= _) _ _ s
 refine ae (wpAny_setField hit rfl (by simp) ?_)
 show wpAny _ _ (newExc (.type "StopIteration") [] >>= _) _ _ _
 refine ae ?_
 simp only[newExc,newTuple]
 refine ae (bS ?_ (by size_fits))
 refine ae (m:=firstArgMember _ _) (wpAny_of_eq (a:=Value.none) (by first |rfl |(simp only[firstArgMember];rfl)) ?_)
 refine bS ?_ (by size_fits)
 simp only[raiseNew]
 refine ae (wpAny_handled ?_)
 rw[show A.in1.handled=none from hh]
 refine ae (ao (wpAny_throw ?_))
 refine ae (dY (T:= "StopIteration") (b:=true) ⟨_,aN _ rfl,rfl⟩ isSubtype_stop ?_)
 exact ao (hQ _ (((Heap.SameBut.update ..).extBut.push _).push _))
end
def Itm (a:Addr)(o:Obj)(kvs:List (List Key×V)):It:=
 ⟨λi H=>H a=some (.frz o (.dT kvs))/\i<kvs.length,λi H x H'=>∃ p b kv,H p=none/\x = .ref p/\kvs[i]? = some kv/\H b=some (.tup (kv.1.map kV))/\H'=upd H p (.tup [.ref b,kv.2]),λi H=>H a=some (.frz o (.dT kvs))/\kvs.length<=i⟩
theorem xQ {P:Program}{w:World}{K:PySem.W.Frag}{els:List Expr}{x1:Nat}{pt:Pos}(a it:Addr)(o:Obj)(kvs:List (List Key×V))(es:Array DictEntry)(ep:Nat)(hd:o.data = .dict es ep)(hl:es.size=kvs.length):
  Turn P w K (.Tuple els x1 pt) (Itm a o kvs) [it] it (λi h=>∃ ok ov,IsItemIter h it a i es.size ep ok ov) where
 mem:=by simp
 obj:=λi h st b hb=>by
  have e:b=it:=by simpa using hb
  subst e
  obtain⟨ok,ov,q⟩:=st
  exact⟨_,q,λv z=>by cases z⟩
 keep:=λi h h' ⟨ok,ov,q⟩ k=>⟨ok,ov,k it (by simp) _ q⟩
 item:=by
  intro X hP hw hK hc i pins s σ H E I hf st hg
  subst hP hw hK
  obtain⟨ok,ov,st⟩:=st
  obtain⟨ha,hi⟩:=hg
  obtain⟨ho,z,hm,xs,r,o',es',ep',e',_,hd',hes,_⟩:=I.hok a _ ha
  rw[ho]at e'
  cases e'
  rw[hd]at hd'
  cases hd'
  have hp:kvs[i]? = some kvs[i]:=by simp[hi]
  obtain⟨q,hq,q1,q2,q3⟩:=oq r hp
  have he:es[i]? = some (entryOfKey (tupleKind (gq X.prog X.w)) q):=by
   rw[<-dH,hes,aq,hq];rfl
  have lt1:it<s.heap.objs.size:=aF st
  refine zX st ho hd he λh' k1 k3 k5=>?_
  refine⟨_,rfl,?_⟩
  refine wpAny_letOwnedTupleGo_items (s:={s with heap:=h'}) k1 λh'' m1 m2=>?_
  have keep:∀ b o,b∉ [it]->s.heap.get? b=some o->h''.get? b=some o:=λb o hb q=>m2.extBut b o (λz=>hb (by simp[z])) (k5 b o (λz=>hb (by simp[z])) q)
  have ht:h''.get? s.heap.objs.size=some {cls:=.type "tuple",data:=.seq [Value.ref q.2.1,q.2.2].toArray} :=m2.extBut _ _ (cI lt1) k3
  have J1:Inv X pins σ (upd H s.heap.objs.size (.tup [.ref q.2.1,(kvs[i]).2])) {s with heap:=h'',toks:=s.toks} :=Inv.pW I hf keep (.cons rfl (.cons q3 .nil)) (by show 2<=sizeLine;decide) ht
  have hn:H s.heap.objs.size=none:=I.fresh
  refine⟨.ref s.heap.objs.size,_,J1,rfl,⟨_,q.2.1,_,hn,rfl,hp,q2,rfl⟩,⟨_,_,m1⟩,λb hb=>?_⟩
  have e:b=it:=by simpa using hb
  subst e
  rw[eL (aR lt1)]
  exact(hf b hb).1
 done:=by
  intro X hP hw hK hc i pins s σ H E I hf st hg
  subst hP hw hK
  obtain⟨ok,ov,st⟩:=st
  obtain⟨ha,hi⟩:=hg
  obtain⟨ho,_⟩:=I.hok a _ ha
  obtain⟨g0,g1,g2,g3,g4,g5⟩:=hf it (by simp)
  exact AX (I.ok.hd hc) st ho hd (by rw[hl];exact hi) λh' eb=>⟨rfl,I.turned (t':=s.toks) (λb u hb e=>eb b u hb e) g0 g1 g3 g4 g5⟩
 self:=λ_ _ _ _ _ ⟨_,_,st⟩ h=>PySem.W.kcp_self st h
section
variable {X:Cx}
def E6 (tl:TE):TI:=λσ H R=>tl σ H λx H1=>∃ a o kvs,x = .ref a/\H1 a=some (.frz o (.dT kvs))/\R (Itm a o kvs) H1
theorem wG {els:List Expr}{x1:Nat}{pt apos lT:Pos}{e:Expr}{tl:TE}(hl:PE X e tl)(xl:attributeBase e "items" X.env (eval e X.env)=eval e X.env:=by rfl)(xi:(apos.endLine==lT.line)=true:=by rfl):
  PI X (.Tuple els x1 pt) (.Call (.Attribute e "items" apos) [] [] lT) (E6 tl):=by
 intro pins s σ H R I h
 refine wpAny_Call_method0_late xl xi (thn (hl pins s σ H _ I h) λu s1 ⟨x,H1,I1,r1,a,o,kvs,ex,ha,q⟩=>?_)
 subst ex
 cases(show u=Value.ref a from r1)
 obtain⟨ho,z,hm,xs,r,o',es,ep,e',hxd,hd,hes,_⟩:=I1.hok a _ ha
 rw[ho]at e'
 cases e'
 have hsz:es.size=kvs.length:=by
  have h1:=bX List.length hes
  rw[cF,aa,<-bT r]at h1
  exact h1
 refine⟨"dict","dict.items",PySem.F.plainAttrs_dict,PySem.F.slot_dict_items,PySem.F.type_dict_items,mi ho hxd,λb eb=>by cases eb;exact⟨o,ho,hxd.2.1⟩,Calls.callWith_builtin rfl (PySem.evalArgs_none (yb hm ho hxd ?_))⟩
 have hv:({s1 with heap:=s1.heap.push {cls:=.type "dict_items",data:=.fields #[.ref a]}} :Shared).heap.IsItemsView s1.heap.objs.size a:=⟨_,aN _ rfl,rfl,rfl⟩
 have k1:∀ b u,s1.heap.get? b=some u->(s1.heap.push {cls:=.type "dict_items",data:=.fields #[.ref a]}).get? b=some u:=λb u e=>aB _ e
 have I2:=I1.kept (t':=s1.toks) k1
 refine zY hv (k1 _ _ ho) hd ?_
 have hz:(s1.heap.push {cls:=.type "dict_items",data:=.fields #[.ref a]}).objs.size=s1.heap.objs.size+1:=Heap.size_push ..
 refine⟨_,[_],_,_,H1,rfl,I2.kept (t':=s1.toks) (λb u e=>aB _ e),xQ a _ o kvs es ep hd hsz,⟨_,_,aN _ rfl⟩,λb hb=>?_,q⟩
 have e:b=(s1.heap.push {cls:=.type "dict_items",data:=.fields #[.ref a]}).objs.size:=by simpa using hb
 subst e
 exact I2.yD (av _) (I2.hok.fresh (av _))
end
theorem vW {c:TT}{tb:TS}{D:Ends}{σ:L2.St}{H:Hp}(Pv:Nat->L2.St->Hp->Prop)(n:Nat)(h0:Pv n σ H)
  (hs:∀ n σ H,Pv n σ H->c σ H λb H1=>if b=true then tb {D with nx:=λσ' H'=>∃ m,m<n/\Pv m σ' H',ct:=λσ' H'=>∃ m,m<n/\Pv m σ' H',bk:=D.nx} σ H1 else D.nx σ H1)
  (mono:∀ σ H Q Q',(∀ b H1,Q b H1->Q' b H1)->c σ H Q->c σ H Q'):rJ c tb D σ H:=by
 refine⟨λm σ H=>Pv m σ H,⟨n,h0⟩,?_⟩
 intro m σ H p
 refine mono σ H _ _ (λb H1 q=>?_) (hs m σ H p)
 cases b with
 |true=>exact⟨_,λσ' H' h=>h,q⟩
 |false=>exact q
structure mP (es:List Ent):Prop where
 back:∀ (j:Nat) t' t k,es[j]? = some (t',some (t,k))->∃ i e,i<j/\es[i]? = some e/\e.1=t
 ok:∀ (j:Nat) t' t k,es[j]? = some (t',some (t,k))->PyData.strOk k.1=true
theorem AM {l:Ln}{ns:List Int}{m:Mv}(hm:m∈mvs l ns):PyData.strOk m.1.1=true:=by
 rcases az.mp hm with z |z
 ·obtain⟨e,_,rfl⟩:=ak.mp z
  show PyData.strOk (Str.ofString "on")=true
  decide +kernel
 ·obtain⟨e,_,rfl⟩:=ak.mp z
  show PyData.strOk (Str.ofString "back")=true
  decide +kernel
theorem mP.add {t:List Int}{es:List Ent}{m:Mv}{i:Nat}{e:Ent}(h:mP es)(hi:es[i]? = some e)(he:e.1=t)(ok:PyData.strOk m.1.1=true):mP (lU t es m):=by
 unfold lU
 split
 ·exact h
 ·have hlt:=(ah.mp hi).1
  refine⟨λj t' u k hj=>?_,λj t' u k hj=>?_⟩
  ·by_cases hjl:j<es.length
   ·rw[aj hjl]at hj
    obtain⟨i2,e2,h1,h2,h3⟩:=h.back j t' u k hj
    exact⟨i2,e2,h1,by rw[aj (by omega)];exact h2,h3⟩
   ·have hj2:j=es.length:=by
     have:=(ah.mp hj).1
     rw[ai,aE]at this
     omega
    rw[hj2,aw (av _),aV]at hj
    cases hj
    exact⟨i,e,by omega,by rw[aj hlt];exact hi,he⟩
  ·by_cases hjl:j<es.length
   ·rw[aj hjl]at hj
    exact h.ok j t' u k hj
   ·have hj2:j=es.length:=by
     have:=(ah.mp hj).1
     rw[ai,aE]at this
     omega
    rw[hj2,aw (av _),aV]at hj
    cases hj
    exact ok
theorem mP.scan {t:List Int}{i:Nat}{e:Ent}(he:e.1=t):∀ {ms:List Mv}{es:List Ent},(∀ m∈ms,PyData.strOk m.1.1=true)->es[i]? = some e->mP es->mP (fR t ms es)
 |[],_,_,_,h=>h
 |m::r,es,ok,hi,h=>by
  refine mP.scan (ms:=r) (i:=i) he (λx hx=>ok x (aA _ hx)) ?_ (h.add hi he (ok m aC))
  obtain⟨u,hu⟩:=tj t es m
  rw[<-hu,aj (ah.mp hi).1]
  exact hi
theorem kI (l:Ln)(ns:List Int):∀ i,mP (eT l ns i)
 | 0=>by
  refine⟨λj t' t k hj=>?_,λj t' t k hj=>?_⟩
  ·match j,hj with
   | 0,hj=>cases hj
  ·match j,hj with
   | 0,hj=>cases hj
 |i+1=>by
  have ih:=kI l ns i
  rw[eT]
  split
  ·rename_i e he
   exact mP.scan rfl (λm hm=>AM hm) he ih
  ·exact ih
inductive lC (es:List Ent):List Int->List (Str×Int)->Prop
 |nil {t:List Int} :(t,none)∈es->lC es t []
 |snoc {t' t:List Int}{k:Str×Int}{r:List (Str×Int)} :(t',some (t,k))∈es->lC es t r->lC es t' (r ++ [k])
open TS
def qi (rows:Rows)(e:Ent):Int:=match e.2 with
 |none=>0
 |some (t,_)=>(gv rows t).getD 0+1
def rV (acc:Rows)(es:List Ent):Rows:=es.foldl (λrows e=>rows ++ [(e.1,qi rows e)]) acc
def fi (es:List Ent):Rows:=rV [] es
theorem ua:∀ (es:List Ent) (acc:Rows),(rV acc es).map (·.1)=acc.map (·.1)++es.map (·.1)
 |[],acc=>by simp[rV]
 |e::es,acc=>by
  have:=ua es (acc ++ [(e.1,qi acc e)])
  show(rV (acc ++ [(e.1,qi acc e)]) es).map (·.1)=_
  rw[this,ax];simp
theorem gG (es:List Ent):(fi es).map (·.1)=es.map (·.1):=by unfold fi;rw[ua];rfl
theorem i4 (es:List Ent):(fi es).length=es.length:=by have:=bX List.length (gG es);rwa [aa,aa]at this
theorem t8:∀ (es:List Ent) (acc:Rows),acc <+:rV acc es
 |[],acc=>bD _
 |e::es,acc=>(cJ acc [(e.1,qi acc e)]).trans (t8 es _)
theorem uc (es more:List Ent):fi (es++more)=rV (fi es) more:=by unfold fi rV;rw[bJ]
theorem kM {es es':List Ent}(h:es <+:es'):fi es <+:fi es':=by
 obtain⟨r,rfl⟩:=h
 rw[uc]
 exact t8 _ _
theorem jR (es:List Ent)(e:Ent):fi (es ++ [e])=fi es ++ [(e.1,qi (fi es) e)]:=by rw[uc];rfl
theorem jS {rows DI:Rows}(h:rows <+:DI){t:List Int}{n:Int}(hl:gv rows t=some n):gv DI t=some n:=by
 obtain⟨r,rfl⟩:=h
 unfold gv at hl ⊢
 rw[List.find?_append]
 cases q:rows.find? λr=>decide (r.1=t)with
 |none=>rw[q]at hl;cases hl
 |some x=>rw[q]at hl;exact hl
theorem pK {rows:Rows}{t:List Int}(h:t∈rows.map (·.1)):∃ n,gv rows t=some n:=by
 cases q:gv rows t with
 |none=>exact absurd h (sD q)
 |some n=>exact⟨n,rfl⟩
theorem uu {rows:Rows}{t:List Int}{n:Int}(h:t∉rows.map (·.1)):gv (rows ++ [(t,n)]) t=some n:=by
 have q:gv rows t=none:=by
  cases q:gv rows t with
  |none=>rfl
  |some x=>exact absurd (ak.mpr ⟨_,iX q,rfl⟩) h
 unfold gv at q ⊢
 rw[Option.map_eq_none_iff]at q
 rw[List.find?_append,q]
 simp
structure Lvl (es:List Ent)(d:Int):Prop where
 mono:(fi es).Pairwise λa b=>a.2<=b.2
 top:∀ r∈fi es,r.2<=d+1
theorem Lvl.add {es:List Ent}{d:Int}{t:List Int}{m:Mv}(h:Lvl es d)(ht:gv (fi es) t=some d):Lvl (lU t es m) d/\∃ n,gv (fi (lU t es m)) m.2=some n/\n<=d+1:=by
 unfold lU
 by_cases hm:m.2∈es.map (·.1)
 ·rw[aL hm]
  obtain⟨n,hn⟩:=pK (rows:=fi es) (by rw[gG];exact hm)
  exact⟨h,n,hn,h.top _ (iX hn)⟩
 ·rw[aH hm]
  have hn:qi (fi es) (m.2,some (t,m.1))=d+1:=by
   show(gv (fi es) t).getD 0+1=d+1
   rw[ht];rfl
  refine⟨⟨?_,λr hr=>?_⟩,d+1,?_,Int.le_refl _⟩
  ·rw[jR,List.pairwise_append]
   refine⟨h.mono,by simp,λa ha b hb=>?_⟩
   rw[bh.mp hb]
   show a.2<=qi (fi es) (m.2,some (t,m.1))
   rw[hn]
   exact h.top a ha
  ·rw[jR]at hr
   rcases az.mp hr with z |z
   ·exact h.top r z
   ·rw[bh.mp z]
    show qi (fi es) (m.2,some (t,m.1))<=d+1
    rw[hn];exact Int.le_refl _
  ·rw[jR]
   show gv (fi es ++ [(m.2,qi (fi es) (m.2,some (t,m.1)))]) m.2=some (d+1)
   rw[hn]
   exact uu (by rw[gG];exact hm)
theorem Lvl.scan {d:Int}{t:List Int} :∀ (ms:List Mv) {es:List Ent},Lvl es d->gv (fi es) t=some d->Lvl (fR t ms es) d/\∀ m∈ms,∃ n,gv (fi (fR t ms es)) m.2=some n/\n<=d+1
 |[],es,h,_=>⟨h,λm hm=>(nomatch hm)⟩
 |m::ms,es,h,ht=>by
  obtain⟨h1,n,hn,hle⟩:=h.add (m:=m) ht
  have hp:=kM (tj t es m)
  obtain⟨h2,h3⟩:=Lvl.scan ms h1 (jS hp ht)
  refine⟨h2,λm' hm'=>?_⟩
  rcases aP.mp hm' with rfl |z
  ·exact⟨n,jS (kM (nZ t ms (lU t es m'))) hn,hle⟩
  ·exact h3 m' z
theorem Er {rows:Rows}(h:rows.Pairwise λa b=>a.2<=b.2){i j:Nat}{a b:List Int×Int}(hij:i<j)(hi:rows[i]? = some a)(hj:rows[j]? = some b):a.2<=b.2:=by
 obtain⟨hj1,rfl⟩:=ah.mp hj
 obtain⟨hi1,rfl⟩:=ah.mp hi
 exact List.pairwise_iff_getElem.mp h i j hi1 hj1 hij
theorem uW {es:List Ent}(nd:(es.map (·.1)).Nodup){j:Nat}{e:Ent}(h:es[j]? = some e):∃ d,(fi es)[j]? = some (e.1,d)/\gv (fi es) e.1=some d:=by
 have hl:=(ah.mp h).1
 have hj:(fi es)[j]? = some ((fi es)[j]'(by rw[i4];exact hl)):=af _
 have e1:((fi es)[j]'(by rw[i4];exact hl)).1=e.1:=by
  have a:=bX (·[j]?) (gG es)
  rw[aq,aq,hj,h]at a
  exact aW a
 generalize (fi es)[j]'(by rw[i4];exact hl)=r at hj e1
 obtain⟨t,d⟩:=r
 have e1:t=e.1:=e1
 subst e1
 exact⟨d,hj,jT (r:=(e.1,d)) (by rw[gG];exact nd) (ay hj)⟩
structure Ou (l:Ln)(es:List Ent)(i:Nat):Prop where
 mono:(fi es).Pairwise λa b=>a.2<=b.2
 here:∀ e d,es[i]? = some e->gv (fi es) e.1=some d->∀ r∈fi es,r.2<=d+1
 done:∀ j e d,j<i->es[j]? = some e->gv (fi es) e.1=some d->∀ m∈mvs l e.1,∃ n,gv (fi es) m.2=some n/\n<=d+1
theorem FC {l:Ln}{ns:List Int}(ok:fb l)(T:fT l ns)(hne:ns≠ []):∀ i,Ou l (eT l ns i) i
 | 0=>by
  have e0:fi (eT l ns 0) = [(ns,0)]:=rfl
  refine⟨by rw[e0];simp,λe d he hd r hr=>?_,λj e d hj=>absurd hj (df j)⟩
  rw[e0]at hd hr
  have:=iX hd
  have h1:=bh.mp hr
  have h2:=bh.mp this
  rw[h1]
  have h3:d=0:=by injection h2
  show(0:Int)<=d+1
  omega
 |i+1=>by
  have ih:=FC ok T hne i
  have E:=iu ok T hne i
  have E1:=iu ok T hne (i+1)
  cases q:(eT l ns i)[i]? with
  |none=>
   have e1:eT l ns (i+1)=eT l ns i:=by rw[eT,q]
   have hl:(eT l ns i).length<=i:=by
    by_cases z:i<(eT l ns i).length
    ·rw[af z]at q;cases q
    ·omega
   rw[e1]
   refine⟨ih.mono,λe d he=>?_,λj e d hj he=>?_⟩
   ·rw[bH (by omega)]at he;cases he
   ·have:=(ah.mp he).1
    exact ih.done j e d (by omega) he
  |some e=>
   obtain⟨d,hd1,hd2⟩:=uW E.nd q
   have L0:Lvl (eT l ns i) d:=⟨ih.mono,ih.here e d q hd2⟩
   have e1:=lY q
   have pre:=nX l ns i
   obtain⟨L1,M1⟩:=Lvl.scan (mvs l e.1) L0 hd2
   rw[<-e1]at L1 M1
   have rp:=kM pre
   have Lz:(fi (eT l ns (i+1)))[i]? = some (e.1,d):=by
    obtain⟨z,hz⟩:=rp
    rw[<-hz,aj (ah.mp hd1).1]
    exact hd1
   refine⟨L1.mono,λe' d' he' hd' r hr=>?_,λj e' d' hj he' hd' m hm=>?_⟩
   ·obtain⟨d2,h1,h2⟩:=uW E1.nd he'
    rw[hd']at h2
    cases h2
    have a:=Er L1.mono (Nat.lt_succ_self i) Lz h1
    have b:=L1.top r hr
    have a:d<=d':=a
    omega
   ·by_cases hji:j<i
    ·have hlen:j<(eT l ns i).length:=by have:=(ah.mp q).1;omega
     have he0:(eT l ns i)[j]? = some e':=by
      obtain⟨z,hz⟩:=pre
      rw[<-hz,aj hlen]at he'
      exact he'
     obtain⟨d3,_,h3⟩:=uW E.nd he0
     have:=jS rp h3
     rw[hd']at this
     cases this
     obtain⟨n,hn,hle⟩:=ih.done j e' d' hji he0 h3 m hm
     exact⟨n,jS rp hn,hle⟩
    ·have ej:j=i:=by omega
     subst ej
     have he0:(eT l ns (j+1))[j]? = some e:=by
      obtain⟨z,hz⟩:=pre
      rw[<-hz,aj (ah.mp q).1]
      exact q
     rw[he0]at he'
     cases he'
     have:=jS rp hd2
     rw[hd']at this
     cases this
     exact M1 m hm
theorem rB {l:Ln}{ns:List Int}(ok:fb l)(T:fT l ns)(hne:ns≠ []){i:Nat}(hi:(eT l ns i).length=i):Hj l ns (fi (eT l ns i)):=by
 have W:=FC ok T hne i
 have E:=iu ok T hne i
 refine⟨⟨by rw[gG];exact E.nd,λs hs=>?_⟩,?_,λr hr m hm=>?_⟩
 ·rw[gG]at hs
  obtain⟨e,he,rfl⟩:=ak.mp hs
  obtain⟨a,b,c⟩:=E.tr e he
  exact⟨b,c,a⟩
 ·have h0:eT l ns 0 <+:eT l ns i:=by have:=rC l ns 0 i;rwa [Nat.zero_add]at this
  exact jS (kM h0) (show gv [(ns,0)] ns=some 0 from uu (rows:=[]) (by simp))
 ·obtain⟨j,hj,e⟩:=aU.mp hr
  have hjl:j<(eT l ns i).length:=by rw[<-i4];exact hj
  obtain⟨d,h1,h2⟩:=uW E.nd (af hjl)
  rw[af hj,e]at h1
  cases h1
  exact W.done j _ d (by omega) (af hjl) h2 m hm
theorem kd {l:Ln}{ns:List Int}(ok:fb l)(T:fT l ns)(hne:ns≠ []){i:Nat}(hi:(eT l ns i).length=i):DH l ns ((eT l ns i).map (·.1)):=by
 have:=(B9.mp (rB ok T hne hi)).1
 rwa [gG]at this
theorem y4 {es:List Ent}{n:Nat}{e:Ent}(h:es[n]? = some e):(fi es)[n]? = some (e.1,qi (fi (es.take n)) e):=by
 have hl:=(ah.mp h).1
 have e1:es.take (n+1)=es.take n ++ [e]:=by rw[aZ,h];rfl
 have hp:=kM (List.take_prefix (n+1) es)
 rw[e1,jR]at hp
 obtain⟨z,hz⟩:=hp
 have ln:(fi (es.take n)).length=n:=by rw[i4,bj];omega
 rw[<-hz,bY,aw (by omega),ln,aV]
 rfl
theorem wL {es:List Ent}(nd:(es.map (·.1)).Nodup)(bk:mP es):∀ {t:List Int}{run:List (Str×Int)},lC es t run->gv (fi es) t=some (run.length:Int):=by
 intro t run h
 induction h with
 |@nil t hm=>
  obtain⟨j,hj,e⟩:=aU.mp hm
  have q:es[j]? = some (t,none):=by rw[af hj,e]
  have:=y4 q
  exact jT (r:=(t,0)) (by rw[gG];exact nd) (ay this)
 |@snoc t' t k r hm _ ih=>
  obtain⟨j,hj,e⟩:=aU.mp hm
  have q:es[j]? = some (t',some (t,k)):=by rw[af hj,e]
  have h1:=y4 q
  obtain⟨i,e1,hi,he1,ee⟩:=bk.back j t' t k q
  have hin:t∈(fi (es.take j)).map (·.1):=by
   rw[gG]
   refine ak.mpr ⟨e1,?_,ee⟩
   exact ay (by rw[List.getElem?_take,aL hi];exact he1)
  obtain⟨x,hx⟩:=pK hin
  have hx2:=jS (kM (List.take_prefix j es)) hx
  rw[ih]at hx2
  have e3:qi (fi (es.take j)) (t',some (t,k))=((r ++ [k]).length:Int):=by
   show(gv (fi (es.take j)) t).getD 0+1=_
   rw[hx,<-aW hx2,ai]
   show(r.length:Int)+1=((r.length+1:Nat):Int)
   omega
  rw[e3]at h1
  exact jT (r:=(t',_)) (by rw[gG];exact nd) (ay h1)
end TL
namespace TL
open PySem PySem.Spec PyProof.Rows L2
theorem Dk {J:It}{g:TG}{tb:TS}{D:Ends}{σ:L2.St}{H:Hp}(n:Nat)(Pv:Nat->L2.St->Hp->Prop)(h0:Pv 0 σ H)(go:∀ i σ H,i<n->Pv i σ H->J.go i H)(st:∀ σ H,Pv n σ H->J.stop n H)
  (hs:∀ i x σ H H',i<n->Pv i σ H->J.yld i H x H'->g x σ H' λσ2 H2=>tb {D with nx:=Pv (i+1),ct:=Pv (i+1),bk:=D.nx} σ2 H2) (hd:∀ σ H,Pv n σ H->D.nx σ H):
  ∃ W:Nat->Nat->L2.St->Hp->Prop,(∃ m,W 0 m σ H)/\∀ i m σ H,W i m σ H->
   (J.stop i H/\D.nx σ H)\/(J.go i H/\∃ N:L2.St->Hp->Prop,(∀ σ' H',N σ' H'->∃ m',m'<m/\W (i+1) m' σ' H')/\∀ x H',J.yld i H x H'->g x σ H' λσ2 H2=>tb {D with nx:=N,ct:=N,bk:=D.nx} σ2 H2):=by
 refine⟨λi m σ H=>m=n-i/\i<=n/\Pv i σ H,⟨n,by simp,aO _,h0⟩,?_⟩
 rintro i m σ H ⟨rfl,hi,p⟩
 by_cases hlt:i<n
 ·exact .inr ⟨go i σ H hlt p,Pv (i+1),λσ' H' p'=>⟨n-(i+1),by omega,rfl,hlt,p'⟩,λx H' y=>hs i x σ H H' hlt p y⟩
 ·have e:i=n:=by omega
  subst e
  exact .inl ⟨st σ H p,hd σ H p⟩
theorem Dgs.rev {L T:Addr->List V->Prop} :∀ {ds:List PyData}{vs:List V},Dgs L T ds vs->Dgs L T ds.reverse vs.reverse
 |[],_,h=>by rw[fQ.mp h];exact fQ.mpr rfl
 |d::ds,_,h=>by
  obtain⟨v,r,rfl,h1,h2⟩:=fy.mp h
  rw[cQ,cQ]
  exact Dgs.append (Dgs.rev h2) (Dgs.one h1)
theorem Cp {κ:Type} [DecidableEq κ] {kvs:List (κ×V)}{j:Nat}{k:κ}{v:V}(nd:(kvs.map (·.1)).Nodup)(h:kvs[j]? = some (k,v)):ky kvs k=some v:=by
 unfold ky
 obtain⟨hj,e⟩:=ah.mp h
 have:kvs.find? (λkv=>decide (kv.1=k))=some (k,v):=by
  rw[List.find?_eq_some_iff_getElem]
  refine⟨by simp,j,hj,e,λi hi=>?_⟩
  have h1:(kvs[i]'(by omega)).1≠k:=λz=>by
   have h2:(kvs.map (·.1))[i]'(by rw[aa];omega)=(kvs.map (·.1))[j]'(by rw[aa];omega):=by
    rw[cT,cT,z,e]
   have:=(cU nd).mp h2
   omega
  simpa using h1
 rw[this];rfl
open TS
theorem jM {n:Nat}(h:n<=10000000):n<sizeLine:=cx h (by decide)
theorem v8 {K:PySem.W.Frag}{H:Hp}{t b:Addr}{kvs:List (List Key×V)}{xs:List V}{o:HO}(ht:H t=some (.dT kvs))(h:SqT K H b xs):SqT K (upd H t o) b xs:=by
 rcases h with(h |⟨o,h⟩)|h
 ·exact .inl (.inl (by rw[eL (fz h ht (by intro z;cases z))];exact h))
 ·exact .inl (.inr ⟨o,by rw[eL (fz h ht (by intro z;cases z))];exact h⟩)
 ·exact .inr h
def lz (K:PySem.W.Frag)(H:Hp)(e:Ent)(v:V):Prop:=match e.2 with
 |none=>v = .non
 |some (t,k)=>∃ a b c,v = .ref a/\H a=some (.tup [.ref b,.ref c])/\H b=some (.tup (t.map V.int))/\SqT K H c [.str k.1,.int k.2]
theorem lz.same {K:PySem.W.Frag}{H H':Hp}{e:Ent}{v:V}(h:lz K H e v)(s:eQ H H'):lz K H' e v:=by
 unfold lz at h ⊢
 split at h
 ·exact h
 ·obtain⟨a,b,c,h1,h2,h3,h4⟩:=h
  exact⟨a,b,c,h1,s _ _ h2,s _ _ h3,fv s h4⟩
theorem lz.Hr {K:PySem.W.Frag}{H:Hp}{e:Ent}{v:V}{p:Addr}{vs:List V}{o:HO}(h:lz K H e v)(hp:H p=some (.lst vs)):lz K (upd H p o) e v:=by
 unfold lz at h ⊢
 split at h
 ·exact h
 ·obtain⟨a,b,c,h1,h2,h3,h4⟩:=h
  exact⟨a,b,c,h1,by rw[eL (fz h2 hp (by intro z;cases z))];exact h2,by rw[eL (fz h3 hp (by intro z;cases z))];exact h3,kz hp h4⟩
theorem lz.FE {K:PySem.W.Frag}{H:Hp}{e:Ent}{v:V}{p:Addr}{kvs:List (List Key×V)}{o:HO}(h:lz K H e v)(hp:H p=some (.dT kvs)):lz K (upd H p o) e v:=by
 unfold lz at h ⊢
 split at h
 ·exact h
 ·obtain⟨a,b,c,h1,h2,h3,h4⟩:=h
  exact⟨a,b,c,h1,by rw[eL (fz h2 hp (by intro z;cases z))];exact h2,by rw[eL (fz h3 hp (by intro z;cases z))];exact h3,v8 hp h4⟩
structure lA (K:PySem.W.Frag)(H:Hp)(d:Addr)(es:List Ent)(vs:List V):Prop where
 at_:H d=some (.dT ((es.zip vs).map λp=>(kyI p.1.1,p.2)))
 len:vs.length=es.length
 each:∀ (i:Nat) e v,es[i]? = some e->vs[i]? = some v->lz K H e v
theorem lA.same {K:PySem.W.Frag}{H H':Hp}{d:Addr}{es:List Ent}{vs:List V}(h:lA K H d es vs)(s:eQ H H'):lA K H' d es vs:=
 ⟨s _ _ h.at_,h.len,λi e v h1 h2=>(h.each i e v h1 h2).same s⟩
theorem sF {es:List Ent}{vs:List V}(hl:vs.length=es.length):((es.zip vs).map λp=>(kyI p.1.1,p.2)).map (·.1)=es.map λe=>kyI e.1:=by
 rw[bx]
 refine List.ext_getElem? λi=>?_
 rw[aq,aq]
 by_cases hi:i<es.length
 ·rw[af (by rw[cf];omega),af hi,List.getElem_zip];rfl
 ·rw[bH (by rw[cf];omega),bH (by omega)];rfl
theorem zL {κ:Type} [DecidableEq κ] {kvs:List (κ×V)}{k:κ} :(ky kvs k).isSome=decide (k∈kvs.map (·.1)):=by
 rw[<-pe,bR,dN,b6,ak]
 constructor
 ·rintro⟨p,h1,h2⟩;exact⟨p,h1,by simpa using h2⟩
 ·rintro⟨p,h1,h2⟩;exact⟨p,h1,by simpa using h2⟩
theorem lA.mem {K:PySem.W.Frag}{H:Hp}{d:Addr}{es:List Ent}{vs:List V}(h:lA K H d es vs)(t:List Int):(ky ((es.zip vs).map λp=>(kyI p.1.1,p.2)) (kyI t)).isSome=decide (t∈es.map (·.1)):=by
 rw[zL,sF h.len]
 congr 1
 refine propext ⟨λz=>?_,λz=>?_⟩
 ·obtain⟨e,h1,h2⟩:=ak.mp z
  exact ak.mpr ⟨e,h1,qZ h2⟩
 ·obtain⟨e,h1,h2⟩:=ak.mp z
  exact ak.mpr ⟨e,h1,by rw[h2]⟩
structure Ord (H:Hp)(p:Addr)(as:List Addr)(es:List Ent):Prop where
 at_:H p=some (.lst (as.map V.ref))
 len:as.length=es.length
 each:∀ (i:Nat) b e,as[i]? = some b->es[i]? = some e->H b=some (.tup (e.1.map V.int))
theorem Ord.same {H H':Hp}{p:Addr}{as:List Addr}{es:List Ent}(h:Ord H p as es)(s:eQ H H'):Ord H' p as es:=
 ⟨s _ _ h.at_,h.len,λi b e h1 h2=>s _ _ (h.each i b e h1 h2)⟩
theorem zZ {K:PySem.W.Frag}{H:Hp}{d p st tp ta tm:Addr}{es:List Ent}{vs:List V}{as:List Addr}{t t':List Int}{k:Str×Int}(hs:lA K H d es vs)(ho:Ord H p as es)(hst:H st=some (.tup (t'.map V.int)))
  (htp:H tp=some (.tup [.ref ta,.ref tm])) (hta:H ta=some (.tup (t.map V.int))) (htm:SqT K H tm [.str k.1,.int k.2]) (hn:t'∉es.map (·.1)):
  lA K (upd (upd H d (.dT (putK ((es.zip vs).map λp=>(kyI p.1.1,p.2)) (kyI t') (.ref tp)))) p (.lst (as.map V.ref ++ [V.ref st]))) d (es ++ [(t',some (t,k))]) (vs ++ [.ref tp])/\
  Ord (upd (upd H d (.dT (putK ((es.zip vs).map λp=>(kyI p.1.1,p.2)) (kyI t') (.ref tp)))) p (.lst (as.map V.ref ++ [V.ref st]))) p (as ++ [st]) (es ++ [(t',some (t,k))]):=by
 have hd:=hs.at_
 have hp:=ho.at_
 have dp:d≠p:=fz hd hp (by intro z;cases z)
 have hv:ky ((es.zip vs).map λp=>(kyI p.1.1,p.2)) (kyI t')=none:=by
  have:=hs.mem t'
  rw[bq hn]at this
  exact Option.isNone_iff_eq_none.mp (by rw[<-Option.not_isSome,this];rfl)
 have e1:putK ((es.zip vs).map λp=>(kyI p.1.1,p.2)) (kyI t') (.ref tp)=((es ++ [(t',some (t,k))]).zip (vs ++ [V.ref tp])).map λp=>(kyI p.1.1,p.2):=by
  rw[rY _ hv,List.zip_append hs.len.symm,ax];rfl
 have hp1:upd H d (.dT (putK ((es.zip vs).map λp=>(kyI p.1.1,p.2)) (kyI t') (.ref tp))) p=some (.lst (as.map V.ref)):=by rw[eL (bB dp)];exact hp
 have ht:∀ b xs,H b=some (.tup xs)->upd (upd H d (.dT (putK ((es.zip vs).map λp=>(kyI p.1.1,p.2)) (kyI t') (.ref tp)))) p (.lst (as.map V.ref ++ [V.ref st])) b=some (.tup xs):=λb xs q=>by
  rw[eL (fz q hp (by intro z;cases z)),eL (fz q hd (by intro z;cases z))];exact q
 refine⟨⟨by rw[eL dp,eG,e1],by rw[ai,ai,hs.len];rfl,λi e v he hv=>?_⟩,⟨by rw[eG,ax];rfl,by rw[ai,ai,ho.len];rfl,λi b e hb he=>?_⟩⟩
 ·by_cases hi:i<es.length
  ·rw[aj hi]at he
   rw[aj (by rw[hs.len];exact hi)]at hv
   exact((hs.each i e v he hv).FE hd).Hr hp1
  ·have hi2:i=es.length:=by
    have:=(ah.mp he).1
    rw[ai,aE]at this
    omega
   rw[hi2,aw (av _),aV]at he
   rw[hi2,<-hs.len,aw (av _),aV]at hv
   cases he
   cases hv
   exact⟨tp,ta,tm,rfl,ht _ _ htp,ht _ _ hta,kz hp1 (v8 hd htm)⟩
 ·by_cases hi:i<es.length
  ·rw[aj hi]at he
   rw[aj (by rw[ho.len];exact hi)]at hb
   exact ht _ _ (ho.each i b e hb he)
  ·have hi2:i=es.length:=by
    have:=(ah.mp he).1
    rw[ai,aE]at this
    omega
   rw[hi2,aw (av _),aV]at he
   rw[hi2,<-ho.len,aw (av _),aV]at hb
   cases he
   cases hb
   exact ht _ _ hst
theorem BJ {K:PySem.W.Frag}{p a:Addr}{H:Hp}{kvs:List (List Key×V)}{xs:List V}(hp:H p=some (.dT kvs))(h:SqT K H a xs):SqT K (hid p H) a xs:=by
 rcases h with(h |⟨o,h⟩)|h
 ·exact .inl (.inl (by rw[fV (fz h hp (by intro z;cases z))];exact h))
 ·exact .inl (.inr ⟨o,by rw[fV (fz h hp (by intro z;cases z))];exact h⟩)
 ·exact .inr h
abbrev xj (d p:Addr)(H:Hp):Hp:=hid p (hid d H)
theorem sL {K:PySem.W.Frag}{d p a:Addr}{H:Hp}{kvs:List (List Key×V)}{vs xs:List V}(hd:H d=some (.dT kvs))(hp:H p=some (.lst vs))(h:SqT K H a xs):SqT K (xj d p H) a xs:=by
 have dp:p≠d:=fz hp hd (by intro z;cases z)
 exact pN (vs:=vs) (by rw[fV dp];exact hp) (BJ hd h)
theorem lM {d p a:Addr}{H:Hp}(h1:a≠d)(h2:a≠p):xj d p H a=H a:=by show hid p (hid d H) a=H a;rw[fV h2,fV h1]
theorem sJ {d p:Addr}{H H':Hp}{o o':HO}(s:eQ (xj d p H) H'):eQ (xj d p H) (upd (upd H' d o) p o'):=λb u h=>by
 by_cases e1:b=p
 ·subst e1;have h:hid b (hid d H) b=some u:=h;rw[jI]at h;cases h
 ·have h':hid p (hid d H) b=some u:=h
  rw[fV e1]at h'
  by_cases e2:b=d
  ·subst e2;rw[jI]at h';cases h'
  ·rw[eL e1,eL e2];exact s _ _ h
structure lG (H H':Hp)(p:Addr)(bs:List Addr)(ts:List (List Int)):Prop where
 same:eQ H H'
 new:H p=none
 at_:H' p=some (.lst (bs.map V.ref))
 len:bs.length=ts.length
 each:∀ (i:Nat) b t,bs[i]? = some b->ts[i]? = some t->H b=none/\b≠p/\H' b=some (.lst (t.map V.int))
 nd:bs.Nodup
theorem lG.pre {H0 H H':Hp}{p:Addr}{bs:List Addr}{ts:List (List Int)}(s:eQ H0 H)(h:lG H H' p bs ts):lG H0 H' p bs ts:=
 ⟨s.trans h.same,eQ.free s h.new,h.at_,h.len,λi b t h1 h2=>⟨eQ.free s (h.each i b t h1 h2).1,(h.each i b t h1 h2).2⟩,h.nd⟩
structure qu (H:Hp)(p:Addr)(as:List Addr)(es:List Ent):Prop where
 at_:H p=some (.lst (as.map V.ref))
 len:as.length=es.length
 each:∀ (i:Nat) b e,as[i]? = some b->es[i]? = some e->b≠p/\H b=some (.lst (e.1.map V.int))
theorem qu.same {H H':Hp}{p:Addr}{as:List Addr}{es:List Ent}(h:qu H p as es)(s:eQ H H'):qu H' p as es:=
 ⟨s _ _ h.at_,h.len,λi b e h1 h2=>⟨(h.each i b e h1 h2).1,s _ _ (h.each i b e h1 h2).2⟩⟩
theorem qu.get {H:Hp}{p:Addr}{as:List Addr}{es:List Ent}(h:qu H p as es){i:Nat}{e:Ent}(he:es[i]? = some e):∃ b,as[i]? = some b/\b≠p/\H b=some (.lst (e.1.map V.int)):=by
 have hi:i<as.length:=by rw[h.len];exact(ah.mp he).1
 exact⟨as[i],af hi,h.each i _ e (af hi) he⟩
theorem qu.da {K:PySem.W.Frag}{H:Hp}{p:Addr}{as:List Addr}{es:List Ent}(h:qu H p as es):Da K H (dLI (es.map (·.1))) (.ref p):=
 gR.mpr ⟨p,_,rfl,SqL.of h.at_,uX (by rw[aa];exact h.len) λi b t h1 h2=>by
  rw[aq]at h2
  cases q:es[i]? with
  |none=>rw[q]at h2;cases h2
  |some e=>rw[q]at h2;cases h2;exact(h.each i b e h1 q).2⟩
theorem AF {l:Ln}{ns:List Int}{i:Nat}(hi:(eT l ns i).length=i)(j:Nat):(eT l ns j).length<=i:=by
 rcases Nat.le_total i j with z |z
 ·obtain⟨k,rfl⟩:=Nat.exists_eq_add_of_le z
  rw[tN (by omega) k];omega
 ·obtain⟨k,hk⟩:=Nat.exists_eq_add_of_le z
  have:=(rC l ns j k).length_le
  rw[<-hk]at this
  omega
theorem xS {l:Ln}{x:Int}(h:0<=x/\x<2*l.1):fT l [x]:=⟨λe he=>by have z:e=x:=(by simpa using he);rw[z];exact h,by simp,λi a b _ hb=>by simp at hb⟩
theorem CP {l:Ln}{x:Int}(ok:fb l)(h:0<=x/\x<2*l.1)(i:Nat):(eT l [x] i).length<=300:=by
 have:=(iu ok (xS h) (by simp) i).KP rfl
 have:=ok.most
 omega
theorem D9 {α β:Type}{xs:List α}{ys:List β}{i:Nat}{x:α}{y:β}(h1:xs[i]? = some x)(h2:ys[i]? = some y):(xs.zip ys)[i]? = some (x,y):=cX.mpr ⟨h1,h2⟩
theorem C6 {es:List Ent}(nd:(es.map (·.1)).Nodup):(es.map λe=>kyI e.1).Nodup:=by
 have:(es.map λe=>kyI e.1)=(es.map (·.1)).map kyI:=by rw[bx];rfl
 rw[this]
 unfold List.Nodup at nd ⊢
 rw[ef]
 exact nd.imp λh z=>h (qZ z)
theorem lA.get {K:PySem.W.Frag}{H:Hp}{d:Addr}{es:List Ent}{us:List V}(h:lA K H d es us)(nd:(es.map (·.1)).Nodup){j:Nat}{e:Ent}{v:V}(he:es[j]? = some e)(hv:us[j]? = some v):ky ((es.zip us).map λp=>(kyI p.1.1,p.2)) (kyI e.1)=some v:=by
 refine Cp (j:=j) ?_ ?_
 ·rw[sF h.len];exact C6 nd
 ·rw[aq,D9 he hv];rfl
theorem AG {H:Hp}{a b:Addr}{o o':HO}(h:a≠b):upd (upd H a o) b o'=upd (upd H b o') a o:=by
 funext c
 by_cases e1:c=a
 ·subst e1;rw[eL h,eG,eG]
 ·by_cases e2:c=b
  ·subst e2;rw[eG,eL e1,eG]
  ·rw[eL e2,eL e1,eL e1,eL e2]
theorem DE {σ:L2.St}{H:Hp}{te:TE}{P1:VK}{P0:Hp->Prop}(h:te σ H P1):Cu σ H (λb H3=>if b=true then te σ H3 P1 else P0 H3):=yr (A:=te σ H P1) (B:=P0 H) h
def lB (H0 H:Hp)(r:List Int×Int)(v:V):Prop:=∃ ad a,v = .ref ad/\H ad=some (.tup [.ref a,.int r.2])/\H a=some (.lst (r.1.map V.int))/\H0 a=none
theorem lB.mono {H0 H H':Hp}(r:List Int×Int)(v:V)(s:eQ H H')(h:lB H0 H r v):lB H0 H' r v:=h.imp λ_ h=>h.imp λ_ h=>⟨h.1,s _ _ h.2.1,s _ _ h.2.2.1,h.2.2.2⟩
theorem lB.pre {H00 H0 H:Hp}(s:eQ H00 H0)(r:List Int×Int)(v:V)(h:lB H0 H r v):lB H00 H r v:=h.imp λ_ h=>h.imp λ_ h=>⟨h.1,h.2.1,h.2.2.1,eQ.free s h.2.2.2⟩
theorem lB.Hs {H0 H:Hp}{n:Addr}{o:Obj}{x:HO}{y:HO}(r:List Int×Int)(v:V)(hn:H n=some (.frz o x))(h:lB H0 H r v):lB H0 (upd H n y) r v:=by
 obtain⟨ad,a,e,h1,h2,h3⟩:=h
 exact⟨ad,a,e,by rw[eL (fz h1 hn (by intro z;cases z))];exact h1,by rw[eL (fz h2 hn (by intro z;cases z))];exact h2,h3⟩
structure qK (H0 H:Hp)(q:Addr)(rows:Rows)(vs:List V):Prop where
 at_:H q=some (.lst vs)
 new:H0 q=none
 pw:Pw (lB H0 (hid q H)) rows vs
theorem qK.same {H0 H H':Hp}{q:Addr}{rows:Rows}{vs:List V}(h:qK H0 H q rows vs)(s:eQ H H'):qK H0 H' q rows vs:=⟨s _ _ h.at_,h.new,h.pw.imp λr v=>lB.mono r v (nH s)⟩
theorem qK.pre {H00 H0 H:Hp}{q:Addr}{rows:Rows}{vs:List V}(h:qK H0 H q rows vs)(s:eQ H00 H0):qK H00 H q rows vs:=⟨h.at_,eQ.free s h.new,h.pw.imp (lB.pre s)⟩
end TL
namespace TL
open PySem PySem.Spec PyProof.Rows L2
section
variable {prog:Program}{w:World}{K:Type} [DecidableEq K] (knd:PySem.KeyKind prog w K)
def gJ (h:Heap)(x:List K×K)(a:Addr):Prop:=∃ o n b v,h.get? a=some o/\o.cls = .type "tuple" /\o.data = .seq #[.ref b,v] n/\IsTupleKey knd h x.1 b/\knd.is x.2 v=true
variable {knd}
theorem gJ.typeIs {s:Shared}{x:List K×K}{a:Addr}(h:gJ knd s.heap x a):s.TypeIs (.ref a) "tuple" :=let ⟨o,_,_,_,ho,hc,_⟩:=h;⟨o,ho,hc⟩
theorem gJ.inj {h:Heap}{a:Addr}{x y:List K×K}(hx:gJ knd h x a)(hy:gJ knd h y a):x=y:=by
 obtain⟨o,n,b,v,h1,_,h3,h4,h5⟩:=hx
 obtain⟨o',n',b',v',g1,_,g3,g4,g5⟩:=hy
 obtain rfl:o=o':=aW (h1.symm.trans g1)
 rw[h3]at g3
 injection g3 with e _
 have e1:Value.ref b=Value.ref b'/\v=v':=by simpa using e
 obtain⟨e1,rfl⟩:=e1
 injection e1 with e1
 subst e1
 exact cZ (h4.inj g4) (knd.inj _ _ _ h5 g5)
theorem gJ.keeps {h h':Heap}{x:List K×K}{a d:Addr}{o:Obj}{es ep}(k:gJ knd h x a)(ho:h.get? d=some o)(hd:o.data = .dict es ep)(hs:Heap.SameBut d h h'):gJ knd h' x a:=by
 obtain⟨o',n,b,v,h1,h2,h3,h4,h5⟩:=k
 have hne:a≠d:=by
  rintro rfl
  obtain rfl:o'=o:=aW (h1.symm.trans ho)
  rw[hd]at h3;exact nomatch h3
 exact⟨o',n,b,v,(hs.2 a hne).trans h1,h2,h3,h4.keeps ho hd hs,h5⟩
def si (knd:PySem.KeyKind prog w K)(x:List K×K):Int:=reduceHash (Builtin.Tuple.tupleHashOf [tupleKeyHash knd x.1,knd.hash x.2])
variable {A:Around}{E:Value->Shared->Prop}{s:Shared}
theorem in1_units (A:Around):A.in1.units<=A.units+1:=by first |exact av _ |(simp[Around.in1];done)|omega
theorem o8 {x:List K×K}{a:Addr}{Q:Int->Shared->Prop}(hu:A.units+1<cLine)(hk:gJ knd s.heap x a)(h:Q (si knd x) {s with toks:=s.toks+(x.1.length+3)}):
  wpAny (model prog w) A (pyHash (.ref a)) Q E s:=by
 have hT:=hk.typeIs
 obtain⟨o,n,b,v,ho,_,hd,hb,hv⟩:=hk
 unfold pyHash
 first |unfold pyHashByItsType |skip
 first |refine ae (wpAny_cRoomFor_or (.inr (by omega)) ?_)|skip
 refine ae (d6 hT F.slot_tuple_hash.lookup ?_)
 show wpAny _ _ (if(some (Value.builtin "tuple.__hash__")==some Value.none)=true then _ else _) Q E s
 rw[aH (by rw[beq_builtin_none];exact aI)]
 refine ae (d6 hT F.slot_tuple_hash.lookup ?_)
 show wpAny _ _ (callSpecialIfBoundUnlessNone? (.ref a) "__hash__" _ >>= _) Q E s
 refine ae (wpAny_callSpecialIfBoundUnlessNone?_slot hT F.slot_tuple_hash (bW F.slot_tuple_hash hT F.entry_tuple_hash ?_ (F.args_tuple_hash_1 _)))
 show wpAny _ _ (Builtin.Tuple.tupleItemsOf (.ref a) >>= _) _ _ s
 refine ae (wpAny_tupleItemsOf ho hd ?_)
 refine ae ?_
 rw[<-Array.forIn_toList]
 show wpAny _ _ (forIn [Value.ref b,v] _ _) _ _ s
 rw[cz]
 refine ae ?_
 refine ae (wpAny_pyHash_tuple (cx (in1_units A) hu) hb ?_)
 refine ao ?_
 show wpAny _ _ (forIn [v] _ _) _ _ _
 rw[cz]
 refine ae ?_
 refine ae (knd.pyHash hv ?_)
 refine ao ?_
 show wpAny _ _ (forIn [] _ _) _ _ _
 rw[List.forIn_nil]
 refine ao ?_
 show wpAny _ _ (retInt (Builtin.Tuple.tupleHashOf [tupleKeyHash knd x.1,knd.hash x.2])) _ _ _
 refine wpAny_ret_mkInt ?_
 show wpAny _ _ (if(decide (-(2:Int) ^ 63<=Builtin.Tuple.tupleHashOf [tupleKeyHash knd x.1,knd.hash x.2])&&decide (Builtin.Tuple.tupleHashOf [tupleKeyHash knd x.1,knd.hash x.2]<2 ^ 63))=true then _ else _) Q E _
 unfold si reduceHash at h
 by_cases hr:(decide (-(2:Int) ^ 63<=Builtin.Tuple.tupleHashOf [tupleKeyHash knd x.1,knd.hash x.2])&&decide (Builtin.Tuple.tupleHashOf [tupleKeyHash knd x.1,knd.hash x.2]<2 ^ 63))=true
 ·rw[aL hr]
  rw[aL hr]at h
  exact ao (by simpa [Nat.add_assoc]using h)
 ·rw[aH hr]
  rw[aH hr]at h
  exact ae (wpAny_rule (ao (by simpa [Nat.add_assoc]using h)))
theorem vc {x y:List K×K}{a b:Addr}{P:Fin->Shared->Prop}(hu:A.units<cLine)(hx:gJ knd s.heap x a)(hy:gJ knd s.heap y b)(h:P (.done (.ret (.bool (decide (x=y))))) s):
  wpAny (model prog w) A (Builtin.«tuple.__eq__» ⟨[.ref a,.ref b],[]⟩) P E s:=by
 have hTb:=hy.typeIs
 obtain⟨oa,na,ba,va,hoa,_,hda,hia,hva⟩:=hx
 obtain⟨ob,nb,bb,vb,hob,_,hdb,hib,hvb⟩:=hy
 show wpAny _ _ (isInstance (.ref b) (.type "tuple") >>= _) _ _ s
 refine ae (dY hTb isSubtype_tuple_tuple ?_)
 simp only[cE,bE,cw]
 refine ae (wpAny_tupleItemsOf hoa hda ?_)
 refine ae (wpAny_tupleItemsOf hob hdb ?_)
 refine ae ?_
 show wpAny _ _ (forIn [(Value.ref ba,Value.ref bb),(va,vb)] _ _) _ _ s
 rw[cz]
 refine ae ?_
 refine ae (wpAny_eqBool_tuple hu hia hib ?_)
 by_cases h1:x.1=y.1
 ·rw[bA h1]
  simp only[cE,bE,cw]
  refine ao ?_
  show wpAny _ _ (forIn [(va,vb)] _ _) _ _ s
  rw[cz]
  refine ae ?_
  refine ae (knd.eqBool (a:=x.2) (b:=y.2) hva hvb ?_)
  by_cases h2:x.2=y.2
  ·rw[bA h2]
   simp only[cE,bE,cw]
   refine ao ?_
   show wpAny _ _ (forIn [] _ _) _ _ s
   rw[List.forIn_nil]
   refine ao ?_
   have e:x=y:=cZ h1 h2
   rw[bA e]at h
   exact ao h
  ·rw[bq h2]
   simp only[Bool.not_false,dZ]
   have hf:¬x=y:=λe=>h2 (by rw[e])
   rw[bq hf]at h
   exact ae (ao (ao (ao (ao h))))
 ·rw[bq h1]
  simp only[Bool.not_false,dZ]
  have hf:¬x=y:=λe=>h1 (by rw[e])
  rw[bq hf]at h
  exact ae (ao (ao (ao (ao h))))
theorem o9 {x y:List K×K}{a b:Addr}{Q:Bool->Shared->Prop}(hu:A.units+1<cLine)(hx:gJ knd s.heap x a)(hy:gJ knd s.heap y b)(h:Q (decide (x=y)) s):
  wpAny (model prog w) A (eqBool (.ref a) (.ref b)) Q E s:=by
 unfold eqBool
 try with_reducible refine cS ?_
 show wpAny _ _ (if(Value.ref a==Value.ref b)=true then _ else _) Q E s
 by_cases hab:(Value.ref a==Value.ref b)=true
 ·rw[aL hab]
  have e:a=b:=by have:=eq_of_beq hab;injection this
  subst e
  obtain rfl:=hx.inj hy
  exact ae (wpAny_rule (ao (by simpa using h)))
 ·rw[aH hab]
  exact ae (wpAny_richCompare_same_room (op:=.Eq) hx.typeIs hy.typeIs F.slot_tuple_eq
   (bW F.slot_tuple_eq hx.typeIs F.entry_tuple_eq (vc (cx (in1_units A) hu) hx hy ⟨_,rfl,(λe=>nomatch e),cq h⟩) (F.args_tuple_eq_2 _ _)) (by omega))
theorem wD (m:Nat){ks:List K}{a:Addr}{Q:Bool->Shared->Prop}(hk:IsTupleKey knd s.heap ks a)(h:Q true s):wpAny (model prog w) A (eqIsQuiet (m+1) (.ref a)) Q E s:=by
 have hT:=hk.typeIs
 obtain⟨o,items,n,ho,_,hd,hi⟩:=hk
 unfold eqIsQuiet
 refine ae (d6 hT F.slot_tuple_eq.lookup ?_)
 show wpAny _ _ (isInstance (.ref a) (.type "tuple") >>= _) _ _ s
 refine ae (dY hT isSubtype_tuple_tuple ?_)
 simp only[cE,bE,cw]
 refine ae (wpAny_seqItems ho hd ?_)
 refine ae ?_
 show wpAny _ _ (forIn items _ _) _ _ s
 rw[<-Array.forIn_toList]
 refine wpAny_forIn_list _ (λrest r s'=>r.1=none/\s'=s/\∀ v∈rest,carriedByValue v=true) _ ?_ ?_ _ _ ⟨rfl,rfl,hi.byValue⟩
 ·rintro v rest r s' ⟨hr,rfl,Dh⟩
  rw[eqIsQuiet_byValue _ (Dh v aC)]
  refine ae (ao ?_)
  simp only[cE,bE,cw]
  exact ao ⟨rfl,rfl,λu hu'=>Dh u (aA _ hu')⟩
 ·rintro⟨r1,r2⟩ s' ⟨hr,rfl,_⟩
  simp only at hr
  subst hr
  exact ao h
theorem yc (m:Nat){x:List K×K}{a:Addr}{Q:Bool->Shared->Prop}(hk:gJ knd s.heap x a)(h:Q true s):wpAny (model prog w) A (eqIsQuiet (m+2) (.ref a)) Q E s:=by
 have hT:=hk.typeIs
 obtain⟨o,n,b,v,ho,_,hd,hb,hv⟩:=hk
 unfold eqIsQuiet
 refine ae (d6 hT F.slot_tuple_eq.lookup ?_)
 show wpAny _ _ (isInstance (.ref a) (.type "tuple") >>= _) _ _ s
 refine ae (dY hT isSubtype_tuple_tuple ?_)
 simp only[cE,bE,cw]
 refine ae (wpAny_seqItems ho hd ?_)
 refine ae ?_
 show wpAny _ _ (forIn #[Value.ref b,v] _ _) _ _ s
 rw[<-Array.forIn_toList]
 show wpAny _ _ (forIn [Value.ref b,v] _ _) _ _ s
 rw[cz]
 refine ae ?_
 refine ae (wD m hb ?_)
 simp only[cE,bE,cw]
 refine ao ?_
 show wpAny _ _ (forIn [v] _ _) _ _ s
 rw[cz]
 refine ae ?_
 rw[eqIsQuiet_byValue _ (knd.byValue _ _ hv)]
 refine ae (ao ?_)
 simp only[cE,bE,cw]
 refine ao ?_
 show wpAny _ _ (forIn [] _ _) _ _ s
 rw[List.forIn_nil]
 exact ao (ao h)
end
def nB {prog:Program}{w:World}{K:Type} [DecidableEq K] (knd:PySem.KeyKind prog w K):HeapKind prog w (List K×K) where
 is:=gJ knd
 hash:=si knd
 draws:=λx=>x.1.length+3
 room:=λA=>A.units+1<cLine
 inj:=λhx hy=>hx.inj hy
 keeps:=λx ho hd hs=>x.keeps ho hd hs
 pyHash:=λhu hk h=>o8 hu hk h
 eqBool:=λhu hx hy h=>o9 hu hx hy h
 quiet:=λhk h=>yc 6 hk h
abbrev SK:=List Key×Key
abbrev KvN:=List (SK×Addr×V)
abbrev PN:KvN->List (SK×Addr×Value)->Prop:=Paired λp q=>p.1=q.1/\p.2.1=q.2.1/\RelV p.2.2 q.2.2
def A4 (P:Program)(w:World)(a:Addr)(kvs:KvN)(h:Heap):Prop:=kvs.length<=sizeLine/\(a==sysModules)=false/\∃ xs:List (SK×Addr×Value),PN kvs xs/\
 ∃ o es ep,h.get? a=some o/\o.ExactDict/\o.data = .dict es ep/\es.toList=xs.map (entryOfKey (nB (gq P w)))/\(xs.map (·.1)).Nodup
def nD (P:Program)(w:World)(a:Addr)(kvs:KvN):HO:=.ext (A4 P w a kvs)
theorem A4.mono {P:Program}{w:World}{a:Addr}{kvs:KvN}{h1 h2:Heap}(p:A4 P w a kvs h1)(e:∀ o,h1.get? a=some o->h2.get? a=some o):A4 P w a kvs h2:=by
 obtain⟨p1,p2,xs,p3,o,es,ep,p4,p5⟩:=p
 exact⟨p1,p2,xs,p3,o,es,ep,e _ p4,p5⟩
theorem zh {P:Program}{w:World}{H:Hp}{h:Heap}{a:Addr}{kvs:KvN}(p:A4 P w a kvs h):iq P w H h a (nD P w a kvs):=
 ⟨p,(by obtain⟨_,_,_,_,o,_,_,e,_⟩:=p;exact⟨o,e⟩),λh1 h2 q e=>q.mono e⟩
def i7 (H:Hp)(c:Addr)(k:SK):Prop:=∃ b,H c=some (.tup [.ref b,kV k.2])/\H b=some (.tup (k.1.map kV))
theorem i7.same {H H':Hp}{c:Addr}{k:SK}(h:i7 H c k)(s:eQ H H'):i7 H' c k:=h.imp λb h=>⟨s _ _ h.1,s _ _ h.2⟩
theorem i7.ke {H H':Hp}{c:Addr}{k:SK}(h:i7 H c k)(s:∀ b ys,H b=some (.tup ys)->H' b=some (.tup ys)):i7 H' c k:=h.imp λb h=>⟨s _ _ h.1,s _ _ h.2⟩
structure DN (P:Program)(w:World)(H:Hp)(a:Addr)(kvs:KvN):Prop where
 at_:H a=some (nD P w a kvs)
 keys:∀ p∈kvs,i7 H p.2.1 p.1
theorem DN.same {P:Program}{w:World}{H H':Hp}{a:Addr}{kvs:KvN}(h:DN P w H a kvs)(s:eQ H H'):DN P w H' a kvs:=⟨s _ _ h.at_,λp hp=>(h.keys p hp).same s⟩
def valN (kvs:KvN)(k:SK):Option V:=(kvs.find? λp=>decide (p.1=k)).map (·.2.2)
def putN (kvs:KvN)(k:SK)(c:Addr)(v:V):KvN:=if(valN kvs k).isSome then kvs.map (λp=>if p.1=k then(p.1,p.2.1,v)else p)else kvs ++ [(k,c,v)]
theorem iP {p:SK×Addr×V}{r:KvN}{k:SK}(e:p.1=k):valN (p::r) k=some p.2.2:=by simp[valN,bZ,e]
theorem iQ {p:SK×Addr×V}{r:KvN}{k:SK}(e:¬p.1=k):valN (p::r) k=valN r k:=by simp[valN,bZ,e]
theorem rG (k j:SK)(y:V):∀ kvs:KvN,valN (kvs.map λp=>if p.1=k then(p.1,p.2.1,y)else p) j=(valN kvs j).map λx=>if j=k then y else x
 |[]=>rfl
 |p::r=>by
  rw[aQ]
  by_cases e:p.1=k
  ·rw[aL e]
   by_cases f:p.1=j
   ·rw[iP (p:=(p.1,p.2.1,y)) f,iP f,Option.map_some,aL (f.symm.trans e)]
   ·rw[iQ (p:=(p.1,p.2.1,y)) f,iQ f];exact rG k j y r
  ·rw[aH e]
   by_cases f:p.1=j
   ·rw[iP f,iP f,Option.map_some,aH (λz=>e (f.trans z))]
   ·rw[iQ f,iQ f];exact rG k j y r
theorem tQ (k j:SK)(c:Addr)(y:V):∀ kvs:KvN,valN kvs k=none->valN (kvs ++ [(k,c,y)]) j=if j=k then some y else valN kvs j
 |[],_=>by
  rw[dO]
  by_cases f:j=k
  ·rw[aL f,iP (p:=(k,c,y)) f.symm]
  ·rw[aH f,iQ (p:=(k,c,y)) (λz=>f z.symm)]
 |p::r,h=>by
  have hp:¬p.1=k:=λe=>by rw[iP e]at h;cases h
  rw[iQ hp]at h
  rw[eB]
  by_cases f:p.1=j
  ·rw[iP f,iP f,aH (λz=>hp (f.trans z))]
  ·rw[iQ f,iQ f];exact tQ k j c y r h
theorem vY (kvs:KvN)(k j:SK)(c:Addr)(y:V):valN (putN kvs k c y) j=if j=k then some y else valN kvs j:=by
 unfold putN
 split
 ·rename_i h
  rw[rG]
  by_cases f:j=k
  ·subst f
   obtain⟨v,hv⟩:=cC.mp h
   rw[hv,aL rfl,Option.map_some,aL rfl]
  ·rw[aH f]
   cases valN kvs j with
   |none=>rfl
   |some v=>rw[Option.map_some,aH f]
 ·rename_i h
  exact tQ k j c y kvs (by simpa using h)
theorem rX (kvs:KvN)(k:SK)(c:Addr)(v:V):(putN kvs k c v).length<=kvs.length+1:=by
 unfold putN
 split
 ·rw[aa];omega
 ·rw[ai,aE];exact av _
theorem PN.val {kvs:KvN}{xs:List (SK×Addr×Value)}(r:PN kvs xs)(k:SK):qQ (valN kvs k) ((atKey xs k).map (·.2)):=by
 induction r with
 |nil=>exact True.intro
 |@cons p q ps qs h t ih=>
  obtain⟨h1,_,h2⟩:=h
  by_cases e:p.1=k
  ·have e':q.1=k:=h1.symm.trans e
   have b:atKey (q::qs) k=some q.2:=by simp[atKey,bZ,e']
   rw[iP e,b];exact h2
  ·have e':¬q.1=k:=λz=>e (h1.trans z)
   have b:atKey (q::qs) k=atKey qs k:=by simp[atKey,bZ,e']
   rw[iQ e,b];exact ih
theorem PN.AW {kvs:KvN}{xs:List (SK×Addr×Value)}(r:PN kvs xs)(k:SK){y:V}{u:Value}(ry:RelV y u):PN (kvs.map λp=>if p.1=k then(p.1,p.2.1,y)else p) (xs.map (putAt k u)):=by
 induction r with
 |nil=>exact .nil
 |@cons p q ps qs h t ih=>
  rw[aQ,aQ]
  refine .cons ?_ ih
  obtain⟨h1,h2,h3⟩:=h
  unfold putAt
  by_cases e:p.1=k
  ·rw[aL e,aL (h1.symm.trans e)];exact⟨h1,h2,ry⟩
  ·rw[aH e,aH (λz=>e (h1.trans z))];exact⟨h1,h2,h3⟩
theorem PN.put {kvs:KvN}{xs:List (SK×Addr×Value)}(r:PN kvs xs)(k:SK)(c:Addr){y:V}{u:Value}(ry:RelV y u):PN (putN kvs k c y) (storedH xs k c u):=by
 have e:(valN kvs k).isSome=(atKey xs k).isSome:=by rw[(r.val k).mx,ed]
 unfold putN storedH
 rw[e]
 by_cases q:(atKey xs k).isSome=true
 ·rw[aL q,aL q];exact r.AW k ry
 ·rw[aH q,aH q];exact Paired.snoc r ⟨rfl,rfl,ry⟩
section
variable {P:Program}{w:World}{H:Hp}{h:Heap}{a c:Addr}{kvs:KvN}{k:SK}
theorem pJ (ok:HOk P w H h)(e:i7 H c k):(nB (gq P w)).is h k c:=by
 obtain⟨b,e1,e2⟩:=e
 obtain⟨_,its,r,o,h1,h2,n,h3⟩:=(show iq P w H h c (.tup [.ref b,kV k.2]) from ok c _ e1)
 cases r with
 |cons r1 r2=>
  cases r2 with
  |cons r3 r4=>
   cases r4
   cases r1
   exact⟨o,n,b,_,h1,h2,h3,qk ok e2,nG r3⟩
theorem xt (ok:HOk P w H h)(e:DN P w H a kvs):kvs.length<=sizeLine/\(a==sysModules)=false/\∃ xs,PN kvs xs/\h.DictOfH (nB (gq P w)) a xs:=by
 obtain⟨⟨z,y,xs,r,o,es,ep,h1,h2,h3,h4,h5⟩,_,_⟩:=(show iq P w H h a (nD P w a kvs) from ok a _ e.at_)
 refine⟨z,y,xs,r,o,es,ep,h1,h2,h3,h4,λx hx=>?_,h5⟩
 have all:∀ {l:KvN}{m:List (SK×Addr×Value)},PN l m->(∀ p∈l,i7 H p.2.1 p.1)->∀ x∈m,(nB (gq P w)).is h x.1 x.2.1:=by
  intro l m q
  induction q with
  |nil=>intro _ x hx;exact nomatch hx
  |@cons p q ps qs hq t ih=>
   intro hk x hx
   rcases aP.mp hx with e |hx
   ·subst e
    have:=pJ ok (hk p aC)
    rw[hq.1,hq.2.1]at this
    exact this
   ·exact ih (λp hp=>hk p (aA _ hp)) x hx
 exact all r e.keys x hx
end
theorem lR {P:Program}{w:World}{A:Around}(hu:A.units+2<cLine):(nB (gq P w)).room A.in1:=by
 show A.in1.units+1<cLine
 have:=in1_units A
 omega
section
variable {X:Cx}{pins:List (Addr×Obj)}{σ:St}{H:Hp}{s:Shared}{a c:Addr}{v:V}{r:Value}{k:SK}{kvs:KvN}{A:Around}{E:Value->Shared->Prop}
theorem Aj {Q:Value->Shared->Prop}(hu:A.units+2<cLine)(I:Inv X pins σ H s)(e:DN X.prog X.w H a kvs)(ek:i7 H c k)(l:valN kvs k=some v)(h:∀ w' s',Inv X pins σ H s'->RelV v w'->Q w' s'):
  wpAny (model X.prog X.w) A (getItem (.ref a) (.ref c)) Q E s:=by
 obtain⟨z,hd,xs,rel,dd⟩:=xt I.hok e
 obtain⟨w',hw,rw'⟩:=qQ.some_of (v:=v) (o:=(atKey xs k).map (·.2)) (by rw[<-l];exact rel.val k)
 obtain⟨p,hp,hp2⟩:=cH.mp hw
 refine wpAny_getItem_heap (lR hu) (pJ I.hok ek) dd hp ?_
 rw[hp2]
 exact h w' _ (I.tok _) rw'
theorem CZ {Q:Value->Shared->Prop}(hu:A.units+2<cLine)(I:Inv X pins σ H s)(e:DN X.prog X.w H a kvs)(ek:i7 H c k)(h:∀ s',Inv X pins σ H s'->Q (.bool (!(valN kvs k).isSome)) s'):
  wpAny (model X.prog X.w) A (compareOp .NotIn (.ref c) (.ref a)) Q E s:=by
 obtain⟨z,hd,xs,rel,dd⟩:=xt I.hok e
 refine wpAny_notIn_heap (lR hu) (pJ I.hok ek) hd dd ?_
 have q:=(rel.val k).mx
 rw[ed]at q
 rw[<-q]
 exact h _ (I.tok _)
theorem Ai {Q:Unit->Shared->Prop}(hu:A.units+2<cLine)(I:Inv X pins σ H s)(e:DN X.prog X.w H a kvs)(ek:i7 H c k)(l:kvs.length<sizeLine)(rv:RelV v r)(h:∀ s',Inv X pins σ (upd H a (nD X.prog X.w a (putN kvs k c v))) s'->Q () s'):
  wpAny (model X.prog X.w) A (setItem (.ref a) (.ref c) r) Q E s:=by
 obtain⟨z,hd,xs,rel,dd⟩:=xt I.hok e
 have hz:xs.length<=sizeLine:=by rw[<-bT rel];exact z
 have hl:(putN kvs k c v).length<=sizeLine:=by have:=rX kvs k c v;omega
 refine wpAny_setItem_heap (hsz:=hz) (lR hu) (pJ I.hok ek) dd λh' dd' hs=>h _ ?_
 obtain⟨q,es,ep,hq,h2,h3,h4,_,h5⟩:=dd'
 exact pP I (by rw[e.at_];exact True.intro) hs ⟨q,hq⟩ (zh ⟨hl,hd,_,rel.put k c rv,q,es,ep,hq,h2,h3,h4,h5⟩)
end
theorem Bt {P:Program}{w:World}{H:Hp}{a b:Addr}{kvs:KvN}{ys:List V}{o:HO}(h:H a=some (nD P w a kvs))(e:H b=some (.tup ys)):(upd H a o) b=some (.tup ys):=by
 rw[eL (fz e h (λz=>nomatch z))];exact e
theorem DN.put {P:Program}{w:World}{H:Hp}{a c:Addr}{kvs:KvN}{k:SK}{v:V}(h:DN P w H a kvs)(ek:i7 H c k):DN P w (upd H a (nD P w a (putN kvs k c v))) a (putN kvs k c v):=by
 refine⟨eG,λp hp=>?_⟩
 refine i7.ke (H:=H) ?_ λb ys e=>Bt h.at_ e
 unfold putN at hp
 split at hp
 ·obtain⟨q,hq,e⟩:=ak.mp hp
  by_cases f:q.1=k
  ·rw[aL f]at e;rw[<-e];exact h.keys q hq
  ·rw[aH f]at e;rw[<-e];exact h.keys q hq
 ·rcases az.mp hp with z |z
  ·exact h.keys p z
  ·rw[bh.mp z];exact ek
def DF (P:Program)(w:World)(td ty:TE):TE:=λσ H Q=>td σ H λx H1=>ty σ H1 λy H2=>∃ a kvs c k v,x = .ref a/\y = .ref c/\DN P w H2 a kvs/\i7 H2 c k/\valN kvs k=some v/\Q v H2
def Cw (P:Program)(w:World)(ty td:TE):TE:=λσ H Q=>ty σ H λy H1=>td σ H1 λx H2=>∃ a kvs c k,x = .ref a/\y = .ref c/\DN P w H2 a kvs/\i7 H2 c k/\Q (.bl (!(valN kvs k).isSome)) H2
def FZ (P:Program)(w:World)(td ty tv:TE):TS:=λD σ H=>tv σ H λv H1=>td σ H1 λx H2=>ty σ H2 λy H3=>∃ a kvs c k,x = .ref a/\y = .ref c/\DN P w H3 a kvs/\i7 H3 c k/\kvs.length<sizeLine/\D.nx σ (upd H3 a (nD P w a (putN kvs k c v)))
def FO (P:Program)(w:World):TE:=λ_ H Q=>∀ p,H p=none->Q (.ref p) (upd H p (nD P w p []))
section
variable {X:Cx}{o i e value:Expr}{pos pos' FG:Pos}{td ty tv:TE}
theorem Aw {pins:List (Addr×Obj)}{σ:St}{H:Hp}{s:Shared}{a:Addr}{kvs:KvN}(I:Inv X pins σ H s)(g:DN X.prog X.w H a kvs):s.TypeIs (.ref a) "dict" :=by
 obtain⟨_,_,xs,_,o,es,ep,h1,h2,_⟩:=xt I.hok g
 exact⟨o,h1,h2.1⟩
theorem pE (hu:X.A.units+2<cLine)(ho:PE X o td)(hi:PE X i ty)(hs:Cf i):PE X (.Subscript o i pos) (DF X.prog X.w td ty):=by
 intro pins s σ H Q I h
 refine uH d7.lookup hs (thn (ho pins s σ H _ I h) λu s1 ⟨x,H1,I1,rx,q1⟩=>thn (hi pins s1 σ H1 _ I1 q1) λiv s2 ⟨y,H2,I2,ry,a,kvs,c,k,v,ex,ey,g,gk,l,q2⟩=>?_)
 subst ex ey
 obtain rfl:u=Value.ref a:=rx
 obtain rfl:iv=Value.ref c:=ry
 exact⟨Aw I2 g,Aj hu I2 g gk l λw' s3 I3 rw'=>⟨v,H2,I3,rw',q2⟩⟩
theorem uh (hu:X.A.units+2<cLine)(hi:PE X i ty)(ho:PE X o td):PC X .NotIn i o (Cw X.prog X.w ty td):=by
 intro pins s σ H Q I h
 refine thn (hi pins s σ H _ I h) λiv s1 ⟨y,H1,I1,ry,q1⟩=>thn (ho pins s1 σ H1 _ I1 q1) λu s2 ⟨x,H2,I2,rx,a,kvs,c,k,ex,ey,g,gk,q2⟩=>?_
 subst ex ey
 obtain rfl:u=Value.ref a:=rx
 obtain rfl:iv=Value.ref c:=ry
 exact CZ hu I2 g gk λs3 I3=>⟨.bl (!(valN kvs k).isSome),H2,I3,rfl,q2⟩
theorem uY (hu:X.A.units+2<cLine)(ho:PE X o td)(hi:PE X i ty)(hv:PE X value tv)(hs:swapsWith value (some (.Subscript o i pos')) pos.line X.env=pure false):
  PS X (.Assign [.Subscript o i pos'] value pos) (FZ X.prog X.w td ty tv):=by
 intro pins s σ H D I h
 refine wpAny_Assign_Subscript (thn (hv pins s σ H _ I h) λr s1 ⟨v,H1,I1,rv,q1⟩=>thn (ho pins s1 σ H1 _ I1 q1) λu s2 ⟨x,H2,I2,rx,q2⟩=>thn (hi pins s2 σ H2 _ I2 q2) λiv s3 ⟨y,H3,I3,ry,a,kvs,c,k,ex,ey,g,gk,l,q3⟩=>?_) hs
 subst ex ey
 obtain rfl:u=Value.ref a:=rx
 obtain rfl:iv=Value.ref c:=ry
 exact Ai hu I3 g gk l rv λs4 I4=>⟨σ,_,I4,q3⟩
theorem CK:PE X (.Dict [] [] pos) (FO X.prog X.w):=λpins s σ H Q I h=>
 wpAny_Dict_empty ⟨.ref s.heap.objs.size,_,I.laid (a:=s.heap.objs.size) (o:=nD X.prog X.w s.heap.objs.size []) (t':=s.toks) (λ_ _ q=>aB _ q) (av _)
  (zh ⟨aO _,dS.mpr (bB (aR I.big)),[],.nil,_,#[],0,aN _ rfl,⟨rfl,rfl,rfl⟩,rfl,rfl,dw⟩),rfl,h _ (I.hok.fresh (av _))⟩
end
open TS
theorem EL {X:Cx}{pins:List (Addr×Obj)}{σ:St}{H:Hp}{s:Shared}{a c:Addr}{v:V}{r:Value}{k:SK}{kvs:KvN}{A:Around}{E:Value->Shared->Prop}{Q:Unit->Shared->Prop}(hu:A.units+1<cLine)(I:Inv X pins σ H s)(e:DN X.prog X.w H a kvs)(ek:i7 H c k)(l:kvs.length<sizeLine)(rv:RelV v r)
  (h:∀ s',Inv X pins σ (upd H a (nD X.prog X.w a (putN kvs k c v))) s'->Q () s'):wpAny (model X.prog X.w) A (dictSet a (.ref c) r) Q E s:=by
 obtain⟨z,hd,xs,rel,dd⟩:=xt I.hok e
 have hz:xs.length<=sizeLine:=by rw[<-bT rel];exact z
 have hl:(putN kvs k c v).length<=sizeLine:=by have:=rX kvs k c v;omega
 refine wpAny_dictSet_heap (hsz:=hz) hu (pJ I.hok ek) dd λh' dd' hs=>h _ ?_
 obtain⟨q,es,ep,hq,h2,h3,h4,_,h5⟩:=dd'
 exact pP I (by rw[e.at_];exact True.intro) hs ⟨q,hq⟩ (zh ⟨hl,hd,_,rel.put k c rv,q,es,ep,hq,h2,h3,h4,h5⟩)
section
variable {X:Cx}{pins:List (Addr×Obj)}{σ:St}{H1:Hp}{s2:Shared}{scope:Scope}{N:List Str}{own:Nat}{cap:List (Option Nat)}{cl:List (Str×Addr)}{fp:List Addr}
 {tg iter elt vlt:Expr}{ifs:List Expr}{pos:Pos}{g:TG}{tt:TT}{te tv:TE}{wi:TI}
def Fy (P:Program)(w:World)(J:It)(g:TG)(tt:TT)(te tv:TE)(cap:List (Option Nat))(σ:St)(Q:VK)(l:Addr)(H1:Hp):Prop:=
 ∃ W:Nat->Nat->Hp->Prop,(∃ m,W 0 m (upd H1 l (nD P w l [])))/\∀ i m H,W i m H->
  (J.stop i H/\Q (.ref l) H)\/(J.go i H/\∃ N:Hp->Prop,(∀ H',N H'->∃ m',m'<m/\W (i+1) m' H')/\
   ∀ x H',J.yld i H x H'->g x (iG cap σ) H' λσ2 H2=>tt σ2 H2 λb H3=>
    if b=true then te σ2 H3 λy H4=>tv σ2 H4 λv H5=>∃ (kvs:KvN) (k:SK) (b:Addr),y = .ref b/\DN P w H5 l kvs/\i7 H5 b k/\kvs.length<sizeLine/\N (upd H5 l (nD P w l (putN kvs k b v)))
    else N H3)
def HI (P:Program)(w:World)(wi:TI)(cap:List (Option Nat))(g:TG)(tt:TT)(te tv:TE):TE:=λσ H Q=>wi σ H λJ H1=>∀ l,H1 l=none->
 Fy P w J g tt te tv cap σ Q l H1
theorem yG {it:Addr}{tn:Nat->Heap->Prop}{J:It}{Q:VK}{RR:Value->Addr->Result->Shared->Prop}{E:Value->Shared->Prop}(hu:X.A.units+1<cLine)(I:Inv X pins σ H1 s2)(T:Turn X.prog X.w X.K tg J fp it tn)(t0:tn 0 s2.heap)
  (f:∀ b∈fp,nh X pins H1 b) (hc:X.calm=true) (C:fX X.env.scope X.N scope N own cap) (ho:qS own g)
  (lx:∀ x c,cl.lookup x=some c->X.env.cells.lookup x=some c) (oG:∀ y∈scope.names,y.2 = .free->∃ c,cl.lookup y.1=some c)
  (hg:∀ s3 H3,PG (fw X scope cl N fp s3 H3) tg g) (ht:∀ s3 H3,vR (fw X scope cl N fp s3 H3) ifs tt) (he:∀ s3 H3,PE (fw X scope cl N fp s3 H3) elt te) (hv:∀ s3 H3,PE (fw X scope cl N fp s3 H3) vlt tv)
  (hw:∀ l,H1 l=none->Fy X.prog X.w J g tt te tv cap σ Q l H1)
  (fin:∀ l C s' H' m',Inv X pins σ H' s'->s'.heap.Ns C m'->H' C=none->Apart X pins C->Q (.ref l) H'->RR (.ref l) C (.ok .next) s'):
  wpAny (model X.prog X.w) X.A newDict (λacc s₃=>wpAny (model X.prog X.w) X.A (newFunctionEnv scope X.env.globals cl [] X.env.qual none .none (some X.env)) (λxE s₄=>
   codeAny (model X.prog X.w) X.A (.compStart (.DictComp elt vlt [⟨tg,iter,ifs,0⟩] scope pos) 0 (.ref it) acc {xE with scope:=relabel scope X.env}) (RR acc xE.locals) s₄) E s₃) E s2:=by
 refine bS ?_
 refine wpAny_newFunctionEnv C.vn (by intro y hy;simp at hy) (λh₁ lu lr=>?_) C.kind
 dsimp only at lu lr ⊢
 obtain⟨W,⟨m0,w0⟩,turn⟩:=hw s2.heap.objs.size I.fresh
 have I3:Inv X pins σ (upd H1 s2.heap.objs.size (nD X.prog X.w s2.heap.objs.size [])) {s2 with heap:=s2.heap.push {cls:=.type "dict",data:=.dict #[]}} :=
  I.laid (t':=s2.toks) (λb u e=>aB _ e) (av _) (zh ⟨aO _,dS.mpr (bB (aR I.big)),[],.nil,_,#[],0,aN _ rfl,⟨rfl,rfl,rfl⟩,rfl,rfl,dw⟩)
 generalize hs3:({s2 with heap:=s2.heap.push {cls:=.type "dict",data:=.dict #[]}} :Shared)=s3 at I3
 have hh3:s3.heap=s2.heap.push {cls:=.type "dict",data:=.dict #[]} :=by rw[<-hs3]
 rw[<-hh3]at lu lr ⊢
 have e4:({s2 with heap:=h₁,toks:=s2.toks+([]:List (Str×Value)).length} :Shared) = {s3 with heap:=h₁,toks:=s2.toks} :=by rw[<-hs3];rfl
 rw[e4]
 have k4:∀ b u,s3.heap.get? b=some u->h₁.get? b=some u:=λb u e=>lr.extBut b u (aR (aF e)) (aB _ e)
 have k3:∀ b u,s2.heap.get? b=some u->s3.heap.get? b=some u:=λb u e=>by rw[hh3];exact aB _ e
 have hb2:∀ b∈fp,b<s2.heap.objs.size:=λb hb=>by obtain⟨o,e,_⟩:=T.obj _ _ t0 b hb;exact aF e
 have f3:∀ b∈fp,nh X pins (upd H1 s2.heap.objs.size (nD X.prog X.w s2.heap.objs.size [])) b:=λb hb=>by
  obtain⟨f0,fr⟩:=f b hb
  exact⟨by rw[eL (aR (hb2 b hb))];exact f0,fr⟩
 have hb3:∀ b∈fp,b<s3.heap.objs.size:=λb hb=>by obtain⟨o,e,_⟩:=T.obj _ _ t0 b hb;exact aF (k3 b o e)
 have I4:=sI (tk:=s2.toks) I3 C lx oG (λb hb=>⟨f3 b hb,hb3 b hb⟩) lu k4
 generalize hH3:upd H1 s2.heap.objs.size (nD X.prog X.w s2.heap.objs.size [])=H3 at *
 have st4:tn 0 h₁:=T.keep _ _ _ t0 λb hb o e=>k4 b o (k3 b o e)
 have fpX:∀ {H':Hp},(∀ b∈fp,H' b=none)->∀ b∈fp,nh (fw X scope cl N fp s3 H3) [] H' b:=λ{H'} hn b hb=>by
  obtain⟨f0,f1,f2,f3',f4,f5⟩:=f3 b hb
  refine⟨hn b hb,aR (hb3 b hb),λhz=>?_,.inl hb,λx c e=>f4 x c (lx x c e),λp hp=>absurd (show p∈([]:List (Addr×Obj)) from hp) (by simp)⟩
  rcases aP.mp (I3.oR b hz)with z |z
  ·exact f1 z
  ·exact f2 z
 have loop:codeAny (model X.prog X.w) X.A (.compLoop (.DictComp elt vlt [⟨tg,iter,ifs,0⟩] scope pos) 0 (.ref it) (.ref s2.heap.objs.size) (compEnvC scope cl s3.heap.objs.size X.env)) (RR (.ref s2.heap.objs.size) s3.heap.objs.size) {s3 with heap:=h₁,toks:=s2.toks} :=by
  refine vL (λn s'=>∃ i H',Inv (fw X scope cl N fp s3 H3) [] (iG cap σ) H' s'/\tn i s'.heap/\(∀ b∈fp,H' b=none)/\W i n H') ?_ m0 ⟨0,H3,I4,st4,λb hb=>(f3 b hb).1,w0⟩
  rintro n s' ⟨i,H',I',st,fr,w⟩
  rcases turn i n H' w with⟨stop,q⟩|⟨go,NN,hNN,step⟩
  ·refine thn (T.done (fw X scope cl N fp s3 H3) rfl rfl rfl hc i [] s' _ H' (λ_ _=>False) I' (fpX fr) st stop) λr s5 ⟨hr,I5⟩=>?_
   subst hr
   obtain⟨m5,hn5,_⟩:=id I5.loc
   exact fin _ _ s5 H' m5 (comp_back I3 f3 I5) hn5 I5.free (TL.Inv.apart I3) q
  ·refine thn (T.item (fw X scope cl N fp s3 H3) rfl rfl rfl hc i [] s' _ H' (λ_ _=>False) I' (fpX fr) st go) λr s5 ⟨u,hr,h5⟩=>?_
   subst hr
   refine thn h5 λ_ s6 ⟨x,H6,I6,r6,y6,st6,fr6⟩=>?_
   have I6':=I6.pinned (fpX fr6) (T.obj _ _ st6)
   refine thn (hg s3 H3 _ s6 _ H6 x u _ I6' r6 (ho.own _ _ _ _ (step x H6 y6))) λ_ s7 ⟨σ7,H7,I7,q7,l7,o7⟩=>?_
   have cov:∀ (i:Nat) v,(iG cap σ)[i]? = some (some v)->σ7[i]? = some (some v):=λi v e=>by
    obtain⟨j,c1,c2⟩:=oA e
    by_cases hi:i<own
    ·exact(C.sj hi c1).elim
    ·rw[o7 i (by omega)];exact e
   have back:∀ {H8:Hp}{s8:Shared},Inv (fw X scope cl N fp s3 H3) ([]++oW fp s6.heap) σ7 H8 s8->Inv (fw X scope cl N fp s3 H3) [] (iG cap σ) H8 s8/\tn (i+1) s8.heap/\∀ b∈fp,H8 b=none:=λ{H8 s8} I8=>by
    refine⟨(Inv.lZ (pins:=[]) I8).weak l7.symm cov,T.keep _ _ _ st6 λb hb o e=>(I8.pin (b,o) (aD _ (aD _ (iW hb e)))).1,λb hb=>?_⟩
    obtain⟨o,e,d⟩:=T.obj _ _ st6 b hb
    exact(I8.pin (b,o) (aD _ (aD _ (iW hb e)))).2.1
   refine thn (ht s3 H3 _ s7 σ7 H7 _ I7 q7) λb s8 ⟨H8,I8,q8⟩=>?_
   cases b with
   |false=>
    rw[aH aI]at q8 ⊢
    obtain⟨m',hm,w8⟩:=hNN _ q8
    obtain⟨J1,J2,J3⟩:=back I8
    exact⟨m',hm,i+1,H8,J1,J2,J3,w8⟩
   |true=>
    rw[aL rfl]at q8 ⊢
    refine thn (he s3 H3 _ s8 σ7 H8 _ I8 q8) λu9 s9 ⟨y,H9,I9,r9,q9⟩=>?_
    refine thn (hv s3 H3 _ s9 σ7 H9 _ I9 q9) λv s10 ⟨v',H10,I10,r10,kvs,k,b,ey,ha,hb,hz,n10⟩=>?_
    obtain⟨m',hm,w10⟩:=hNN _ n10
    subst ey
    cases(show u9=Value.ref b from r9)
    refine EL (X:=fw X scope cl N fp s3 H3) hu I10 ha hb hz r10 λs11 I11=>?_
    obtain⟨J1,J2,J3⟩:=back I11
    exact⟨m',hm,i+1,_,J1,J2,J3,w10⟩
 exact codeAny_compStart_dict loop (T.self X.A 0 _ _ _ st4 loop)
theorem Eu {i:Nat}{x:Str}{pos' AQ:Pos}(hu:X.A.units+1<cLine)(hN:X.N.Nodup)(hi':X.N[i]? = some x)(hx:X.env.scope.names.lookup x=some .local)(hi:PI X tg iter wi)(hc:X.calm=true)(C:fX X.env.scope X.N scope N own cap)(ho:qS own g)
  (hg:∀ cl fp s3 H3,PG (fw X scope cl N fp s3 H3) tg g) (ht:∀ cl fp s3 H3,vR (fw X scope cl N fp s3 H3) ifs tt) (he:∀ cl fp s3 H3,PE (fw X scope cl N fp s3 H3) elt te) (hv:∀ cl fp s3 H3,PE (fw X scope cl N fp s3 H3) vlt tv)
  (hsw:swapsWith (.DictComp elt vlt [⟨tg,iter,ifs,0⟩] scope pos) (some (.Name x pos')) AQ.line X.env=pure true:=by rfl)
  (hs:∀ x,foldedSetIterable iter X.env x=pure x:=by intro _;rfl):PS X (.Assign [.Name x pos'] (.DictComp elt vlt [⟨tg,iter,ifs,0⟩] scope pos) AQ) (AL (HI X.prog X.w wi cap g tt te tv) (oP i)):=by
 intro pins s σ H D I h
 obtain⟨cl,ecl,lx,oG⟩:=mZ (scope:=scope) (env:=X.env) λy hy hf=>I.ok.has y.1 (C.fre y hy hf)
 rw[exec_Assign_Name_used _ _ _ _ hsw]
 refine ae (b8 (ae ?_))
 show wpAny _ X.A (do let _ <-comprehension (.DictComp elt vlt [⟨tg,iter,ifs,0⟩] scope pos) scope X.env _ newDict false (eval iter X.env) (some (assign (.Name x pos') X.env))) _ _ s
 refine ae (br (dt (use:=some (assign (.Name x pos') X.env)) (Q:=λ_ s'=>SP X pins D .next s') rfl hs ecl C.kind C.loc
  (thn (hi pins s σ H _ I h) λxv s1 h1=>thn h1 λitv s2 h2=>?_)) (λ_ s' hq=>ao (ao hq)) λ_ _ e=>e)
 obtain⟨it,fp,tn,J,H2,e,I2,T,st2,f2,hw⟩:=h2
 subst e
 refine yG (RR:=λacc C=>compPost (model X.prog X.w) X.A X.xe (some (assign (.Name x pos') X.env)) (λ_ s'=>SP X pins D .next s') acc C) hu I2 T st2 f2 hc C ho lx oG (hg cl fp) (ht cl fp) (he cl fp) (hv cl fp) hw λl Ca s' H' m' I' hn oO hP q=>?_
 show wpAny _ X.A (assign (.Name x pos') X.env (.ref l)) _ _ _
 refine wpAny_assign_Name (pY I' hN hi' (.inl hx) (v:=.ref l) rfl (λs5 I5 ⟨a,sb,ha⟩=>?_) (.inr hx))
 have hne:Ca≠a:=by
  rcases ha with z |z
  ·rw[z];exact hP.loc
  ·exact λe=>hP.cel x a z e.symm
 refine⟨m',hn.sameBut sb hne,λh'' yx=>⟨_,H',oy I5 hP oO yx,q⟩⟩
end
end TL
namespace TL
open PySem PySem.Spec PyProof.Rows L2
theorem ly {l:Ln}{ns:List Int}{e x:Int} :x∈fr l ns e↔x∈jn l.2 e/\x/2∉ns.map (· / 2):=by
 unfold fr
 rw[b9]
 constructor
 ·rintro⟨h1,h2⟩;exact⟨h1,by simpa using h2⟩
 ·rintro⟨h1,h2⟩;exact⟨h1,by simpa using h2⟩
theorem Cq {l:Ln}{ns:List Int}{e:Int}(ok:fb l)(T:fT l ns)(hne:ns≠ [])(he:e∈fr l ns (oth (ns.getLastD 0))):(((("back" :Str),oth (ns.headD 0)),ns):Mv)∈mvs l (ns.drop 1 ++ [e]):=by
 obtain⟨h1,h2⟩:=qo he
 obtain⟨h,r,rfl⟩:∃ h r,ns=h::r:=by cases ns with |nil=>exact absurd rfl hne |cons x r=>exact⟨x,r,rfl⟩
 refine az.mpr (.inr (ak.mpr ⟨oth h,ly.mpr ⟨?_,?_⟩,?_⟩))
 ·cases r with
  |nil=>exact pM ok h1
  |cons y r=>exact pM ok (T.ch 0 h y rfl rfl)
 ·rw[nC]
  have nd:=T.nd
  rw[aQ,bL]at nd
  intro z
  rw[ax]at z
  rcases az.mp z with z |z
  ·exact nd.1 z
  ·have z:h/2=e/2:=by simpa using z
   exact h2 (by rw[<-z];simp)
 ·unfold jw
  rw[kC]
  simp
theorem zM {l:Ln}{ns:List Int}{e:Int}(ok:fb l)(T:fT l ns)(hne:ns≠ [])(he:e∈fr l ns (ns.headD 0)):(((("on" :Str),ns.getLastD 0),ns):Mv)∈mvs l (oth e::ns.dropLast):=by
 obtain⟨h1,h2⟩:=qo he
 obtain⟨r,z,rfl⟩:∃ r z,ns=r ++ [z]:=⟨ns.dropLast,ns.getLast hne,(bP hne).symm⟩
 have hz:(r ++ [z]).getLastD 0=z:=by simp
 have hd:(r ++ [z]).dropLast=r:=by simp
 rw[hz,hd]
 refine az.mpr (.inl (ak.mpr ⟨z,ly.mpr ⟨?_,?_⟩,?_⟩))
 ·rcases List.eq_nil_or_concat r with e1 |⟨r',y,e1⟩
  ·subst e1
   show z∈jn l.2 (oth (oth e))
   rw[kC]
   exact pM ok h1
  ·rw[List.concat_eq_append]at e1
   subst e1
   have:(oth e::(r' ++ [y])).getLastD 0=y:=by rw[<-eB,bf,List.getLast?_concat];rfl
   rw[this]
   exact T.ch r'.length y z (by simp) (by simp)
 ·intro q
  rw[aQ,nC]at q
  rcases aP.mp q with q |q
  ·exact h2 (by rw[<-q];simp)
  ·have nd:=T.nd
   rw[ax,bN]at nd
   exact nd.2.2 _ q (z/2) (by simp) rfl
 ·unfold onM;simp
def rH (m:Mv):Mv:=((if m.1.1 = "on" then "back" else "on",m.1.2),m.2.reverse.map oth)
theorem Cs (ns:List Int)(e:Int):rH (onM ns e)=jw (ns.reverse.map oth) e:=by
 unfold rH onM jw
 simp[cj,<-List.map_dropLast,List.dropLast_reverse]
theorem zQ {ns:List Int}(e:Int):rH (jw ns e)=onM (ns.reverse.map oth) e:=by
 unfold rH onM jw
 have:("back" :Str)≠ "on" :=by decide +kernel
 simp[this,kC,cO,List.drop_reverse,List.dropLast_eq_take]
theorem zt (l:Ln)(ns:List Int)(x:Int):fr l (ns.reverse.map oth) x=fr l ns x:=by
 unfold fr
 congr 1
 funext t
 congr 2
 refine propext ?_
 rw[bx]
 constructor
 ·intro h
  obtain⟨y,hy,e⟩:=ak.mp h
  exact ak.mpr ⟨y,by simpa using hy,by rw[<-e];exact(nC y).symm⟩
 ·intro h
  obtain⟨y,hy,e⟩:=ak.mp h
  exact ak.mpr ⟨y,by simpa using hy,by rw[<-e];exact nC y⟩
theorem As {ns:List Int}(hne:ns≠ []):(ns.reverse.map oth).headD 0=oth (ns.getLastD 0):=by
 obtain⟨r,z,rfl⟩:∃ r z,ns=r ++ [z]:=⟨ns.dropLast,ns.getLast hne,(bP hne).symm⟩
 simp
theorem Am {ns:List Int}(hne:ns≠ []):oth ((ns.reverse.map oth).getLastD 0)=ns.headD 0:=by
 obtain⟨h,r,rfl⟩:∃ h r,ns=h::r:=by cases ns with |nil=>exact absurd rfl hne |cons x r=>exact⟨x,r,rfl⟩
 simp[kC]
theorem Bv {l:Ln}{ns:List Int}(hne:ns≠ []):mvs l (ns.reverse.map oth)=((fr l ns (ns.headD 0)).map (jw ns)).map rH++((fr l ns (oth (ns.getLastD 0))).map (onM ns)).map rH:=by
 unfold mvs
 rw[zt,zt,As hne,Am hne,bx,bx]
 congr 1
 ·exact dW λe _=>(zQ e).symm
 ·exact dW λe _=>(Cs ns e).symm
theorem C0 {l:Ln}{ns:List Int}{m m':Mv}(h:m∈mvs l ns)(h':m'∈mvs l ns)(e:m.1=m'.1):m.2=m'.2:=by
 have hw:(Str.ofString "on")≠Str.ofString "back" :=by decide +kernel
 rcases az.mp h with z |z<;>rcases az.mp h' with z' |z'<;>
  obtain⟨x,_,rfl⟩:=ak.mp z<;>obtain⟨x',_,rfl⟩:=ak.mp z'
 ·have:x=x':=bX Prod.snd e
  rw[this]
 ·exact absurd (bX Prod.fst e) hw
 ·exact absurd (bX Prod.fst e).symm hw
 ·have:x=x':=bX Prod.snd e
  rw[this]
theorem rh {l:Ln}{ns:List Int}{m:Mv}(h:m∈mvs l ns):fnd (mvs l ns) m.1=some m.2:=by
 unfold fnd
 cases q:(mvs l ns).find? (λn=>decide (n.1=m.1))with
 |none=>exact absurd (List.find?_eq_none.mp q m h) (by simp)
 |some n=>
  have h1:=d8 q
  have h2:n.1=m.1:=by simpa using List.find?_some q
  show some n.2=some m.2
  rw[C0 h1 h h2]
theorem yQ (l:Ln)(pre:List (List Int)):∀ (run:List (Str×Int)) (ts:List (List Int)),ts≠ []->run.foldl (stp l) (some (pre++ts))=(run.foldl (stp l) (some ts)).map (pre ++ ·)
 |[],ts,_=>rfl
 |k::r,ts,hne=>by
  rw[cL,cL]
  have e:(pre++ts).getLastD []=ts.getLastD []:=by
   rw[bf,bf,List.getLast?_append]
   cases q:ts.getLast? with
   |none=>exact absurd (List.getLast?_eq_none_iff.mp q) hne
   |some x=>rfl
  show r.foldl (stp l) ((fnd (mvs l ((pre++ts).getLastD [])) k).map λb=>pre++ts ++ [b])=(r.foldl (stp l) ((fnd (mvs l (ts.getLastD [])) k).map λb=>ts ++ [b])).map (pre ++ ·)
  rw[e]
  cases fnd (mvs l (ts.getLastD [])) k with
  |none=>show r.foldl (stp l) none=(r.foldl (stp l) none).map _;rw[rL];rfl
  |some b=>
   show r.foldl (stp l) (some (pre++ts ++ [b]))=(r.foldl (stp l) (some (ts ++ [b]))).map _
   rw[bY]
   exact yQ l pre r (ts ++ [b]) (by simp)
def und (k:Str×Int)(t:List Int):Str×Int:=if k.1=Str.ofString "on" then(Str.ofString "back",oth (t.headD 0))else(Str.ofString "on",t.getLastD 0)
def oQ (ts:List (List Int))(run:List (Str×Int)):List (Str×Int):=(List.range run.length).reverse.map λi=>und (run.getD i (Str.ofString "",0)) (ts.getD i [])
theorem pV {ts:List (List Int)}{run:List (Str×Int)}{c b:List Int}{k:Str×Int}(hl:ts.length=run.length+1)(hb:ts.getLastD []=b):oQ (ts ++ [c]) (run ++ [k])=und k b::oQ ts run:=by
 unfold oQ
 rw[ai,aE,List.range_succ,cj,List.reverse_singleton,List.singleton_append,aQ]
 congr 1
 ·have e1:(run ++ [k]).getD run.length (Str.ofString "",0)=k:=by
   rw[aG,aw (av _),aV];rfl
  have e2:(ts ++ [c]).getD run.length []=b:=by
   rw[aG,aj (by omega),<-hb,bf,cy,hl]
   rfl
  rw[e1,e2]
 ·refine dW λi hi=>?_
  have hi:i<run.length:=by simpa using hi
  rw[aG,aj hi,aG,aj (by omega),<-aG,<-aG]
theorem yP {l:Ln}{b:List Int}{m:Mv}(ok:fb l)(T:fT l b)(hne:b≠ [])(hm:m∈mvs l b):((und m.1 b,b):Mv)∈mvs l m.2:=by
 have hw:¬(Str.ofString "back")=Str.ofString "on" :=by decide +kernel
 rcases az.mp hm with z |z
 ·obtain⟨e,he,rfl⟩:=ak.mp z
  have h:=Cq ok T hne he
  unfold und
  rw[aL (show(onM b e).1.1=Str.ofString "on" from rfl)]
  exact h
 ·obtain⟨e,he,rfl⟩:=ak.mp z
  have h:=zM ok T hne he
  unfold und
  rw[aH (show ¬(jw b e).1.1=Str.ofString "on" from hw)]
  exact h
structure zI (l:Ln)(ns:List Int)(run:List (Str×Int))(ts:List (List Int))(b:List Int):Prop where
 go:wkl l ns run=some ts
 len:ts.length=run.length+1
 last:ts.getLastD []=b
 ok:∀ t∈ts,fT l t/\t.length=ns.length/\t≠ []
 step:∀ (i:Nat) k t u,run[i]? = some k->ts[i]? = some t->ts[i+1]? = some u->fnd (mvs l t) k=some u
 back:wkl l b (oQ ts run)=some ts.reverse
 words:∀ k∈oQ ts run,(k.1=Str.ofString "on" \/k.1=Str.ofString "back")/\0<=k.2/\k.2<2*l.1
theorem zI.NH {l:Ln}{ns:List Int}{run:List (Str×Int)}{ts:List (List Int)}{b:List Int}(h:zI l ns run ts b):b∈ts:=by
 have h1:ts≠ []:=λe=>by have:=h.len;rw[e]at this;simp at this
 rw[<-h.last,bf]
 rw[List.getLast?_eq_some_getLast h1]
 exact List.getLast_mem h1
theorem jN.trail {l:Ln}{ns:List Int}(ok:fb l)(T:fT l ns)(hne:ns≠ []){run:List (Str×Int)}{b:List Int}(h:jN l ns run b):∃ ts,zI l ns run ts b:=by
 induction h with
 |nil=>exact⟨[ns],rfl,rfl,rfl,λt ht=>by rw[bh.mp ht];exact⟨T,rfl,hne⟩,λi k t u hk=>by simp at hk,rfl,λk hk=>by simp[oQ]at hk⟩
 |@snoc run b m h hm ih=>
  obtain⟨ts,R⟩:=ih
  obtain⟨Tb,bl,bne⟩:=R.ok b R.NH
  obtain⟨Tm,ml,mne⟩:=vt ok Tb bne hm
  have hu:=yP ok Tb bne hm
  refine⟨ts ++ [m.2],?_,by rw[ai,R.len,ai];rfl,?_,λt ht=>?_,λi k t u hk ht hu=>?_,?_,?_⟩
  ·have e:=R.go
   unfold wkl at e ⊢
   rw[bJ,e]
   show(fnd (mvs l (ts.getLastD [])) m.1).map (λb=>ts ++ [b])=_
   rw[R.last,rh hm];rfl
  ·rw[bf,List.getLast?_append];rfl
  ·rcases az.mp ht with z |z
   ·exact R.ok t z
   ·rw[bh.mp z];exact⟨Tm,ml.trans bl,mne⟩
  ·have hl:=R.len
   by_cases hi:i<run.length
   ·rw[aj hi]at hk
    rw[aj (by omega)]at ht hu
    exact R.step i k t u hk ht hu
   ·have h1:i<(run ++ [m.1]).length:=(ah.mp hk).1
    rw[ai,aE]at h1
    have e:i=run.length:=by omega
    subst e
    rw[aw (av _),aV]at hk
    cases hk
    rw[aw (by omega),hl,aV]at hu
    cases hu
    rw[aj (by omega)]at ht
    have e2:t=b:=by
     have h2:=R.last
     rw[bf,cy,hl,Nat.add_sub_cancel,ht]at h2
     exact h2
    rw[e2];exact rh hm
  ·rw[pV R.len R.last,cj]
   unfold wkl
   rw[cL]
   show(oQ ts run).foldl (stp l) ((fnd (mvs l m.2) (und m.1 b)).map λc=>[m.2] ++ [c])=_
   have hf:=rh hu
   have hf:fnd (mvs l m.2) (und m.1 b)=some b:=hf
   rw[hf]
   show(oQ ts run).foldl (stp l) (some ([m.2] ++ [b]))=_
   rw[yQ l [m.2] _ [b] (by simp)]
   have e:=R.back
   unfold wkl at e
   rw[e];rfl
  ·rw[pV R.len R.last]
   intro k hk
   rcases aP.mp hk with rfl |hk
   ·exact kP ok hu
   ·exact R.words k hk
open TS
def ni (l:Ln)(ns:List Int)(es:List Ent):Prop:=∀ e∈es,match e.2 with
 |none=>e.1=ns
 |some (t,k)=>(k,e.1)∈mvs l t
theorem ni.scan {l:Ln}{ns t:List Int} :∀ {ms:List Mv}{es:List Ent},(∀ m∈ms,m∈mvs l t)->ni l ns es->ni l ns (fR t ms es)
 |[],_,_,h=>h
 |m::r,es,hm,h=>by
  refine ni.scan (ms:=r) (λx hx=>hm x (aA _ hx)) ?_
  unfold lU
  split
  ·exact h
  ·intro e he
   rcases az.mp he with z |z
   ·exact h e z
   ·rw[bh.mp z]
    exact hm m aC
theorem mQ (l:Ln)(ns:List Int):∀ i,ni l ns (eT l ns i)
 | 0=>λe he=>by have z:e=(ns,none):=(by simpa [eT]using he);rw[z]
 |i+1=>by
  have ih:=mQ l ns i
  rw[eT]
  split
  ·exact ni.scan (λm hm=>hm) ih
  ·exact ih
structure Way (l:Ln)(ns:List Int)(run:List (Str×Int))(bs:List (List Int)):Prop where
 len:bs.length=run.length+1
 first:bs[0]? = some ns
 step:∀ (j:Nat) k b b',run[j]? = some k->bs[j]? = some b->bs[j+1]? = some b'->(k,b')∈mvs l b
theorem Way.snoc {l:Ln}{ns:List Int}{run:List (Str×Int)}{bs:List (List Int)}{m:Mv}(h:Way l ns run bs){b:List Int}(hb:bs[run.length]? = some b)(hm:m∈mvs l b):Way l ns (run ++ [m.1]) (bs ++ [m.2]):=by
 refine⟨by rw[ai,ai,h.len];rfl,?_,λj k c c' hk hc hc'=>?_⟩
 ·rw[aj (by rw[h.len];omega)];exact h.first
 ·by_cases hj:j<run.length
  ·rw[aj hj]at hk
   rw[aj (by rw[h.len];omega)]at hc hc'
   exact h.step j k c c' hk hc hc'
  ·have hj2:j=run.length:=by
    have:=(ah.mp hk).1
    rw[ai,aE]at this
    omega
   subst hj2
   rw[aw (av _),aV]at hk
   rw[aj (by rw[h.len];omega),hb]at hc
   rw[aw (by rw[h.len];omega),h.len,aV]at hc'
   cases hk;cases hc;cases hc'
   exact hm
theorem sh {l:Ln}{ns:List Int}{es:List Ent}(bm:ni l ns es){t:List Int}{run:List (Str×Int)}(h:lC es t run):∃ bs,Way l ns run bs/\bs[run.length]? = some t:=by
 induction h with
 |@nil t hm=>
  have:t=ns:=bm _ hm
  subst this
  exact⟨[t],⟨rfl,rfl,λj k b b' hk=>by simp at hk⟩,rfl⟩
 |@snoc t' t k r hm _ ih=>
  obtain⟨bs,W,hb⟩:=ih
  have hk:(k,t')∈mvs l t:=bm _ hm
  refine⟨bs ++ [t'],W.snoc (m:=(k,t')) hb hk,?_⟩
  rw[ai,aE,aw (by rw[W.len];omega),W.len,aV]
  rfl
end TL
namespace TL
open PySem PySem.Spec PyProof.Rows L2
abbrev Sta:=List Int×Str
abbrev Bk:=Option (Sta×Option (Str×Int))
abbrev EnS:=Sta×Bk
def kS (s:Sta):SK:=(kyI s.1,.inr s.2)
theorem vA {a b:Sta}(h:kS a=kS b):a=b:=by
 have h1:=qZ (bX Prod.fst h)
 have h2:a.2=b.2:=Sum.inr.inj (bX Prod.snd h)
 exact cZ h1 h2
def je (t:List Int)(w:Str)(x:List EnS×List Sta)(m:Mv):List EnS×List Sta:=
 open Classical in if m.1.1=w/\(m.2,w)∉x.1.map (·.1)then(x.1 ++ [((m.2,w),some ((t,w),some m.1))],x.2 ++ [(m.2,w)])else x
def fY (t:List Int)(w:Str)(ms:List Mv)(x:List EnS×List Sta):List EnS×List Sta:=ms.foldl (je t w) x
theorem xX {t:List Int}{w:Str}{ms:List Mv}{x:List EnS×List Sta}{j:Nat}{m:Mv}(h:ms[j]? = some m):fY t w (ms.take (j+1)) x=je t w (fY t w (ms.take j) x) m:=by
 unfold fY
 rw[aZ,h,bJ]
 rfl
theorem sZ (t:List Int)(w:Str)(x:List EnS×List Sta)(m:Mv):x.2 <+:(je t w x m).2/\x.1 <+:(je t w x m).1:=by
 unfold je
 split
 ·exact⟨cJ _ _,cJ _ _⟩
 ·exact⟨bD _,bD _⟩
theorem kK (t:List Int)(w:Str):∀ (ms:List Mv) (x:List EnS×List Sta),x.2 <+:(fY t w ms x).2/\x.1 <+:(fY t w ms x).1
 |[],x=>⟨bD _,bD _⟩
 |m::r,x=>by
  have h1:=sZ t w x m
  have h2:=kK t w r (je t w x m)
  exact⟨h1.1.trans h2.1,h1.2.trans h2.2⟩
theorem rQ (t:List Int)(w:Str)(ms:List Mv)(x:List EnS×List Sta)(j:Nat):(fY t w (ms.take j) x).2 <+:(fY t w ms x).2/\(fY t w (ms.take j) x).1 <+:(fY t w ms x).1:=by
 have:=kK t w (ms.drop j) (fY t w (ms.take j) x)
 have e:fY t w (ms.drop j) (fY t w (ms.take j) x)=fY t w ms x:=by
  unfold fY
  rw[<-bJ,dG]
 rw[e]at this
 exact this
def goS (l:Ln)(x:List EnS×List Sta):Nat->List EnS×List Sta
 | 0=>x
 |i+1=>match (goS l x i).2[i]? with
  |some s=>fY s.1 s.2 (mvs l s.1) (goS l x i)
  |none=>goS l x i
theorem xo {l:Ln}{x:List EnS×List Sta}{i:Nat}{s:Sta}(h:(goS l x i).2[i]? = some s):goS l x (i+1)=fY s.1 s.2 (mvs l s.1) (goS l x i):=by
 rw[goS,h]
theorem tZ {l:Ln}{P:Sta->Prop}{t:List Int}{w:Str}(h:∀ m∈mvs l t,P (m.2,w)):∀ {ms:List Mv}{x:List EnS×List Sta},(∀ m∈ms,m∈mvs l t)->(∀ s∈x.2,P s)->∀ s∈(fY t w ms x).2,P s
 |[],x,_,hx=>hx
 |m::r,x,hm,hx=>by
  refine tZ h (ms:=r) (x:=je t w x m) (λy hy=>hm y (aA _ hy)) ?_
  unfold je
  split
  ·intro s hs
   rcases az.mp hs with z |z
   ·exact hx s z
   ·rw[bh.mp z];exact h m (hm m aC)
  ·exact hx
theorem rg {l:Ln}{P:Sta->Prop}(hP:∀ s m,P s->m∈mvs l s.1->P (m.2,s.2)){x:List EnS×List Sta}(hx:∀ s∈x.2,P s):∀ i,∀ s∈(goS l x i).2,P s
 | 0=>hx
 |i+1=>by
  rw[goS]
  split
  ·rename_i s hs
   exact tZ (λm hm=>hP s m (rg hP hx i s (ay hs)) hm) (λm hm=>hm) (rg hP hx i)
  ·exact rg hP hx i
def yM (K:PySem.W.Frag)(H:Hp):Bk->V->Prop
 |none,v=>v = .non
 |some (s,none),v=>∃ ad c,v = .ref ad/\H ad=some (.tup [.ref c,.non])/\i7 H c (kS s)
 |some (s,some m),v=>∃ ad c p1,v = .ref ad/\H ad=some (.tup [.ref c,.ref p1])/\i7 H c (kS s)/\SqT K H p1 [.str m.1,.int m.2]
theorem yM.to {K:PySem.W.Frag}{H H':Hp}(f:∀ b ys,H b=some (.tup ys)->H' b=some (.tup ys))(g:∀ b ys,SqT K H b ys->SqT K H' b ys):∀ {b:Bk}{v:V},yM K H b v->yM K H' b v
 |none,v,h=>h
 |some (s,none),v,h=>by
  obtain⟨ad,c,e,h1,h2⟩:=h
  exact⟨ad,c,e,f _ _ h1,h2.ke f⟩
 |some (s,some m),v,h=>by
  obtain⟨ad,c,p1,e,h1,h2,h3⟩:=h
  exact⟨ad,c,p1,e,f _ _ h1,h2.ke f,g _ _ h3⟩
def kvN (es:List EnS)(cs:List Addr)(vs:List V):KvN:=(es.zip (cs.zip vs)).map λp=>(kS p.1.1,p.2.1,p.2.2)
structure StN (P:Program)(w:World)(K:PySem.W.Frag)(H:Hp)(d:Addr)(es:List EnS)(cs:List Addr)(vs:List V):Prop where
 dn:DN P w H d (kvN es cs vs)
 lc:cs.length=es.length
 lv:vs.length=es.length
 each:∀ (i:Nat) e v,es[i]? = some e->vs[i]? = some v->yM K H e.2 v
structure StL (H:Hp)(p:Addr)(as:List Addr)(ss:List Sta):Prop where
 at_:H p=some (.lst (as.map V.ref))
 len:as.length=ss.length
 each:∀ (i:Nat) a s,as[i]? = some a->ss[i]? = some s->i7 H a (kS s)
theorem StL.same {H H':Hp}{p:Addr}{as:List Addr}{ss:List Sta}(h:StL H p as ss)(s:eQ H H'):StL H' p as ss:=⟨s _ _ h.at_,h.len,λi a t h1 h2=>(h.each i a t h1 h2).same s⟩
theorem StN.same {P:Program}{w:World}{K:PySem.W.Frag}{H H':Hp}{d:Addr}{es:List EnS}{cs:List Addr}{vs:List V}(h:StN P w K H d es cs vs)(s:eQ H H'):StN P w K H' d es cs vs:=
 ⟨h.dn.same s,h.lc,h.lv,λi e v h1 h2=>(h.each i e v h1 h2).to (λb ys q=>s _ _ q) λb ys q=>fv s q⟩
theorem zk:∀ (es:List EnS) (cs:List Addr) (vs:List V),cs.length=es.length->vs.length=es.length->∀ s:Sta,(valN (kvN es cs vs) (kS s)).isSome=true↔s∈es.map (·.1)
 |[],_,_,_,_,s=>by simp[kvN,valN]
 |e::es,[],_,h,_,s=>by simp at h
 |e::es,c::cs,[],_,h,s=>by simp at h
 |e::es,c::cs,v::vs,h1,h2,s=>by
  have e0:kvN (e::es) (c::cs) (v::vs)=(kS e.1,c,v)::kvN es cs vs:=rfl
  have ih:=zk es cs vs (by simpa using h1) (by simpa using h2) s
  rw[e0,aQ,aP]
  by_cases f:e.1=s
  ·rw[iP (p:=(kS e.1,c,v)) (by rw[f])]
   simp[f]
  ·rw[iQ (p:=(kS e.1,c,v)) (λz=>f (vA z)),ih]
   exact⟨λz=>.inr z,λz=>z.resolve_left λy=>f y.symm⟩
theorem StN.mem {P:Program}{w:World}{K:PySem.W.Frag}{H:Hp}{d:Addr}{es:List EnS}{cs:List Addr}{vs:List V}(h:StN P w K H d es cs vs)(s:Sta):(valN (kvN es cs vs) (kS s)).isSome=true↔s∈es.map (·.1):=zk es cs vs h.lc h.lv s
theorem zl {es:List EnS}{cs:List Addr}{vs:List V}(h1:cs.length=es.length)(h2:vs.length=es.length):(kvN es cs vs).length=es.length:=by
 unfold kvN
 rw[aa,cf,cf]
 omega
theorem Bz {es:List EnS}{cs:List Addr}{vs:List V}(h1:cs.length=es.length)(h2:vs.length=es.length)(e:EnS)(c:Addr)(v:V):kvN (es ++ [e]) (cs ++ [c]) (vs ++ [v])=kvN es cs vs ++ [(kS e.1,c,v)]:=by
 unfold kvN
 rw[List.zip_append (by omega),List.zip_append (by rw[cf];omega),ax]
 rfl
theorem StN.push {P:Program}{w:World}{K:PySem.W.Frag}{H:Hp}{d c:Addr}{es:List EnS}{cs:List Addr}{vs:List V}{e:EnS}{v:V}(h:StN P w K H d es cs vs)(hn:e.1∉es.map (·.1))(hc:i7 H c (kS e.1))(hb:yM K H e.2 v):
  StN P w K (upd H d (nD P w d (putN (kvN es cs vs) (kS e.1) c v))) d (es ++ [e]) (cs ++ [c]) (vs ++ [v]):=by
 have hv:¬(valN (kvN es cs vs) (kS e.1)).isSome=true:=λz=>hn ((h.mem e.1).mp z)
 have ep:putN (kvN es cs vs) (kS e.1) c v=kvN (es ++ [e]) (cs ++ [c]) (vs ++ [v]):=by
  rw[Bz h.lc h.lv]
  unfold putN
  rw[aH hv]
 have dp:=h.dn.put (v:=v) hc
 have f:∀ b ys,H b=some (.tup ys)->(upd H d (nD P w d (putN (kvN es cs vs) (kS e.1) c v))) b=some (.tup ys):=λb ys q=>Bt h.dn.at_ q
 have g:∀ b ys,SqT K H b ys->SqT K (upd H d (nD P w d (putN (kvN es cs vs) (kS e.1) c v))) b ys:=λb ys q=>by
  rcases q with(q |⟨o,q⟩)|q
  ·exact .inl (.inl (f _ _ q))
  ·exact .inl (.inr ⟨o,by rw[eL (fz q h.dn.at_ (λz=>nomatch z))];exact q⟩)
  ·exact .inr q
 refine⟨?_,by rw[ai,ai,h.lc];rfl,by rw[ai,ai,h.lv];rfl,λi e' v' he hv'=>?_⟩
 ·rw[<-ep];exact dp
 ·by_cases hi:i<es.length
  ·rw[aj hi]at he
   rw[aj (by rw[h.lv];exact hi)]at hv'
   exact(h.each i e' v' he hv').to f g
  ·have hi2:i=es.length:=by
    have:=(ah.mp he).1
    rw[ai,aE]at this
    omega
   rw[hi2,aw (av _),aV]at he
   rw[hi2,<-h.lv,aw (av _),aV]at hv'
   cases he
   cases hv'
   exact hb.to f g
theorem StL.push {H H':Hp}{p a:Addr}{as:List Addr}{ss:List Sta}{s:Sta}(h:StL H p as ss)(f:∀ b ys,H b=some (.tup ys)->H' b=some (.tup ys))(hp:H' p=some (.lst (as.map V.ref ++ [.ref a])))(ha:i7 H' a (kS s)):StL H' p (as ++ [a]) (ss ++ [s]):=by
 refine⟨by rw[hp,ax];rfl,by rw[ai,ai,h.len];rfl,λi b t hb ht=>?_⟩
 by_cases hi:i<as.length
 ·rw[aj hi]at hb
  rw[aj (by rw[<-h.len];exact hi)]at ht
  exact(h.each i b t hb ht).ke f
 ·have hi2:i=as.length:=by
   have:=(ah.mp hb).1
   rw[ai,aE]at this
   omega
  rw[hi2,aw (av _),aV]at hb
  rw[hi2,h.len,aw (av _),aV]at ht
  cases hb
  cases ht
  exact ha
theorem lp {A:Around}{k:Nat}(hr:mH k A):A.units+2<cLine:=cx (Nat.add_le_add_left (by decide:2<=64) _) hr.units
theorem wI {X:Cx}{o i:Expr}{pos:Pos}{td ty:TE}{P:Program}{w:World}(eP:X.prog=P)(ew:X.w=w)(hu:X.A.units+2<cLine)(ho:PE X o td)(hi:PE X i ty)(hs:Cf i):PE X (.Subscript o i pos) (DF P w td ty):=by subst eP ew;exact pE hu ho hi hs
def ow (w:Str):Str:=if w=Str.ofString "on" then Str.ofString "back" else Str.ofString "on"
def isW (w:Str):Prop:=w=Str.ofString "on" \/w=Str.ofString "back"
theorem isW.ow {w:Str}(h:isW w):isW (ow w):=by
 unfold TL.ow
 split
 ·exact .inr rfl
 ·exact .inl rfl
theorem wM {w:Str}(h:isW w):ow (ow w)=w:=by
 have hn:¬Str.ofString "back" = Str.ofString "on" :=by decide +kernel
 rcases h with h |h
 ·rw[h];unfold ow;rw[aL rfl,aH hn]
 ·rw[h];unfold ow;rw[aH hn,aL rfl]
theorem Gh {w:Str}(h:isW w):ow w≠w:=by
 have hn:¬Str.ofString "back" = Str.ofString "on" :=by decide +kernel
 rcases h with h |h
 ·rw[h];unfold ow;rw[aL rfl];exact hn
 ·rw[h];unfold ow;rw[aH hn];exact λz=>hn z.symm
structure DB (P:Program)(w:World)(K:PySem.W.Frag)(mg:Str->Option Value)(od:Addr):Prop where
 m:mg "OTHER_WORD" = some (.ref od)
 d:∀ h:Heap,K.In h->∃ t u:Tok,h.DictOf (gq P w) od [(.inr (Str.ofString "on"),.str (Str.ofString "back") t),(.inr (Str.ofString "back"),.str (Str.ofString "on") u)]
def tOw (ty:TE):TE:=λσ H Q=>ty σ H λy H1=>∃ w,y = .str w/\isW w/\Q (.str (ow w)) H1
theorem Gf {X:Cx}{i:Expr}{p pos:Pos}{ty:TE}{od:Addr}(O:DB X.prog X.w X.K X.mg od)(hg:Gl X "OTHER_WORD")(hi:PE X i ty)(hs:Cf i):PE X (.Subscript (.Name "OTHER_WORD" p) i pos) (tOw ty):=by
 intro pins s σ H Q I h
 have ho:PE X (.Name "OTHER_WORD" p) (tC (.ref od)):=zd hg O.m rfl
 refine uH d7.lookup hs (thn (ho pins s σ H _ I (show tC (.ref od) σ H (λx H1=>x = .ref od/\H1=H) from⟨rfl,rfl⟩)) λu s1 ⟨x,H1,I1,rx,ex,eH⟩=>?_)
 subst ex eH
 obtain rfl:u=Value.ref od:=rx
 refine thn (hi pins s1 σ H1 _ I1 h) λiv s2 ⟨y,H2,I2,ry,w,ey,hw,q⟩=>?_
 subst ey
 obtain⟨t,u,dd⟩:=O.d s2.heap I2.kIn
 have hT:s2.TypeIs (.ref od) "dict" :=by
  obtain⟨o,es,ep,h1,h2,_⟩:=dd
  exact⟨o,h1,h2.1⟩
 refine⟨hT,?_⟩
 have hn:¬Str.ofString "on" = Str.ofString "back" :=by decide +kernel
 rcases hw with rfl |rfl
 ·refine wpAny_getItem_of (k:=.inr (Str.ofString "on")) (nG (P:=X.prog) (w:=X.w) (k:=.inr (Str.ofString "on")) ry) dd.mapOf (v:=.str (Str.ofString "back") t) ?_ ⟨.str (ow (Str.ofString "on")),H2,I2.tok _,?_,q⟩
  ·unfold valueAt;simp
  ·unfold ow;rw[aL rfl];exact⟨t,rfl⟩
 ·refine wpAny_getItem_of (k:=.inr (Str.ofString "back")) (nG (P:=X.prog) (w:=X.w) (k:=.inr (Str.ofString "back")) ry) dd.mapOf (v:=.str (Str.ofString "on") u) ?_ ⟨.str (ow (Str.ofString "back")),H2,I2.tok _,?_,q⟩
  ·unfold valueAt
   rw[List.find?_cons_of_neg (by simp;exact hn),List.find?_cons_of_pos (by simp)]
   rfl
  ·unfold ow;rw[aH (λz=>hn z.symm)];exact⟨u,rfl⟩
def gX (x:List EnS×List Sta)(s:Sta):List EnS×List Sta:=
 open Classical in if(s.1,ow s.2)∉x.1.map (·.1)then(x.1 ++ [((s.1,ow s.2),some (s,none))],x.2 ++ [(s.1,ow s.2)])else x
def chN (ss:List Sta)(es:List EnS):List EnS×List Sta:=ss.foldl gX (es,[])
theorem B4 {ss:List Sta}{es:List EnS}{j:Nat}{s:Sta}(h:ss[j]? = some s):chN (ss.take (j+1)) es=gX (chN (ss.take j) es) s:=by
 unfold chN
 rw[aZ,h,bJ]
 rfl
theorem B3 (x:List EnS×List Sta)(s:Sta):(gX x s).1.length<=x.1.length+1/\(gX x s).2.length<=x.2.length+1:=by
 unfold gX
 split
 ·rw[ai,ai];exact⟨av _,av _⟩
 ·exact⟨Nat.le_succ _,Nat.le_succ _⟩
theorem zF (es:List EnS):∀ (ss:List Sta) (x:List EnS×List Sta),(ss.foldl gX x).1.length<=x.1.length+ss.length/\(ss.foldl gX x).2.length<=x.2.length+ss.length
 |[],x=>⟨av _,av _⟩
 |s::r,x=>by
  have h1:=B3 x s
  have h2:=zF es r (gX x s)
  rw[cL,bc]
  omega
theorem xm {l:Ln}{x:List EnS×List Sta}{i:Nat}(h:(goS l x i).2.length<=i):∀ k,goS l x (i+k)=goS l x i
 | 0=>rfl
 |k+1=>by
  have ih:=xm h k
  rw[<-Nat.add_assoc,goS,ih,bH (by omega)]
def goF (l:Ln)(x:List EnS×List Sta):List EnS×List Sta:=goS l x 1000
theorem Fi {l:Ln}{x:List EnS×List Sta}{i:Nat}(h:(goS l x i).2.length=i)(hi:i<=1000):goF l x=goS l x i:=by
 have:=xm (Nat.le_of_eq h) (1000-i)
 rw[show i+(1000-i)=1000 by omega]at this
 exact this
def onW:Str:=Str.ofString "on"
def gQ:Str:=Str.ofString "back"
def r0 (tr:List Int):List EnS×List Sta:=([((tr,onW),none),((tr,gQ),none)],[(tr,onW),(tr,gQ)])
def rnd (l:Ln)(tr:List Int):Nat->List EnS×List Sta
 | 0=>r0 tr
 |r+1=>chN (goF l (rnd l tr r)).2 (goF l (rnd l tr r)).1
def cnt (l:Ln)(tr:List Int):Nat->Sta->Option Nat
 | 0,_=>none
 |r+1,s=>open Classical in if s∈(goF l (rnd l tr r)).2 then some r else cnt l tr r s
structure RO (W:List (List Int))(x:List EnS×List Sta):Prop where
 nd:(x.1.map (·.1)).Nodup
 inW:∀ s∈x.1.map (·.1),s.1∈W/\isW s.2
 sub:∀ s∈x.2,s∈x.1.map (·.1)
 nd2:x.2.Nodup
theorem RO.push {W:List (List Int)}{x:List EnS×List Sta}{s:Sta}{b:Bk}(h:RO W x)(hn:s∉x.1.map (·.1))(hw:s.1∈W/\isW s.2):RO W (x.1 ++ [(s,b)],x.2 ++ [s]):=by
 refine⟨?_,λt ht=>?_,λt ht=>?_,?_⟩
 ·show((x.1 ++ [(s,b)]).map (·.1)).Nodup
  rw[ax]
  exact bN.mpr ⟨h.nd,by simp,λa ha b hb=>by simp at hb;subst hb;exact λz=>hn (z ▸ ha)⟩
 ·rw[show((x.1 ++ [(s,b)],x.2 ++ [s]):List EnS×List Sta).1=x.1 ++ [(s,b)] from rfl,ax]at ht
  rcases az.mp ht with z |z
  ·exact h.inW t z
  ·have:t=s:=by simpa using z
   rw[this];exact hw
 ·show t∈(x.1 ++ [(s,b)]).map (·.1)
  rw[ax]
  rcases az.mp ht with z |z
  ·exact aK _ (h.sub t z)
  ·have:t=s:=by simpa using z
   rw[this];exact aD _ (by simp)
 ·exact bN.mpr ⟨h.nd2,by simp,λa ha b hb=>by simp at hb;subst hb;exact λz=>hn (z ▸ h.sub a ha)⟩
theorem RO.add {W:List (List Int)}{x:List EnS×List Sta}{t:List Int}{w:Str}{m:Mv}(h:RO W x)(hm:m.2∈W)(hw:isW w):RO W (je t w x m):=by
 unfold je
 split
 ·rename_i c
  exact h.push c.2 ⟨hm,hw⟩
 ·exact h
theorem RO.scan {W:List (List Int)}{t:List Int}{w:Str}(hw:isW w):∀ {ms:List Mv}{x:List EnS×List Sta},RO W x->(∀ m∈ms,m.2∈W)->RO W (fY t w ms x)
 |[],_,h,_=>h
 |m::r,x,h,hm=>RO.scan hw (ms:=r) (h.add (hm m aC) hw) λy hy=>hm y (aA _ hy)
theorem RO.go {l:Ln}{W:List (List Int)}(fN:∀ t∈W,∀ m∈mvs l t,m.2∈W){x:List EnS×List Sta}(h:RO W x):∀ i,RO W (goS l x i)
 | 0=>h
 |i+1=>by
  have ih:=RO.go fN h i
  rw[goS]
  split
  ·rename_i s hs
   have:=ih.inW s (ih.sub s (ay hs))
   exact ih.scan this.2 (fN s.1 this.1)
  ·exact ih
theorem RO.chg {W:List (List Int)}{x:List EnS×List Sta}{s:Sta}(h:RO W x)(hs:s.1∈W/\isW s.2):RO W (gX x s):=by
 unfold gX
 split
 ·rename_i c
  exact h.push c ⟨hs.1,hs.2.ow⟩
 ·exact h
theorem RO.B0 {W:List (List Int)} :∀ {ss:List Sta}{x:List EnS×List Sta},RO W x->(∀ s∈ss,s.1∈W/\isW s.2)->RO W (ss.foldl gX x)
 |[],_,h,_=>h
 |s::r,x,h,hs=>RO.B0 (ss:=r) (h.chg (hs s aC)) λy hy=>hs y (aA _ hy)
theorem RO.change {W:List (List Int)}{x:List EnS×List Sta}(h:RO W x):RO W (chN x.2 x.1):=
 RO.B0 (x:=(x.1,[])) ⟨h.nd,h.inW,λs hs=>(by cases hs),dw⟩ λs hs=>h.inW s (h.sub s hs)
theorem RO.rnd {l:Ln}{W:List (List Int)}(fN:∀ t∈W,∀ m∈mvs l t,m.2∈W){tr:List Int}(ht:tr∈W):∀ r,RO W (rnd l tr r)
 | 0=>by
  have hn:onW≠gQ:=by unfold onW gQ;decide +kernel
  refine⟨?_,λs hs=>?_,λs hs=>hs,?_⟩
  ·show[(tr,onW),(tr,gQ)].Nodup
   simp[hn]
  ·have hs:s=(tr,onW)\/s=(tr,gQ):=by
    have:s∈ [(tr,onW),(tr,gQ)]:=hs
    simpa using this
   rcases hs with e |e
   ·rw[e];exact⟨ht,.inl rfl⟩
   ·rw[e];exact⟨ht,.inr rfl⟩
  ·show[(tr,onW),(tr,gQ)].Nodup
   simp[hn]
 |r+1=>(RO.go fN (RO.rnd fN ht r) 1000).change
theorem oN {α:Type} :∀ {xs ys:List α},xs.Nodup->(∀ x∈xs,x∈ys)->xs.length<=ys.length
 |[],_,_,_=>aO _
 |x::xs,ys,hn,hs=>by
  obtain⟨a,b,e⟩:=List.append_of_mem (hs x aC)
  have hx:=bL.mp hn
  have:=oN (xs:=xs) (ys:=a++b) hx.2 λy hy=>by
   have h1:=hs y (aA _ hy)
   rw[e]at h1
   rcases az.mp h1 with z |z
   ·exact aK _ z
   ·rcases aP.mp z with z |z
    ·exact absurd hy (by rw[z];exact hx.1)
    ·exact aD _ z
  rw[e,ai,bc,bc]
  rw[ai]at this
  omega
theorem RO.len {W:List (List Int)}{x:List EnS×List Sta}(h:RO W x):x.1.length<=2*W.length/\x.2.length<=2*W.length:=by
 have big:∀ ys:List Sta,ys.Nodup->(∀ s∈ys,s∈x.1.map (·.1))->ys.length<=2*W.length:=λys hy hs=>by
  have Lx:∀ s∈ys,s∈W.map (λt=>(t,onW))++W.map (λt=>(t,gQ)):=λs hs'=>by
   obtain⟨h1,h2⟩:=h.inW s (hs s hs')
   rcases h2 with e |e
   ·exact aK _ (ak.mpr ⟨s.1,h1,cZ rfl e.symm⟩)
   ·exact aD _ (ak.mpr ⟨s.1,h1,cZ rfl e.symm⟩)
  have:=oN hy Lx
  rw[ai,aa,aa]at this
  omega
 refine⟨?_,big x.2 h.nd2 h.sub⟩
 have:=big (x.1.map (·.1)) h.nd λs hs=>hs
 rwa [aa]at this
theorem ot (l:Ln)(x:List EnS×List Sta):∀ i,x.1 <+:(goS l x i).1
 | 0=>bD _
 |i+1=>by
  have ih:=ot l x i
  rw[goS]
  split
  ·rename_i s _
   exact ih.trans (kK s.1 s.2 (mvs l s.1) (goS l x i)).2
  ·exact ih
theorem uy:∀ (ss:List Sta) (x:List EnS×List Sta),(ss.foldl gX x).1.length+x.2.length=x.1.length+(ss.foldl gX x).2.length
 |[],x=>rfl
 |s::r,x=>by
  have h2:=uy r (gX x s)
  have h1:(gX x s).1.length+x.2.length=x.1.length+(gX x s).2.length:=by
   unfold gX
   split
   ·simp only[ai,aE];omega
   ·rfl
  rw[cL]
  omega
theorem B5 (ss:List Sta)(es:List EnS):(chN ss es).1.length=es.length+(chN ss es).2.length:=by
 have:=uy ss (es,[])
 simpa [chN]using this
theorem Bu {P:Program}{w:World}{H:Hp}{a b:Addr}{kvs:KvN}{ys:List V}(h:H a=some (nD P w a kvs))(e:H b=some (.tup ys)):b≠a:=fz e h (λz=>nomatch z)
theorem StN.other {P:Program}{w:World}{K:PySem.W.Frag}{H:Hp}{d c:Addr}{es:List EnS}{cs:List Addr}{us:List V}{kvs:KvN}{o:HO}(h:StN P w K H d es cs us)(hc:H c=some (nD P w c kvs))(dc:d≠c):StN P w K (upd H c o) d es cs us:=by
 have f:∀ b zs,H b=some (.tup zs)->(upd H c o) b=some (.tup zs):=λb zs q=>by rw[eL (Bu hc q)];exact q
 refine⟨⟨by rw[eL dc];exact h.dn.at_,λq hq=>(h.dn.keys q hq).ke f⟩,h.lc,h.lv,λi e v h1 h2=>(h.each i e v h1 h2).to f λb zs q=>?_⟩
 rcases q with(q |⟨o',q⟩)|q
 ·exact .inl (.inl (f _ _ q))
 ·exact .inl (.inr ⟨o',by rw[eL (fz q hc (λz=>nomatch z))];exact q⟩)
 ·exact .inr q
theorem StL.other {P:Program}{w:World}{H:Hp}{p c:Addr}{as:List Addr}{ss:List Sta}{kvs:KvN}{o:HO}(h:StL H p as ss)(hc:H c=some (nD P w c kvs)):StL (upd H c o) p as ss:=
 ⟨by rw[eL (fz h.at_ hc (λz=>nomatch z))];exact h.at_,h.len,λi a s h1 h2=>(h.each i a s h1 h2).ke λb zs q=>by rw[eL (Bu hc q)];exact q⟩
theorem DN.hid {P:Program}{w:World}{H:Hp}{d c:Addr}{kvs qN:KvN}(h:DN P w H c kvs)(hd:H d=some (nD P w d qN))(cd:c≠d):DN P w (hid d H) c kvs:=
 ⟨by rw[fV cd];exact h.at_,λq hq=>(h.keys q hq).ke λb zs z=>by rw[fV (Bu hd z)];exact z⟩
theorem t6 {H H4:Hp}{d:Addr}(s:eQ H H4)(hd:H d=none):eQ H (hid d H4):=λb o hb=>by
 have hbd:b≠d:=λz=>by rw[z,hd]at hb;cases hb
 rw[fV hbd];exact s _ _ hb
inductive jJ (es:List EnS):Sta->List (Str×Int)->Prop
 |nil {s:Sta} :(s,none)∈es->jJ es s []
 |ch {s s':Sta}{r:List (Str×Int)} :(s,some (s',none))∈es->jJ es s' r->jJ es s r
 |mv {s s':Sta}{k:Str×Int}{r:List (Str×Int)} :(s,some (s',some k))∈es->jJ es s' r->jJ es s (r ++ [k])
structure gM (es:List EnS):Prop where
 back:∀ (j:Nat) s s' b,es[j]? = some (s,some (s',b))->∃ i e,i<j/\es[i]? = some e/\e.1=s'
 ok:∀ (j:Nat) s s' k,es[j]? = some (s,some (s',some k))->PyData.strOk k.1=true
theorem gM.push {es:List EnS}{s s':Sta}{b:Option (Str×Int)}(h:gM es)(hs:s'∈es.map (·.1))(hb:∀ k,b=some k->PyData.strOk k.1=true):gM (es ++ [(s,some (s',b))]):=by
 refine⟨λj t t' c hj=>?_,λj t t' k hj=>?_⟩
 ·by_cases hi:j<es.length
  ·rw[aj hi]at hj
   obtain⟨i,e,h1,h2,h3⟩:=h.back j t t' c hj
   exact⟨i,e,h1,by rw[aj (by omega)];exact h2,h3⟩
  ·have hj2:j=es.length:=by
    have:=(ah.mp hj).1
    rw[ai,aE]at this
    omega
   rw[hj2,aw (av _),aV]at hj
   have hj:(s,some (s',b))=(t,some (t',c)):=by simpa using hj
   injection hj with e1 e2
   injection e2 with e2
   injection e2 with e2 e3
   obtain⟨e,he,ee⟩:=ak.mp hs
   obtain⟨i,hi',ei⟩:=aU.mp he
   exact⟨i,e,by omega,by rw[aj hi',af hi',ei],by rw[ee,e2]⟩
 ·by_cases hi:j<es.length
  ·rw[aj hi]at hj
   exact h.ok j t t' k hj
  ·have hj2:j=es.length:=by
    have:=(ah.mp hj).1
    rw[ai,aE]at this
    omega
   rw[hj2,aw (av _),aV]at hj
   have hj:(s,some (s',b))=(t,some (t',some k)):=by simpa using hj
   injection hj with e1 e2
   injection e2 with e2
   injection e2 with e2 e3
   exact hb k e3
theorem zR {l:Ln}{t:List Int}{m:Mv}(h:m∈mvs l t):PyData.strOk m.1.1=true:=tR l t m h
theorem gM.scan {l:Ln}{t:List Int}{w:Str} :∀ {ms:List Mv}{x:List EnS×List Sta},gM x.1->(t,w)∈x.1.map (·.1)->(∀ m∈ms,m∈mvs l t)->gM (fY t w ms x).1
 |[],_,h,_,_=>h
 |m::r,x,h,ht,hm=>by
  have h1:gM (je t w x m).1/\(t,w)∈(je t w x m).1.map (·.1):=by
   unfold je
   split
   ·exact⟨h.push ht λk e=>by cases e;exact zR (hm m aC),by rw[ax];exact aK _ ht⟩
   ·exact⟨h,ht⟩
  exact gM.scan (ms:=r) (x:=je t w x m) h1.1 h1.2 λy hy=>hm y (aA _ hy)
theorem gM.go {l:Ln}{W:List (List Int)}(fN:∀ t∈W,∀ m∈mvs l t,m.2∈W){x:List EnS×List Sta}(R:RO W x)(h:gM x.1):∀ i,gM (goS l x i).1
 | 0=>h
 |i+1=>by
  have ih:=gM.go fN R h i
  rw[goS]
  split
  ·rename_i s hs
   exact ih.scan ((RO.go fN R i).sub s (ay hs)) λm hm=>hm
  ·exact ih
theorem gM.B0:∀ {ss:List Sta}{x:List EnS×List Sta},gM x.1->(∀ s∈ss,s∈x.1.map (·.1))->gM (ss.foldl gX x).1
 |[],_,h,_=>h
 |s::r,x,h,hs=>by
  have h1:gM (gX x s).1/\∀ t∈r,t∈(gX x s).1.map (·.1):=by
   unfold gX
   split
   ·exact⟨h.push (hs s aC) λk e=>(by cases e),λt ht=>by rw[ax];exact aK _ (hs t (aA _ ht))⟩
   ·exact⟨h,λt ht=>hs t (aA _ ht)⟩
  exact gM.B0 (ss:=r) h1.1 h1.2
theorem gM.rnd {l:Ln}{W:List (List Int)}(fN:∀ t∈W,∀ m∈mvs l t,m.2∈W){tr:List Int}(ht:tr∈W):∀ r,gM (rnd l tr r).1
 | 0=>⟨λj s s' b hj=>by
   have:(s,some (s',b))∈(r0 tr).1:=ay hj
   simp[r0]at this,λj s s' b hj=>by
   have:(s,some (s',some b))∈(r0 tr).1:=ay hj
   simp[r0]at this⟩
 |r+1=>by
  have R:=RO.rnd fN ht r
  have RG:RO W (goF l (TL.rnd l tr r)):=RO.go fN R 1000
  have h1:gM (goF l (TL.rnd l tr r)).1:=gM.go fN R (gM.rnd fN ht r) 1000
  have e:TL.rnd l tr (r+1)=chN (goF l (TL.rnd l tr r)).2 (goF l (TL.rnd l tr r)).1:=by rw[TL.rnd]
  rw[e]
  generalize goF l (TL.rnd l tr r)=gg at RG h1
  exact gM.B0 (x:=(gg.1,[])) h1 λs hs=>RG.sub s hs
theorem zm:∀ {es:List EnS}{cs:List Addr}{vs:List V},cs.length=es.length->vs.length=es.length->(es.map (·.1)).Nodup->∀ {j:Nat}{e:EnS}{v:V},es[j]? = some e->vs[j]? = some v->valN (kvN es cs vs) (kS e.1)=some v
 |[],_,_,_,_,_,_,_,_,h,_=>by simp at h
 |_::_,[],_,h,_,_,_,_,_,_,_=>by simp at h
 |_::_,_::_,[],_,h,_,_,_,_,_,_=>by simp at h
 |e0::es,c::cs,v0::vs,h1,h2,nd,0,e,v,he,hv=>by
  cases he;cases hv
  have e0':kvN (e0::es) (c::cs) (v0::vs)=(kS e0.1,c,v0)::kvN es cs vs:=rfl
  rw[e0',iP (p:=(kS e0.1,c,v0)) rfl]
 |e0::es,c::cs,v0::vs,h1,h2,nd,j+1,e,v,he,hv=>by
  have e0':kvN (e0::es) (c::cs) (v0::vs)=(kS e0.1,c,v0)::kvN es cs vs:=rfl
  rw[eA]at he hv
  rw[aQ,bL]at nd
  have hne:¬kS e0.1=kS e.1:=λz=>nd.1 (by rw[vA z];exact dU (ay he))
  rw[e0',iQ (p:=(kS e0.1,c,v0)) hne]
  exact zm (by simpa using h1) (by simpa using h2) nd.2 he hv
theorem StN.get {P:Program}{w:World}{K:PySem.W.Frag}{H:Hp}{d:Addr}{es:List EnS}{cs:List Addr}{us:List V}(h:StN P w K H d es cs us)(nd:(es.map (·.1)).Nodup){j:Nat}{e:EnS}{v:V}(he:es[j]? = some e)(hv:us[j]? = some v):valN (kvN es cs us) (kS e.1)=some v:=zm h.lc h.lv nd he hv
open PySem.W
section
variable {prog:Program}{w:World}{d:Addr}{o:Obj}{es:Array DictEntry}{ep:Nat}
theorem ya {A:Around}(hh:A.handled=none)(hd:o.data = .dict es ep)(I d:Addr)(hne:d≠I):
  Walks prog w A I [I,d] [I] es.size (λi v=>∃ e:DictEntry,es[i]? = some e/\v=e.key) (λi h=>h.IsKeyIter I d i es.size ep/\h.get? d=some o) where
 sub:=λb hb=>by simp at hb;simp[hb]
 frame:=λ_ _ _ st hk=>⟨st.1.at λo e=>hk I (by simp) o e,hk d (by simp) _ st.2⟩
 item:=λi s Q E hi st hQ=>by
  obtain⟨e,hx⟩:∃ p,es[i]? = some p:=⟨es[i],by simp[hi]⟩
  refine ue st.1 st.2 hd hx λh' De hs'=>?_
  exact hQ e.key h' s.toks ⟨e,hx,rfl⟩ ⟨De,hs'.extBut d o hne st.2⟩ λb o hb e=>hs'.extBut b o (λh=>hb (by simp[h])) e
 done:=λs Q E st hQ=>wB hh st.1 st.2 hd (av _) λh' he'=>hQ h' s.toks λb o hb e=>he' b o (λh=>hb (by simp[h])) e
 self:=λ_ _ _ _ st hQ=>ud st.1 hQ
theorem AY (lo:(d==sysModules)=false)(hx:o.ExactDict)(hd:o.data = .dict es ep):KdlSrc prog w "dict" d d es.size (λi v=>∃ e:DictEntry,es[i]? = some e/\v=e.key) (λh=>h.get? d=some o) where
 type:=λ_ hm=>mi hm hx
 there:=λ_ hm=>⟨aF hm,aF hm⟩
 keep:=λ_ _ hm hk=>hk d (.inl rfl) o hm
 notList:=by decide
 notTuple:=by decide
 hint:=λ_ _ _ _ hm hq=>kdl_hint_dict (mi hm hx) hq
 iter:=λ_ _ hh hm=>⟨_,_,(λ_ _ hq=>uf lo hm hx hd hq),ya hh hd _ d (aR (aF hm)),⟨⟨_,aN _ rfl,rfl,rfl⟩,aB _ hm⟩⟩
end
theorem tP:∀ {bs:List Addr}{vs:List Value},vs=bs.map Value.ref->Vals (bs.map V.ref) vs
 |[],_,h=>by rw[h];exact .nil
 |b::bs,_,h=>by rw[h];exact .cons rfl (tP rfl)
theorem vO {X:Cx}(hc:X.calm=true):mO X (.type "list") (λxs H Q=>∃ (d:Addr) (kvs:List (List Key×V)),xs = [.ref d]/\H d=some (.dT kvs)/\
  ∀ l (bs:List Addr),H l=none->bs.length=kvs.length->(∀ (i:Nat) b p,bs[i]? = some b->kvs[i]? = some p->H b=some (.tup (p.1.map kV)))->Q (.ref l) (upd H l (.lst (bs.map V.ref)))):=by
 intro pins s σ H xs us Q I r h
 obtain⟨d,kvs,rfl,hH,q⟩:=h
 obtain⟨u,rfl,ru⟩:=vals1 r
 cases ru
 obtain⟨z,lo,xs,rel,o,es,ep,h1,h2,h3,h4,h5,h6⟩:=BU I.hok hH
 have hsz:es.size=kvs.length:=by
  have:=bX List.length h4
  rw[cF,aa]at this
  rw[this,<-bT rel]
 refine kdl_call (AY lo h2 h3) (I.ok.hd hc) h1 (by rw[hsz];exact z) λh' tk acc c hk hg GR=>?_
 have el:acc.toList=(xs.map (·.2.1)).map Value.ref:=by
  refine List.ext_getElem? λj=>?_
  have hl:acc.size=xs.length:=by rw[GR.1,hsz,bT rel]
  by_cases hj:j<xs.length
  ·have hx:acc[j]? = some acc[j]:=d9 (by omega)
   obtain⟨e,he,hv⟩:=GR.2 j _ hx
   rw[<-dH,h4,aq,af hj]at he
   have he:entryOfKey (tupleKind (gq X.prog X.w)) xs[j]=e:=by simpa using he
   rw[dH,hx,hv,<-he,bx,aq,af hj]
   rfl
  ·rw[bH (by rw[cF];omega),bH (by rw[aa,aa];omega)]
 refine⟨.ref s.heap.objs.size,_,I.laid (t':=tk) (o:=.lst ((xs.map (·.2.1)).map V.ref)) (λb ob q=>hk b ob q) (av _) ⟨?_,acc.toList,c,tP el,?_⟩,rfl,q _ (xs.map (·.2.1)) I.fresh ?_ λi b p hb hp=>?_⟩
 ·rw[aa,aa,<-bT rel];exact z
 ·rw[hg,Array.toArray_toList]
 ·rw[aa,bT rel]
 ·obtain⟨y,hy,e1,e2,e3⟩:=oq rel hp
  rw[aq,hy]at hb
  have hb:y.2.1=b:=by simpa using hb
  rw[<-hb];exact e2
end TL
namespace TL
open PySem PySem.Spec PyProof.Rows L2 TS
theorem Dr {es:List Ent}(nd:(es.map (·.1)).Nodup){a b:Ent}(ha:a∈es)(hb:b∈es)(e:a.1=b.1):a=b:=by
 obtain⟨i,hi,rfl⟩:=aU.mp ha
 obtain⟨j,hj,rfl⟩:=aU.mp hb
 have h:(es.map (·.1))[i]'(by rw[aa];exact hi)=(es.map (·.1))[j]'(by rw[aa];exact hj):=by
  rw[cT,cT];exact e
 have:=(cU nd).mp h
 subst this
 rfl
end TL
namespace TL
open PySem L2 PyProof.Rows
def One (l:Ln)(a b:List Int):Prop:=∃ m∈mvs l a,m.2=b
def Gd (l:Ln)(a:List Int):Nat->List Int->Prop
 | 0,b=>b=a
 |k+1,b=>∃ c,Gd l a k c/\One l c b
theorem xO {l:Ln}{ns:List Int}(ok:fb l)(T:fT l ns)(hne:ns≠ []){i:Nat}(hi:(eT l ns i).length=i):∀ (k:Nat) (x:List Int),Gd l ns k x->∃ n,gv (fi (eT l ns i)) x=some n/\n<=k
 | 0,x,h=>by
  have:x=ns:=h
  subst this
  obtain⟨_,h0,_⟩:=rB ok T hne hi
  exact⟨0,h0,by simp⟩
 |k+1,x,⟨b,h1,m,hm,e1⟩=>by
  obtain⟨n,hn,hle⟩:=xO ok T hne hi k b h1
  obtain⟨_,_,hc⟩:=rB ok T hne hi
  obtain⟨n',hn',LH⟩:=hc _ (iX hn) m hm
  rw[e1]at hn'
  exact⟨n',hn',by have:n'<=n+1:=LH;omega⟩
theorem uE {l:Ln}{ns:List Int}(P:List Int->Prop)(h0:P ns)(hs:∀ t m,P t->m∈mvs l t->P m.2):∀ i,∀ e∈eT l ns i,P e.1
 | 0=>λe he=>by have z:e=(ns,none):=(by simpa [eT]using he);rw[z];exact h0
 |i+1=>by
  have ih:=uE P h0 hs i
  rw[eT]
  split
  ·rename_i e0 he0
   have r0:=ih e0 (ay he0)
   have gen:∀ (ms:List Mv) (o:List Ent),(∀ m∈ms,m∈mvs l e0.1)->(∀ e∈o,P e.1)->∀ e∈fR e0.1 ms o,P e.1:=by
    intro ms
    induction ms with
    |nil=>intro o _ h;exact h
    |cons m ms ihm=>
     intro o hm h
     refine ihm (lU e0.1 o m) (λx hx=>hm x (aA _ hx)) ?_
     unfold lU
     split
     ·exact h
     ·intro e he
      rcases az.mp he with z |z
      ·exact h e z
      ·rw[bh.mp z]
       exact hs _ m r0 (hm m aC)
   exact gen _ _ (λm hm=>hm) ih
  ·exact ih
open PySem.Spec
abbrev sts (x:List EnS×List Sta):List Sta:=x.1.map (·.1)
theorem i5 {α β:Type}{f:α->β}{a b:List α}(h:a <+:b){s:β}(hs:s∈a.map f):s∈b.map f:=by
 obtain⟨c,rfl⟩:=h
 rw[ax];exact aK _ hs
theorem Cc {t:List Int}{w:Str}{x:List EnS×List Sta}{m:Mv}(hm:m.1.1=w):(m.2,w)∈sts (je t w x m):=by
 unfold je
 split
 ·show(m.2,w)∈(x.1 ++ [((m.2,w),some ((t,w),some m.1))]).map (·.1)
  rw[ax];exact aD _ (by simp)
 ·rename_i c
  exact cY λz=>c ⟨hm,z⟩
theorem tX {t:List Int}{w:Str} :∀ {ms:List Mv}{x:List EnS×List Sta},∀ m∈ms,m.1.1=w->(m.2,w)∈sts (fY t w ms x)
 |m0::r,x,m,hm,hw=>by
  rcases aP.mp hm with e |e
  ·subst e
   exact i5 (kK t w r (je t w x m)).2 (Cc hw)
  ·exact tX (ms:=r) (x:=je t w x m0) m e hw
theorem xn (l:Ln)(x:List EnS×List Sta)(i:Nat):(goS l x i).2 <+:(goS l x (i+1)).2/\(goS l x i).1 <+:(goS l x (i+1)).1:=by
 rw[goS]
 split
 ·exact kK _ _ _ _
 ·exact⟨bD _,bD _⟩
theorem sM (l:Ln)(x:List EnS×List Sta):∀ i j,j<i->∀ s,(goS l x i).2[j]? = some s->∀ m∈mvs l s.1,m.1.1=s.2->(m.2,s.2)∈sts (goS l x i)
 | 0,j,h,_,_,_,_,_=>by omega
 |i+1,j,h,s,hs,m,hm,hw=>by
  have hp:=xn l x i
  by_cases hj:j<(goS l x i).2.length
  ·have hs':(goS l x i).2[j]? = some s:=by
    obtain⟨c,hc⟩:=hp.1
    rw[<-hc,aj hj]at hs
    exact hs
   by_cases e:j=i
   ·subst e
    rw[xo hs']
    exact tX m hm hw
   ·exact i5 hp.2 (sM l x i j (by omega) s hs' m hm hw)
  ·have hn:(goS l x i).2[i]? = none:=bH (by omega)
   have e:goS l x (i+1)=goS l x i:=by rw[goS,hn]
   rw[e]at hs
   exact absurd (ah.mp hs).1 hj
theorem sO {l:Ln}{x:List EnS×List Sta}(hl:(goF l x).2.length<=1000):∀ s∈(goF l x).2,∀ m∈mvs l s.1,m.1.1=s.2->(m.2,s.2)∈sts (goF l x):=λs hs m hm hw=>by
 obtain⟨j,hj⟩:=List.mem_iff_getElem?.mp hs
 have hlt:=(ah.mp hj).1
 exact sM l x 1000 j (bg hlt hl) s hj m hm hw
theorem Cb {t:List Int}{w:Str}{x:List EnS×List Sta}{m:Mv}{A:Sta->Prop}(h:∀ s∈sts x,A s\/s∈x.2):∀ s∈sts (je t w x m),A s\/s∈(je t w x m).2:=by
 unfold je
 split
 ·intro s hs
  have hs:s∈(x.1 ++ [((m.2,w),some ((t,w),some m.1))]).map (·.1):=hs
  rw[ax]at hs
  rcases az.mp hs with z |z
  ·exact(h s z).imp id λy=>aK _ y
  ·exact .inr (aD _ (by simpa using z))
 ·exact h
theorem tW {t:List Int}{w:Str}{A:Sta->Prop} :∀ {ms:List Mv}{x:List EnS×List Sta},(∀ s∈sts x,A s\/s∈x.2)->∀ s∈sts (fY t w ms x),A s\/s∈(fY t w ms x).2
 |[],_,h=>h
 |m::r,x,h=>tW (ms:=r) (x:=je t w x m) (Cb h)
theorem rf {l:Ln}{x:List EnS×List Sta}{A:Sta->Prop}(h:∀ s∈sts x,A s\/s∈x.2):∀ i,∀ s∈sts (goS l x i),A s\/s∈(goS l x i).2
 | 0=>h
 |i+1=>by
  rw[goS]
  split
  ·exact tW (rf h i)
  ·exact rf h i
theorem xD (x:List EnS×List Sta)(s:Sta):x.1 <+:(gX x s).1/\x.2 <+:(gX x s).2:=by
 unfold gX
 split
 ·exact⟨cJ _ _,cJ _ _⟩
 ·exact⟨bD _,bD _⟩
theorem pR:∀ (ss:List Sta) (x:List EnS×List Sta),x.1 <+:(ss.foldl gX x).1
 |[],_=>bD _
 |s::r,x=>(xD x s).1.trans (pR r (gX x s))
theorem sV:∀ {ss:List Sta}{x:List EnS×List Sta},∀ s∈ss,(s.1,ow s.2)∈sts (ss.foldl gX x)
 |s0::r,x,s,hs=>by
  rcases aP.mp hs with e |e
  ·subst e
   have h1:(s.1,ow s.2)∈sts (gX x s):=by
    unfold gX
    split
    ·show(s.1,ow s.2)∈(x.1 ++ [(((s.1,ow s.2),some (s,none)):EnS)]).map (λe:EnS=>e.1)
     rw[ax];exact aD _ (by simp)
    ·rename_i c
     exact cY c
   exact i5 (pR r (gX x s)) h1
  ·exact sV (ss:=r) (x:=gX x s0) s e
theorem sU {A:Sta->Prop} :∀ {ss:List Sta}{x:List EnS×List Sta},(∀ s∈sts x,A s\/s∈x.2)->∀ s∈sts (ss.foldl gX x),A s\/s∈(ss.foldl gX x).2
 |[],_,h=>h
 |s0::r,x,h=>by
  refine sU (ss:=r) (x:=gX x s0) ?_
  unfold gX
  split
  ·intro s hs
   have hs:s∈(x.1 ++ [(((s0.1,ow s0.2),some (s0,none)):EnS)]).map (λe:EnS=>e.1):=hs
   rw[ax]at hs
   rcases az.mp hs with z |z
   ·exact(h s z).imp id λy=>aK _ y
   ·exact .inr (aD _ (by simpa using z))
  ·exact h
theorem sN (l:Ln)(x:List EnS×List Sta):∀ i,x.2 <+:(goS l x i).2
 | 0=>bD _
 |i+1=>(sN l x i).trans (xn l x i).1
structure RC (l:Ln)(tr:List Int)(r:Nat):Prop where
 all:∀ s∈sts (rnd l tr r),(cnt l tr r s).isSome=true\/s∈(rnd l tr r).2
 fN:∀ s,(cnt l tr r s).isSome=true->s∈sts (rnd l tr r)/\(∀ m∈mvs l s.1,m.1.1=s.2->(m.2,s.2)∈sts (rnd l tr r))/\(s.1,ow s.2)∈sts (rnd l tr r)
 st:∀ w,isW w->(tr,w)∈sts (rnd l tr r)
theorem RC.of {l:Ln}{W:List (List Int)}(fN:∀ t∈W,∀ m∈mvs l t,m.2∈W){tr:List Int}(ht:tr∈W)(hW:W.length<=300):∀ r,RC l tr r
 | 0=>⟨λs hs=>.inr hs,λs hs=>by simp[cnt]at hs,λw hw=>by
   have:(tr,w)∈ [(tr,onW),(tr,gQ)]:=by
    rcases hw with e |e
    ·rw[e];exact aC
    ·rw[e];exact aA _ aC
   exact this⟩
 |r+1=>by
  have ih:=RC.of fN ht hW r
  have R:=RO.rnd fN ht r
  have RG:RO W (goF l (rnd l tr r)):=RO.go fN R 1000
  have gl:=RG.len
  have gc:∀ s∈(goF l (rnd l tr r)).2,∀ m∈mvs l s.1,m.1.1=s.2->(m.2,s.2)∈sts (goF l (rnd l tr r)):=sO (by omega)
  have gn:∀ s∈sts (goF l (rnd l tr r)),(cnt l tr r s).isSome=true\/s∈(goF l (rnd l tr r)).2:=rf ih.all 1000
  have gp:(rnd l tr r).1 <+:(goF l (rnd l tr r)).1:=ot l (rnd l tr r) 1000
  have er:rnd l tr (r+1)=chN (goF l (rnd l tr r)).2 (goF l (rnd l tr r)).1:=by rw[rnd]
  have ec:∀ s,cnt l tr (r+1) s=open Classical in if s∈(goF l (rnd l tr r)).2 then some r else cnt l tr r s:=λs=>by rw[cnt]
  generalize goF l (rnd l tr r)=gg at RG gl gc gn gp er ec
  have cp:gg.1 <+:(rnd l tr (r+1)).1:=by rw[er];exact pR gg.2 (gg.1,[])
  refine⟨λs hs=>?_,λs hs=>?_,λw hw=>i5 (gp.trans cp) (ih.st w hw)⟩
  ·have h2:∀ s∈sts (rnd l tr (r+1)),s∈sts gg\/s∈(rnd l tr (r+1)).2:=by
    rw[er]
    exact sU (x:=(gg.1,[])) λs hs=>.inl hs
   rcases h2 s hs with z |z
   ·left
    rw[ec s]
    by_cases hm:s∈gg.2
    ·rw[aL hm];rfl
    ·rw[aH hm];exact(gn s z).resolve_right hm
   ·exact .inr z
  ·rw[ec s]at hs
   by_cases hm:s∈gg.2
   ·refine⟨i5 cp (RG.sub s hm),λm hm' hw=>i5 cp (gc s hm m hm' hw),?_⟩
    rw[er];exact sV s hm
   ·rw[aH hm]at hs
    obtain⟨h1,h2,h3⟩:=ih.fN s hs
    exact⟨i5 (gp.trans cp) h1,λm hm' hw=>i5 (gp.trans cp) (h2 m hm' hw),i5 (gp.trans cp) h3⟩
theorem RC.full {l:Ln}(ok:fb l){tr:List Int}{r:Nat}(h:RC l tr r)(he:(rnd l tr r).2 = [])(i:Nat):∀ e∈eT l tr i,∀ w,isW w->(e.1,w)∈sts (rnd l tr r)/\(cnt l tr r (e.1,w)).isSome=true:=by
 have al:∀ s∈sts (rnd l tr r),(cnt l tr r s).isSome=true:=λs hs=>(h.all s hs).resolve_right (by rw[he];simp)
 have key:=uE (l:=l) (ns:=tr) (λt=>∀ w,isW w->(t,w)∈sts (rnd l tr r)) h.st (λt m ht hm w hw=>by
  have hmw:isW m.1.1:=(kP ok hm).1
  have h1:=(h.fN _ (al _ (ht m.1.1 hmw))).2.1 m hm rfl
  have h2:=(h.fN _ (al _ h1)).2.2
  have hw2:w=m.1.1\/w=ow m.1.1:=by
   have hn:¬Str.ofString "back" = Str.ofString "on" :=by decide +kernel
   unfold ow
   rcases hw with e |e<;>rcases hmw with f |f
   ·exact .inl (by rw[e,f])
   ·exact .inr (by rw[e,f,aH hn])
   ·exact .inr (by rw[e,f,aL rfl])
   ·exact .inl (by rw[e,f])
  rcases hw2 with e |e
  ·rw[e];exact h1
  ·rw[e];exact h2) i
 exact λe he' w hw=>⟨key e he' w hw,al _ (key e he' w hw)⟩
theorem qB {t:List Int}{w:Str}{x0:List EnS×List Sta} :∀ {ms:List Mv}{x:List EnS×List Sta},(∀ s∈sts x0,s∈sts x)->(∀ s∈x.2,s∈x0.2\/s∉sts x0)->∀ s∈(fY t w ms x).2,s∈x0.2\/s∉sts x0
 |[],_,_,h=>h
 |m::r,x,h0,h=>by
  refine qB (ms:=r) (x:=je t w x m) (λs hs=>i5 (sZ t w x m).2 (h0 s hs)) ?_
  unfold je
  split
  ·rename_i c
   intro s hs
   rcases az.mp hs with z |z
   ·exact h s z
   ·rw[bh.mp z]
    exact .inr λy=>c.2 (h0 _ y)
  ·exact h
theorem ou {l:Ln}{x:List EnS×List Sta} :∀ i,∀ s∈(goS l x i).2,s∈x.2\/s∉sts x
 | 0=>λs hs=>.inl hs
 |i+1=>by
  rw[goS]
  split
  ·exact qB (λs hs=>i5 (ot l x i) hs) (ou i)
  ·exact ou i
theorem sW {x0:List EnS×List Sta} :∀ {ss:List Sta}{x:List EnS×List Sta},(∀ s∈sts x0,s∈sts x)->(∀ s∈x.2,s∉sts x0)->∀ s∈(ss.foldl gX x).2,s∉sts x0
 |[],_,_,h=>h
 |s0::r,x,h0,h=>by
  refine sW (ss:=r) (x:=gX x s0) (λs hs=>i5 (xD x s0).1 (h0 s hs)) ?_
  unfold gX
  split
  ·rename_i c
   intro s hs
   rcases az.mp hs with z |z
   ·exact h s z
   ·rw[bh.mp z]
    exact λy=>c (h0 _ y)
  ·exact h
structure CI (l:Ln)(tr:List Int)(r:Nat):Prop where
 fresh:∀ s∈(rnd l tr r).2,cnt l tr r s=none
 lt:∀ s n,cnt l tr r s=some n->n<r
 mv:∀ s n m,cnt l tr r s=some n->m∈mvs l s.1->m.1.1=s.2->∃ n',cnt l tr r (m.2,s.2)=some n'/\n'<=n
 ch:∀ s n,cnt l tr r s=some n->(∃ n',cnt l tr r (s.1,ow s.2)=some n'/\n'<=n+1)\/((s.1,ow s.2)∈(rnd l tr r).2/\n+1=r)
 st:1<=r->∀ w,isW w->cnt l tr r (tr,w)=some 0
theorem CI.of {l:Ln}{W:List (List Int)}(fN:∀ t∈W,∀ m∈mvs l t,m.2∈W){tr:List Int}(ht:tr∈W)(hW:W.length<=300):∀ r,CI l tr r
 | 0=>⟨λs _=>rfl,λs n h=>(by cases h),λs n m h=>(by cases h),λs n h=>(by cases h),λh=>(by omega)⟩
 |r+1=>by
  have ih:=CI.of fN ht hW r
  have rc:=RC.of fN ht hW r
  have R:=RO.rnd fN ht r
  have RG:RO W (goF l (rnd l tr r)):=RO.go fN R 1000
  have gl:=RG.len
  have gc:∀ s∈(goF l (rnd l tr r)).2,∀ m∈mvs l s.1,m.1.1=s.2->(m.2,s.2)∈sts (goF l (rnd l tr r)):=sO (by omega)
  have gn:∀ s∈sts (goF l (rnd l tr r)),(cnt l tr r s).isSome=true\/s∈(goF l (rnd l tr r)).2:=rf rc.all 1000
  have gp:(rnd l tr r).1 <+:(goF l (rnd l tr r)).1:=ot l (rnd l tr r) 1000
  have gp2:(rnd l tr r).2 <+:(goF l (rnd l tr r)).2:=sN l (rnd l tr r) 1000
  have gf:∀ s∈(goF l (rnd l tr r)).2,s∈(rnd l tr r).2\/s∉sts (rnd l tr r):=ou 1000
  have er:rnd l tr (r+1)=chN (goF l (rnd l tr r)).2 (goF l (rnd l tr r)).1:=by rw[rnd]
  have ec:∀ s,cnt l tr (r+1) s=open Classical in if s∈(goF l (rnd l tr r)).2 then some r else cnt l tr r s:=λs=>by rw[cnt]
  generalize goF l (rnd l tr r)=gg at RG gl gc gn gp gp2 gf er ec
  have unc:∀ s∈gg.2,cnt l tr r s=none:=λs hs=>by
   rcases gf s hs with z |z
   ·exact ih.fresh s z
   ·cases h:cnt l tr r s with
    |none=>rfl
    |some n=>exact absurd (rc.fN s (by rw[h];rfl)).1 z
  have lH:∀ s n,cnt l tr r s=some n->cnt l tr (r+1) s=some n:=λs n h=>by
   rw[ec s,aH (λz=>by rw[unc s z]at h;cases h)];exact h
  have now:∀ s∈gg.2,cnt l tr (r+1) s=some r:=λs hs=>by rw[ec s,aL hs]
  have inG:∀ s∈sts gg,∃ n',cnt l tr (r+1) s=some n'/\n'<=r:=λs hs=>by
   rcases gn s hs with z |z
   ·obtain⟨n,hn⟩:=cC.mp z
    exact⟨n,lH s n hn,bI (ih.lt s n hn)⟩
   ·exact⟨r,now s z,av _⟩
  have two:∀ s n,cnt l tr (r+1) s=some n->(s∈gg.2/\n=r)\/cnt l tr r s=some n:=λs n h=>by
   by_cases hm:s∈gg.2
   ·rw[now s hm]at h;cases h;exact .inl ⟨hm,rfl⟩
   ·rw[ec s,aH hm]at h;exact .inr h
  refine⟨λs hs=>?_,λs n h=>?_,λs n m h hm hw=>?_,λs n h=>?_,λ_ w hw=>?_⟩
  ·have hf:s∉sts gg:=by
    rw[er]at hs
    exact sW (x0:=gg) (x:=(gg.1,[])) (λs hs=>hs) (λs hs=>by cases hs) s hs
   rw[ec s,aH (λz=>hf (RG.sub s z))]
   cases h:cnt l tr r s with
   |none=>rfl
   |some n=>exact absurd (i5 gp (rc.fN s (by rw[h];rfl)).1) hf
  ·rcases two s n h with⟨_,e⟩|z
   ·omega
   ·have:=ih.lt s n z;omega
  ·rcases two s n h with⟨hs,e⟩|z
   ·obtain⟨n',h1,h2⟩:=inG _ (gc s hs m hm hw)
    exact⟨n',h1,by omega⟩
   ·obtain⟨n',h1,h2⟩:=ih.mv s n m z hm hw
    exact⟨n',lH _ _ h1,h2⟩
  ·rcases two s n h with⟨hs,e⟩|z
   ·have h2:∀ s∈sts (rnd l tr (r+1)),s∈sts gg\/s∈(rnd l tr (r+1)).2:=by
     rw[er]
     exact sU (x:=(gg.1,[])) λs hs=>.inl hs
    have h3:(s.1,ow s.2)∈sts (rnd l tr (r+1)):=by rw[er];exact sV s hs
    rcases h2 _ h3 with y |y
    ·obtain⟨n',h1,h4⟩:=inG _ y
     exact .inl ⟨n',h1,by omega⟩
    ·exact .inr ⟨y,by omega⟩
   ·rcases ih.ch s n z with⟨n',h1,h2⟩|⟨y,e⟩
    ·exact .inl ⟨n',lH _ _ h1,h2⟩
    ·obtain⟨c,hc⟩:=gp2
     exact .inl ⟨r,now _ (by rw[<-hc];exact aK _ y),by omega⟩
  ·by_cases hr:r=0
   ·subst hr
    obtain⟨c,hc⟩:=gp2
    refine now _ (by
     rw[<-hc]
     refine aK _ ?_
     have:(tr,w)∈ [(tr,onW),(tr,gQ)]:=by
      rcases hw with e |e
      ·rw[e];exact aC
      ·rw[e];exact aA _ aC
     exact this)
   ·exact lH _ _ (ih.st (by omega) w hw)
def MvE (l:Ln)(s:Sta)(b:Bk)(A:Sta->Prop):Prop:=∃ s' k,b=some (s',some k)/\A s'/\A s/\s'.2=s.2/\k.1=s.2/\(k,s.1)∈mvs l s'.1
theorem MvE.imp {l:Ln}{s:Sta}{b:Bk}{A B:Sta->Prop}(f:∀ t,A t->B t)(h:MvE l s b A):MvE l s b B:=by
 obtain⟨s',k,h1,h2,h3,h4⟩:=h
 exact⟨s',k,h1,f _ h2,f _ h3,h4⟩
theorem tY {l:Ln}{t:List Int}{w:Str}{B:EnS->Prop} :∀ {ms:List Mv}{x:List EnS×List Sta},(∀ m∈ms,m∈mvs l t)->(t,w)∈x.2->(∀ e∈x.1,B e\/MvE l e.1 e.2 (· ∈x.2))->∀ e∈(fY t w ms x).1,B e\/MvE l e.1 e.2 (· ∈(fY t w ms x).2)
 |[],_,_,_,h=>h
 |m::r,x,hm,ht,h=>by
  have hp:=sZ t w x m
  have up:∀ s∈x.2,s∈(je t w x m).2:=λs hs=>by obtain⟨c,hc⟩:=hp.1;rw[<-hc];exact aK _ hs
  refine tY (ms:=r) (x:=je t w x m) (λy hy=>hm y (aA _ hy)) (up _ ht) ?_
  intro e he
  by_cases c:m.1.1=w/\(m.2,w)∉x.1.map (·.1)
  ·have ea:je t w x m=(x.1 ++ [((m.2,w),some ((t,w),some m.1))],x.2 ++ [(m.2,w)]):=by unfold je;rw[aL c]
   rw[ea]at he ⊢
   rcases az.mp he with z |z
   ·exact(h e z).imp id λy=>y.imp λs hs=>aK _ hs
   ·rw[bh.mp z]
    exact .inr ⟨(t,w),m.1,rfl,aK _ ht,aD _ (by simp),rfl,c.1,hm m aC⟩
  ·have ea:je t w x m=x:=by unfold je;rw[aH c]
   rw[ea]at he ⊢
   exact h e he
theorem vD {l:Ln}{x:List EnS×List Sta} :∀ i,∀ e∈(goS l x i).1,e∈x.1\/MvE l e.1 e.2 (· ∈(goS l x i).2)
 | 0=>λe he=>.inl he
 |i+1=>by
  rw[goS]
  split
  ·rename_i s hs
   exact tY (B:=λe=>e∈x.1) (λm hm=>hm) (ay hs) (vD i)
  ·exact vD i
theorem xB {B:EnS->Prop} :∀ {ss:List Sta}{x:List EnS×List Sta},∀ {A:Sta->Prop},(∀ s∈ss,A s)->(∀ e∈x.1,B e\/∃ s',A s'/\e=((s'.1,ow s'.2),some (s',none))/\e.1∈x.2)->∀ e∈(ss.foldl gX x).1,B e\/∃ s',A s'/\e=((s'.1,ow s'.2),some (s',none))/\e.1∈(ss.foldl gX x).2
 |[],_,_,_,h=>h
 |s0::r,x,A,hA,h=>by
  refine xB (ss:=r) (x:=gX x s0) (A:=A) (λs hs=>hA s (aA _ hs)) ?_
  intro e he
  by_cases c:(s0.1,ow s0.2)∉x.1.map (·.1)
  ·have ea:gX x s0=(x.1 ++ [((s0.1,ow s0.2),some (s0,none))],x.2 ++ [(s0.1,ow s0.2)]):=by unfold gX;rw[aL c]
   rw[ea]at he ⊢
   rcases az.mp he with z |z
   ·exact(h e z).imp id λ⟨s',h1,h2,h3⟩=>⟨s',h1,h2,aK _ h3⟩
   ·rw[bh.mp z]
    exact .inr ⟨s0,hA s0 aC,rfl,aD _ (by simp)⟩
  ·have ea:gX x s0=x:=by unfold gX;rw[aH c]
   rw[ea]at he ⊢
   exact h e he
inductive EE (l:Ln) (tr:List Int) (r:Nat):Sta->Bk->Prop
 |beg {s:Sta} :s.1=tr->isW s.2->EE l tr r s none
 |mv {s s':Sta}{k:Str×Int}{n:Nat} :s'.2=s.2->k.1=s.2->(k,s.1)∈mvs l s'.1->cnt l tr r s=some n->cnt l tr r s'=some n->EE l tr r s (some (s',some k))
 |ch {s s':Sta}{n:Nat} :s=(s'.1,ow s'.2)->cnt l tr r s'=some n->(cnt l tr r s=some (n+1)\/(s∈(rnd l tr r).2/\n+1=r))->EE l tr r s (some (s',none))
theorem EE.of {l:Ln}{W:List (List Int)}(fN:∀ t∈W,∀ m∈mvs l t,m.2∈W){tr:List Int}(ht:tr∈W)(hW:W.length<=300):∀ r,∀ e∈(rnd l tr r).1,EE l tr r e.1 e.2
 | 0=>λe he=>by
  have he:e=((tr,onW),none)\/e=((tr,gQ),none):=by
   have:e∈ [((tr,onW),(none:Bk)),((tr,gQ),none)]:=he
   simpa using this
  rcases he with z |z
  ·rw[z];exact .beg rfl (.inl rfl)
  ·rw[z];exact .beg rfl (.inr rfl)
 |r+1=>by
  have ih:=EE.of fN ht hW r
  have ci:=CI.of fN ht hW r
  have ci':=CI.of fN ht hW (r+1)
  have rc:=RC.of fN ht hW r
  have ge:∀ e∈(goF l (rnd l tr r)).1,e∈(rnd l tr r).1\/MvE l e.1 e.2 (· ∈(goF l (rnd l tr r)).2):=vD 1000
  have gp2:(rnd l tr r).2 <+:(goF l (rnd l tr r)).2:=sN l (rnd l tr r) 1000
  have gf:∀ s∈(goF l (rnd l tr r)).2,s∈(rnd l tr r).2\/s∉sts (rnd l tr r):=ou 1000
  have er:rnd l tr (r+1)=chN (goF l (rnd l tr r)).2 (goF l (rnd l tr r)).1:=by rw[rnd]
  have ec:∀ s,cnt l tr (r+1) s=open Classical in if s∈(goF l (rnd l tr r)).2 then some r else cnt l tr r s:=λs=>by rw[cnt]
  generalize goF l (rnd l tr r)=gg at ge gp2 gf er ec
  have unc:∀ s∈gg.2,cnt l tr r s=none:=λs hs=>by
   rcases gf s hs with z |z
   ·exact ci.fresh s z
   ·cases h:cnt l tr r s with
    |none=>rfl
    |some n=>exact absurd (rc.fN s (by rw[h];rfl)).1 z
  have lH:∀ s n,cnt l tr r s=some n->cnt l tr (r+1) s=some n:=λs n h=>by
   rw[ec s,aH (λz=>by rw[unc s z]at h;cases h)];exact h
  have now:∀ s∈gg.2,cnt l tr (r+1) s=some r:=λs hs=>by rw[ec s,aL hs]
  have all:∀ e∈(rnd l tr (r+1)).1,e∈gg.1\/∃ s',s'∈gg.2/\e=((s'.1,ow s'.2),some (s',none))/\e.1∈(rnd l tr (r+1)).2:=by
   rw[er]
   exact xB (B:=λe=>e∈gg.1) (x:=(gg.1,[])) (A:=λs=>s∈gg.2) (λs hs=>hs) λe he=>.inl he
  intro e he
  rcases all e he with z |⟨s',hs',ee,hp⟩
  ·rcases ge e z with y |⟨s',k,h1,h2,h3,h4,h5,h6⟩
   ·have old:=ih e y
    cases hb:e.2 with
    |none=>
     rw[hb]at old
     cases old with
     |beg a b=>exact .beg a b
    |some q=>
     rw[hb]at old
     cases old with
     |mv a b c d f=>exact .mv a b c (lH _ _ d) (lH _ _ f)
     |ch a b c=>
      refine .ch a (lH _ _ b) (.inl ?_)
      rcases c with c |⟨c,e'⟩
      ·exact lH _ _ c
      ·obtain⟨cc,hc⟩:=gp2
       rw[now _ (by rw[<-hc];exact aK _ c),e']
   ·rw[h1]
    exact .mv h4 h5 h6 (now _ h3) (now _ h2)
  ·subst ee
   exact .ch rfl (now _ hs') (.inr ⟨hp,rfl⟩)
def hU:List Str->Nat
 |[]=>0
 |[_]=>0
 |a::b::r=>(if a=b then 0 else 1)+hU (b::r)
theorem oz:∀ (ws:List Str) (x w:Str),hU (ws ++ [x] ++ [w])=hU (ws ++ [x])+(if x=w then 0 else 1)
 |[],x,w=>by simp[hU]
 |[a],x,w=>by simp only[eB,dO,hU];omega
 |a::b::r,x,w=>by
  have ih:=oz (b::r) x w
  simp only[eB,hU]at ih ⊢
  omega
theorem xq {es:List EnS}(nd:(es.map (·.1)).Nodup){s:Sta}{a b:Bk}(h1:(s,a)∈es)(h2:(s,b)∈es):a=b:=by
 induction es with
 |nil=>cases h1
 |cons e r ih=>
  rw[aQ,bL]at nd
  rcases aP.mp h1 with z |z<;>rcases aP.mp h2 with y |y
  ·rw[<-z]at y;exact(bX Prod.snd y).symm
  ·exact absurd (dU (f:=(·.1)) y) (by rw[<-z]at nd;exact nd.1)
  ·exact absurd (dU (f:=(·.1)) z) (by rw[<-y]at nd;exact nd.1)
  ·exact ih nd.2 z y
section
variable {l:Ln}{W:List (List Int)}{tr:List Int}{r:Nat}
theorem zb:∀ r,(r0 tr).1 <+:(rnd l tr r).1
 | 0=>bD _
 |r+1=>by
  have ih:=zb r
  have gp:(rnd l tr r).1 <+:(goF l (rnd l tr r)).1:=ot l (rnd l tr r) 1000
  have er:rnd l tr (r+1)=chN (goF l (rnd l tr r)).2 (goF l (rnd l tr r)).1:=by rw[rnd]
  generalize goF l (rnd l tr r)=gg at gp er
  rw[er]
  exact ih.trans (gp.trans (pR gg.2 (gg.1,[])))
theorem DK (fN:∀ t∈W,∀ m∈mvs l t,m.2∈W)(ht:tr∈W)(hW:W.length<=300){s:Sta}{n:Nat}(h:cnt l tr r s=some n):s∈sts (rnd l tr r):=((RC.of fN ht hW r).fN s (by rw[h];rfl)).1
theorem jJ.way (fN:∀ t∈W,∀ m∈mvs l t,m.2∈W)(ht:tr∈W)(hW:W.length<=300){s:Sta}{run:List (Str×Int)}(h:jJ (rnd l tr r).1 s run):∃ bs,Way l tr run bs/\bs[run.length]? = some s.1:=by
 have ee:=EE.of fN ht hW r
 induction h with
 |@nil s hm=>
  have:=ee _ hm
  cases this with
  |beg a b=>exact⟨[tr],⟨rfl,rfl,λj k b b' hk=>by simp at hk⟩,by rw[a];rfl⟩
 |@ch s s' run hm _ ih=>
  have:=ee _ hm
  cases this with
  |ch a b c=>
   obtain⟨bs,W,hb⟩:=ih
   have a:s=(s'.1,ow s'.2):=a
   exact⟨bs,W,by rw[hb,a]⟩
 |@mv s s' k run hm _ ih=>
  have:=ee _ hm
  cases this with
  |mv a b c d f=>
   obtain⟨bs,W,hb⟩:=ih
   refine⟨bs ++ [s.1],W.snoc (m:=(k,s.1)) hb c,?_⟩
   rw[ai,aE,aw (by rw[W.len];exact av _),W.len,aV]
   rfl
theorem jJ.chg (fN:∀ t∈W,∀ m∈mvs l t,m.2∈W)(ht:tr∈W)(hW:W.length<=300)(he:(rnd l tr r).2 = []){s:Sta}{run:List (Str×Int)}(h:jJ (rnd l tr r).1 s run):∀ n,cnt l tr r s=some n->
  (run = []/\n=0/\(s,none)∈(rnd l tr r).1)\/(∃ k run',run=run' ++ [k]/\k.1=s.2/\hU (run.map (·.1))=n/\∃ s',(s,some (s',some k))∈(rnd l tr r).1)\/(∃ k run',run=run' ++ [k]/\k.1=ow s.2/\hU (run.map (·.1))+1=n/\∃ s',(s,some (s',none))∈(rnd l tr r).1):=by
 have ee:=EE.of fN ht hW r
 have ci:=CI.of fN ht hW r
 have RN:=RO.rnd fN ht r
 have hr:1<=r:=by
  cases r with
  |zero=>simp[rnd,r0]at he
  |succ r=>omega
 have hw:∀ {s b},(s,b)∈(rnd l tr r).1->isW s.2:=λ{s b} hm=>(RN.inW s (dU (f:=(·.1)) hm)).2
 have beg:∀ w,isW w->((tr,w),none)∈(rnd l tr r).1:=λw hw=>by
  obtain⟨c,hc⟩:=zb (l:=l) (tr:=tr) r
  rw[<-hc]
  refine aK _ ?_
  rcases hw with e |e
  ·rw[e];exact aC
  ·rw[e];exact aA _ aC
 have snoc:∀ (run':List (Str×Int)) (k k':Str×Int),hU ((run' ++ [k'] ++ [k]).map (·.1))=hU ((run' ++ [k']).map (·.1))+(if k'.1=k.1 then 0 else 1):=λrun' k k'=>by
  rw[ax,ax]
  exact oz _ _ _
 induction h with
 |@nil s hm=>
  intro n hn
  have:=ee _ hm
  cases this with
  |beg a b=>
   have e:s=(tr,s.2):=cZ a rfl
   rw[e,ci.st hr s.2 b]at hn
   cases hn
   exact .inl ⟨rfl,rfl,hm⟩
 |@ch s s' run hm _ ih=>
  intro n hn
  have:=ee _ hm
  cases this with
  |ch a b c=>
   rename_i n'
   have a:s=(s'.1,ow s'.2):=a
   have c:cnt l tr r s=some (n'+1):=c.resolve_right λz=>by rw[he]at z;cases z.1
   rw[c]at hn
   cases hn
   rcases ih n' b with⟨_,_,z⟩|⟨k,run',e1,e2,e3,s2,z⟩|⟨k,run',e1,e2,e3,s2,z⟩
   ·have h1:s'.1=tr:=by
     have:=ee _ z
     cases this with
     |beg a b=>exact a
    have h2:=beg (ow s'.2) (hw z).ow
    have e9:(tr,ow s'.2)=s:=by rw[a,h1]
    rw[e9]at h2
    exact absurd (xq RN.nd hm h2) (by intro y;cases y)
   ·refine .inr (.inr ⟨k,run',e1,?_,by rw[e3],s',hm⟩)
    rw[e2,a]
    exact(wM (hw z)).symm
   ·exfalso
    have:=ee _ z
    cases this with
    |ch a2 b2 c2=>
     rename_i n2
     have a2:s'=(s2.1,ow s2.2):=a2
     have c2:cnt l tr r s'=some (n2+1):=c2.resolve_right λz=>by rw[he]at z;cases z.1
     have hs2:isW s2.2:=by
      have h3:=hw z
      have:(s2.1,ow s2.2).2=s'.2:=by rw[<-a2]
      have hin:=(DK fN ht hW b2)
      exact(RN.inW s2 hin).2
     have e:s=s2:=by
      rw[a,a2]
      exact cZ rfl (wM hs2)
     rw[e]at c
     rw[b2]at c
     rw[b]at c2
     have c:=aW c
     have c2:=aW c2
     omega
 |@mv s s' k run hm _ ih=>
  intro n hn
  have:=ee _ hm
  cases this with
  |mv a b c d f=>
   rename_i n'
   rw[d]at hn
   cases hn
   refine .inr (.inl ⟨k,run,rfl,b,?_,s',hm⟩)
   rcases ih n f with⟨e1,e2,_⟩|⟨k',run',e1,e2,e3,_⟩|⟨k',run',e1,e2,e3,_,z⟩
   ·rw[e1,e2];rfl
   ·rw[e1]at e3 ⊢
    rw[snoc,aL (by rw[e2,b];exact a),e3]
    rfl
   ·rw[e1]at e3 ⊢
    have hne:¬k'.1=k.1:=by
     rw[e2,b,<-a]
     exact Gh (hw z)
    rw[snoc,aH hne]
    exact e3
end
section
variable {l:Ln}{W:List (List Int)}{tr:List Int}{r:Nat}
theorem za (he:(rnd l tr r).2 = []):1<=r:=by
 cases r with
 |zero=>simp[rnd,r0]at he
 |succ r=>omega
theorem Fo (fN:∀ t∈W,∀ m∈mvs l t,m.2∈W)(ht:tr∈W)(hW:W.length<=300)(he:(rnd l tr r).2 = []){s:Sta}{n:Nat}(h:cnt l tr r s=some n):∃ n',cnt l tr r (s.1,ow s.2)=some n'/\n'<=n+1:=
 ((CI.of fN ht hW r).ch s n h).resolve_right λz=>by rw[he]at z;cases z.1
theorem yO (ok:fb l)(fN:∀ t∈W,∀ m∈mvs l t,m.2∈W)(ht:tr∈W)(hW:W.length<=300)(he:(rnd l tr r).2 = []){run:List (Str×Int)}{bs:List (List Int)}(h:Way l tr run bs):
  ∀ j,j+1<=run.length->∃ k b n,run[j]? = some k/\bs[j+1]? = some b/\isW k.1/\cnt l tr r (b,k.1)=some n/\n<=hU ((run.take (j+1)).map (·.1))
 | 0,hj=>by
  have ci:=CI.of fN ht hW r
  have hr:run[0]? = some run[0]:=af (by omega)
  have hb:bs[1]? = some (bs[1]'(by rw[h.len];omega)):=af _
  have hm:=h.step 0 _ _ _ hr h.first hb
  have hw:isW run[0].1:=(kP ok hm).1
  obtain⟨n',h1,h2⟩:=ci.mv (tr,run[0].1) 0 _ (ci.st (za he) _ hw) hm rfl
  exact⟨_,_,n',hr,hb,hw,h1,by omega⟩
 |j+1,hj=>by
  obtain⟨k,b,n,h1,h2,h3,h4,h5⟩:=yO ok fN ht hW he h j (by omega)
  have ci:=CI.of fN ht hW r
  have hr:run[j+1]? = some run[j+1]:=af (by omega)
  have hb:bs[j+1+1]? = some (bs[j+1+1]'(by rw[h.len];omega)):=af _
  have hm:=h.step (j+1) _ _ _ hr h2 hb
  have hw:isW run[j+1].1:=(kP ok hm).1
  have et:(run.take (j+1+1)).map (·.1)=(run.take j).map (·.1) ++ [k.1] ++ [run[j+1].1]:=by
   rw[aZ,aZ,h1,hr]
   simp
  have et1:(run.take (j+1)).map (·.1)=(run.take j).map (·.1) ++ [k.1]:=by
   rw[aZ,h1]
   simp
  have ec:hU ((run.take (j+1+1)).map (·.1))=hU ((run.take (j+1)).map (·.1))+(if k.1=run[j+1].1 then 0 else 1):=by
   rw[et,et1];exact oz _ _ _
  rw[ec]
  by_cases e:k.1=run[j+1].1
  ·obtain⟨n',g1,g2⟩:=ci.mv (b,k.1) n _ h4 hm e.symm
   rw[e]at g1
   refine⟨_,_,n',hr,hb,hw,g1,?_⟩
   rw[aL e];omega
  ·have eo:ow k.1=run[j+1].1:=by
    have hn:¬Str.ofString "back" = Str.ofString "on" :=by decide +kernel
    unfold ow
    rcases h3 with f |f<;>rcases hw with g |g
    ·exact absurd (by rw[f,g]) e
    ·rw[f,aL rfl,g]
    ·rw[f,aH hn,g]
    ·exact absurd (by rw[f,g]) e
   obtain⟨n1,g1,g2⟩:=Fo fN ht hW he h4
   have g1:cnt l tr r (b,ow k.1)=some n1:=g1
   rw[eo]at g1
   obtain⟨n2,g3,g4⟩:=ci.mv (b,run[j+1].1) n1 _ g1 hm rfl
   refine⟨_,_,n2,hr,hb,hw,g3,?_⟩
   rw[aH e];omega
end
theorem Gi {P:Program}{w:World}{K:PySem.W.Frag}{mg:Str->Option Value}{od:Addr}{t1 t2 t3 t4:Tok}{ep:Nat}(hm:mg "OTHER_WORD" = some (.ref od))
  (hk:K.lookup od=some {cls:=.type "dict",data:=.dict #[⟨PyData.keyHash w.params (Str.ofString "on"),.str (Str.ofString "on") t1,.str (Str.ofString "back") t2⟩,⟨PyData.keyHash w.params (Str.ofString "back"),.str (Str.ofString "back") t3,.str (Str.ofString "on") t4⟩] ep}):DB P w K mg od:=by
 refine⟨hm,λh hK=>⟨t2,t4,_,_,ep,hK od _ hk,⟨rfl,rfl,rfl⟩,rfl,?_,?_,?_⟩⟩
 ·intro e he
  have he:e=⟨PyData.keyHash w.params (Str.ofString "on"),.str (Str.ofString "on") t1,.str (Str.ofString "back") t2⟩\/e=⟨PyData.keyHash w.params (Str.ofString "back"),.str (Str.ofString "back") t3,.str (Str.ofString "on") t4⟩:=by simpa using he
  rcases he with z |z
  ·rw[z];exact⟨.inr (Str.ofString "on"),nG (P:=P) (w:=w) (k:=.inr (Str.ofString "on")) ⟨t1,rfl⟩,rfl⟩
  ·rw[z];exact⟨.inr (Str.ofString "back"),nG (P:=P) (w:=w) (k:=.inr (Str.ofString "back")) ⟨t3,rfl⟩,rfl⟩
 ·exact .cons (nG (P:=P) (w:=w) (k:=.inr (Str.ofString "on")) ⟨t1,rfl⟩) rfl (.cons (nG (P:=P) (w:=w) (k:=.inr (Str.ofString "back")) ⟨t3,rfl⟩) rfl .nil)
 ·have hn:¬(Sum.inr (Str.ofString "on"):Key) = .inr (Str.ofString "back"):=by decide +kernel
  simp[hn]
def chp (ws:List Str):Nat->Bool:=λi=> !decide (ws[i]? = ws[i+1]?)
def chg (ws:List Str):Nat:=((List.range (ws.length-1)).filter (chp ws)).length
theorem vM:∀ ws:List Str,chg ws=hU ws
 |[]=>rfl
 |[_]=>rfl
 |a::b::r=>by
  have ih:=vM (b::r)
  unfold chg at ih ⊢
  have e1:(a::b::r).length-1=r.length+1:=by simp
  have e2:(b::r).length-1=r.length:=by simp
  rw[e2]at ih
  rw[e1,List.range_succ_eq_map,List.filter_cons,List.filter_map,hU]
  have e3:(chp (a::b::r) ∘ Nat.succ)=chp (b::r):=by
   funext i
   show(!decide ((a::b::r)[i+1]? = (a::b::r)[i+1+1]?))=_
   rw[eA,eA]
   rfl
  rw[e3]
  have e4:chp (a::b::r) 0 = !decide (a=b):=by
   unfold chp
   simp
  rw[e4]
  by_cases h:a=b
  ·rw[aL h,bA h]
   simp only[cE,bE,cw,aa]
   omega
  ·rw[aH h,bq h]
   simp only[Bool.not_false,dZ,bc,aa]
   omega
section
variable {X:Cx}
end
section
variable {l:Ln}{W:List (List Int)}{tr:List Int}{r:Nat}
theorem jJ.few (fN:∀ t∈W,∀ m∈mvs l t,m.2∈W)(ht:tr∈W)(hW:W.length<=300)(he:(rnd l tr r).2 = []){s:Sta}{run:List (Str×Int)}(h:jJ (rnd l tr r).1 s run){n n':Nat}(h1:cnt l tr r s=some n)(h2:cnt l tr r (s.1,ow s.2)=some n')(le:n<=n'):hU (run.map (·.1))=n:=by
 rcases h.chg fN ht hW he n h1 with⟨e,hn,_⟩|⟨_,_,_,_,e,_⟩|⟨k,run',_,_,e,s',hm⟩
 ·rw[e,hn];rfl
 ·exact e
 ·exfalso
  have ee:=EE.of fN ht hW r _ hm
  cases ee with
  |ch a b c=>
   rename_i n2
   have a:s=(s'.1,ow s'.2):=a
   have c:cnt l tr r s=some (n2+1):=c.resolve_right λz=>by rw[he]at z;cases z.1
   have hs':isW s'.2:=((RO.rnd fN ht r).inW s' (DK fN ht hW b)).2
   have e2:(s.1,ow s.2)=s':=by
    rw[a]
    exact cZ rfl (wM hs')
   rw[e2,b]at h2
   rw[h1]at c
   have h2:=aW h2
   have c:=aW c
   omega
theorem Cn (ok:fb l)(fN:∀ t∈W,∀ m∈mvs l t,m.2∈W)(ht:tr∈W)(hW:W.length<=300)(he:(rnd l tr r).2 = []){run:List (Str×Int)}{bs:List (List Int)}(h:Way l tr run bs){gs:List Int}(hg:bs[run.length]? = some gs):∃ w n,isW w/\cnt l tr r (gs,w)=some n/\n<=hU (run.map (·.1)):=by
 by_cases z:run.length=0
 ·rw[z,h.first]at hg
  cases hg
  exact⟨onW,0,.inl rfl,(CI.of fN ht hW r).st (za he) _ (.inl rfl),aO _⟩
 ·obtain⟨k,b,n,_,h2,h3,h4,h5⟩:=yO ok fN ht hW he h (run.length-1) (by omega)
  rw[show run.length-1+1=run.length by omega]at h2 h5
  rw[hg]at h2
  cases h2
  rw[bo]at h5
  exact⟨k.1,n,h3,h4,h5⟩
theorem Bd {es:List EnS}(nd:(es.map (·.1)).Nodup)(bk:gM es){s:Sta}{run:List (Str×Int)}(h:jJ es s run):∀ (j:Nat) e,es[j]? = some e->e.1=s->run.length<=j:=by
 have one:∀ {j:Nat}{e:EnS}{b:Bk}{s:Sta},es[j]? = some e->e.1=s->(s,b)∈es->e=(s,b):=λ{j e b s} h1 h2 h3=>by
  have h4:(s,e.2)∈es:=by rw[<-h2];exact ay h1
  have:=xq nd h4 h3
  rw[<-this,<-h2]
 induction h with
 |nil _=>exact λj e _ _=>aO _
 |@ch s s' r hm _ ih=>
  intro j e he ee
  rw[one he ee hm]at he
  obtain⟨i,e1,hi,he1,e2⟩:=bk.back j s s' _ he
  have:=ih i e1 he1 e2
  omega
 |@mv s s' k r hm _ ih=>
  intro j e he ee
  rw[one he ee hm]at he
  obtain⟨i,e1,hi,he1,e2⟩:=bk.back j s s' _ he
  have:=ih i e1 he1 e2
  rw[ai,aE]
  omega
theorem jJ.len (fN:∀ t∈W,∀ m∈mvs l t,m.2∈W)(ht:tr∈W)(hW:W.length<=300){s:Sta}{run:List (Str×Int)}(h:jJ (rnd l tr r).1 s run):run.length<=600:=by
 have R:=RO.rnd fN ht r
 have hm:s∈(rnd l tr r).1.map (·.1):=by
  cases h with
  |nil z=>exact ak.mpr ⟨_,z,rfl⟩
  |ch z _=>exact ak.mpr ⟨_,z,rfl⟩
  |mv z _=>exact ak.mpr ⟨_,z,rfl⟩
 obtain⟨e,he,ee⟩:=ak.mp hm
 obtain⟨j,hj,ej⟩:=aU.mp he
 have:=Bd R.nd (gM.rnd fN ht r) h j e (by rw[af hj,ej]) ee
 have:=R.len.1
 omega
end
inductive Go (l:Ln) (s:List Int):List Str->List Int->Prop
 |nil:Go l s [] s
 |snoc {ws:List Str}{t:List Int}{m:Mv} :Go l s ws t->m∈mvs l t->Go l s (ws ++ [m.1.1]) m.2
section
variable {l:Ln}{s t u:List Int}{ws vs:List Str}
theorem Go.trans (h:Go l s ws t)(k:Go l t vs u):Go l s (ws++vs) u:=by
 induction k with
 |nil=>rw[cM];exact h
 |snoc _ hm ih=>rw[<-bY];exact ih.snoc hm
theorem Go.one {m:Mv}(hm:m∈mvs l s):Go l s [m.1.1] m.2:=Go.snoc (ws:=[]) .nil hm
theorem Go.ok (ok:fb l)(T:fT l s)(hne:s≠ [])(h:Go l s ws t):fT l t/\t.length=s.length/\t≠ []:=by
 induction h with
 |nil=>exact⟨T,rfl,hne⟩
 |snoc _ hm ih=>
  obtain⟨a,b,c⟩:=vt ok ih.1 ih.2.2 hm
  exact⟨a,b.trans ih.2.1,c⟩
theorem Go.isW (ok:fb l)(h:Go l s ws t):∀ w∈ws,isW w:=by
 induction h with
 |nil=>intro w hw;cases hw
 |snoc _ hm ih=>
  intro w hw
  rcases az.mp hw with z |z
  ·exact ih w z
  ·rw[bh.mp z];exact(kP ok hm).1
theorem Eb (k:Str×Int)(t:List Int):(und k t).1=ow k.1:=by
 unfold und ow
 split<;>rfl
theorem Go.oQ (ok:fb l)(T:fT l s)(hne:s≠ [])(h:Go l s ws t):Go l t (ws.reverse.map ow) s:=by
 induction h with
 |nil=>exact .nil
 |@snoc ws t m h hm ih=>
  obtain⟨T1,_,n1⟩:=h.ok ok T hne
  have g:=Go.one (yP ok T1 n1 hm)
  have e:(und m.1 t).1=ow m.1.1:=Eb _ _
  have g2:Go l m.2 [ow m.1.1] t:=by rw[<-e];exact g
  have:=g2.trans ih
  rw[cj,ax]
  exact this
theorem AK {m:Mv}(hne:t≠ [])(hm:m∈mvs l t):rH m∈mvs l (t.reverse.map oth):=by
 rw[Bv hne]
 rcases az.mp hm with z |z
 ·exact aD _ (ak.mpr ⟨m,z,rfl⟩)
 ·exact aK _ (ak.mpr ⟨m,z,rfl⟩)
theorem Go.turn (ok:fb l)(T:fT l s)(hne:s≠ [])(h:Go l s ws t):Go l (s.reverse.map oth) (ws.map ow) (t.reverse.map oth):=by
 induction h with
 |nil=>exact .nil
 |@snoc ws t m h hm ih=>
  have n1:=(h.ok ok T hne).2.2
  have:=ih.snoc (AK n1 hm)
  rw[ax]
  exact this
theorem Go.wide {l':Ln}(hj:∀ e x,x∈jn l.2 e->x∈jn l'.2 e)(h:Go l s ws t):Go l' s ws t:=by
 induction h with
 |nil=>exact .nil
 |@snoc ws t m h hm ih=>
  refine ih.snoc ?_
  have hf:∀ e x,x∈fr l t e->x∈fr l' t e:=λe x z=>ly.mpr ⟨hj _ _ (ly.mp z).1,(ly.mp z).2⟩
  rcases az.mp hm with z |z
  ·obtain⟨e,he,rfl⟩:=ak.mp z
   exact aK _ (ak.mpr ⟨e,hf _ _ he,rfl⟩)
  ·obtain⟨e,he,rfl⟩:=ak.mp z
   exact aD _ (ak.mpr ⟨e,hf _ _ he,rfl⟩)
theorem Go.gd (h:Go l s ws t):Gd l s ws.length t:=by
 induction h with
 |nil=>rfl
 |snoc _ hm ih=>rw[ai];exact⟨_,ih,_,hm,rfl⟩
theorem Go.way (h:Go l s ws t):∃ run bs,Way l s run bs/\bs[run.length]? = some t/\run.map (·.1)=ws:=by
 induction h with
 |nil=>exact⟨[],[s],⟨rfl,rfl,λj k b b' hk=>by simp at hk⟩,rfl,rfl⟩
 |@snoc ws t m h hm ih=>
  obtain⟨run,bs,W,hb,e⟩:=ih
  refine⟨run ++ [m.1],bs ++ [m.2],W.snoc hb hm,?_,by rw[ax,e];rfl⟩
  rw[ai,aE,aw (by rw[W.len];omega),W.len,aV]
  rfl
theorem Way.go {run:List (Str×Int)}{bs:List (List Int)}(W:Way l s run bs):∀ j,j<=run.length->∃ b,bs[j]? = some b/\Go l s ((run.take j).map (·.1)) b
 | 0,_=>⟨s,W.first,.nil⟩
 |j+1,hj=>by
  obtain⟨b,hb,g⟩:=Way.go W j (by omega)
  have h1:j+1<bs.length:=by rw[W.len];omega
  have h2:run[j]? = some run[j]:=af (by omega)
  have hm:=W.step j _ _ _ h2 hb (af h1)
  refine⟨_,af h1,?_⟩
  rw[aZ,h2,ax]
  exact g.snoc hm
theorem Way.goL {run:List (Str×Int)}{bs:List (List Int)}(W:Way l s run bs)(hb:bs[run.length]? = some t):Go l s (run.map (·.1)) t:=by
 obtain⟨b,h1,g⟩:=W.go run.length (av _)
 rw[hb]at h1
 cases h1
 rwa [bo]at g
theorem uF (i:Nat):∀ e∈eT l s i,∃ ws,Go l s ws e.1:=uE (λt=>∃ ws,Go l s ws t) ⟨[],.nil⟩ (λ_ _ ⟨_,h⟩ hm=>⟨_,h.snoc hm⟩) i
theorem oY (ok:fb l)(T:fT l s)(hne:s≠ []){i:Nat}(hi:(eT l s i).length=i)(h:Go l s ws t):t∈(eT l s i).map (·.1):=by
 obtain⟨_,h0,hsh⟩:=kd ok T hne hi
 induction h with
 |nil=>exact h0
 |snoc _ hm ih=>exact(hsh _ ih).2 _ hm
end
theorem nJ:∀ ws:List Str,(∀ w∈ws,isW w)->hU (ws.map ow)=hU ws
 |[],_=>rfl
 |[_],_=>rfl
 |a::b::r,h=>by
  have ha:=h a aC
  have hb:=h b (aA _ aC)
  have ih:=nJ (b::r) λw hw=>h w (aA _ hw)
  have e:(ow a=ow b)↔a=b:=⟨λz=>by rw[<-wM ha,<-wM hb,z],λz=>by rw[z]⟩
  show(if ow a=ow b then 0 else 1)+hU ((b::r).map ow)=(if a=b then 0 else 1)+hU (b::r)
  rw[ih]
  by_cases z:a=b
  ·rw[aL z,aL (e.mpr z)]
  ·rw[aH z,aH λy=>z (e.mp y)]
theorem xC:∀ (ws vs:List Str),hU (ws++vs)<=hU ws+hU vs+1
 |[],vs=>by show hU vs<=0+hU vs+1;omega
 |[a],[]=>by show 0<=_;omega
 |[a],b::r=>by show(if a=b then 0 else 1)+hU (b::r)<=0+hU (b::r)+1;split<;>omega
 |a::b::r,vs=>by
  have ih:=xC (b::r) vs
  show(if a=b then 0 else 1)+hU ((b::r)++vs)<=((if a=b then 0 else 1)+hU (b::r))+hU vs+1
  omega
theorem zE:∀ ws:List Str,hU ws<=ws.length-1
 |[]=>av _
 |[_]=>av _
 |a::b::r=>by
  have ih:=zE (b::r)
  show(if a=b then 0 else 1)+hU (b::r)<=_
  simp only[bc]at ih ⊢
  split<;>omega
theorem sX:∀ ws:List Str,hU ws.reverse=hU ws
 |[]=>rfl
 |[_]=>rfl
 |a::b::r=>by
  have ih:=sX (b::r)
  have e:(a::b::r).reverse=r.reverse ++ [b] ++ [a]:=by simp
  rw[e,oz]
  have e2:r.reverse ++ [b]=(b::r).reverse:=by simp
  rw[e2,ih]
  show _=(if a=b then 0 else 1)+hU (b::r)
  by_cases z:a=b
  ·rw[aL z,aL z.symm];omega
  ·rw[aH z,aH λy=>z y.symm];omega
section
variable {m:Int}{nm es:List Int}{js js':List (Int×Int)}{s t u:List Int}{ws:List Str}
def In (m:Int)(t:List Int):Prop:=∀ e∈t,0<=e/\e<2*m
theorem F3 (es:List Int)(e x:Int):rj es (min e x,max e x)=(min (rho es e) (rho es x),max (rho es e) (rho es x)):=by
 unfold rj
 rcases Int.le_total e x with h |h
 ·rw[cA h,cv h]
 ·rw[cG h,cN h,Int.min_comm,Int.max_comm]
theorem BB (G:ib (m,js))(R:Ren m nm es)(hp:js'.Perm (js.map (rj es))){e x:Int}(h:x∈jn js e):rho es x∈jn js' (rho es e):=by
 have h2:=(lS (l:=(m,js)) G.gI).mp h
 refine(lS (l:=(m,js')) (R.line G hp).gI).mpr (hp.mem_iff.mpr ?_)
 rw[<-F3]
 exact ak.mpr ⟨_,h2,rfl⟩
theorem C7 (G:ib (m,js))(R:Ren m nm es)(hp:js'.Perm (js.map (rj es))){e y:Int}(e0:0<=e)(e1:e<2*m)(h:y∈jn js' (rho es e)):∃ x,y=rho es x/\x∈jn js e:=by
 have h2:=hp.mem_iff.mp ((lS (l:=(m,js')) (R.line G hp).gI).mp h)
 obtain⟨p,hpm,ep⟩:=ak.mp h2
 obtain⟨⟨a0,a1⟩,⟨b0,b1⟩,_,_⟩:=id (G.ok p hpm)
 have le:=(G.ok p hpm).lt
 unfold rj at ep
 rw[Prod.mk.injEq]at ep
 have hm:(min p.1 p.2,max p.1 p.2)=p:=by rw[cA (by omega),cv (by omega)]
 rcases DP ep.1 ep.2 with⟨x,y'⟩|⟨x,y'⟩
 ·have:=R.inj a0 a1 e0 e1 x
  refine⟨p.2,y'.symm,(lS (l:=(m,js)) G.gI).mpr ?_⟩
  rw[<-this,hm];exact hpm
 ·have:=R.inj b0 b1 e0 e1 y'
  refine⟨p.1,x.symm,(lS (l:=(m,js)) G.gI).mpr ?_⟩
  rw[<-this,Int.min_comm,Int.max_comm,hm];exact hpm
theorem Bb (R:Ren m nm es)(ht:In m t){x:Int}(x0:0<=x)(x1:x<2*m):rho es x/2∈(t.map (rho es)).map (· / 2)↔x/2∈t.map (· / 2):=by
 constructor
 ·intro h
  rw[bx]at h
  obtain⟨y,hy,e⟩:=ak.mp h
  obtain⟨y0,y1⟩:=ht y hy
  have e:rho es y/2=rho es x/2:=e
  rw[R.oJ y0 y1,R.oJ x0 x1]at e
  have:=R.vp (by omega) (by omega) (by omega) (by omega) e
  exact ak.mpr ⟨y,hy,this⟩
 ·intro h
  obtain⟨y,hy,e⟩:=ak.mp h
  obtain⟨y0,y1⟩:=ht y hy
  rw[bx]
  refine ak.mpr ⟨y,hy,?_⟩
  show rho es y/2=rho es x/2
  rw[R.oJ y0 y1,R.oJ x0 x1]
  have e:y/2=x/2:=e
  rw[e]
end
section
variable {m:Int}{nm es:List Int}{js js':List (Int×Int)}{s t u:List Int}{ws:List Str}
theorem xf (f:Int->Int)(hne:t≠ []):(t.map f).getLastD 0=f (t.getLastD 0):=by
 obtain⟨r,z,rfl⟩:∃ r z,t=r ++ [z]:=⟨t.dropLast,t.getLast hne,(bP hne).symm⟩
 simp
theorem head_map (f:Int->Int)(hne:t≠ []):(t.map f).headD 0=f (t.headD 0):=by
 cases t with
 |nil=>exact absurd rfl hne
 |cons x r=>rfl
theorem zj (hi:In m t)(hne:t≠ []):0<=t.getLastD 0/\t.getLastD 0<2*m:=by
 obtain⟨r,z,rfl⟩:∃ r z,t=r ++ [z]:=⟨t.dropLast,t.getLast hne,(bP hne).symm⟩
 simpa using hi z (by simp)
theorem Df (hi:In m t)(hne:t≠ []):0<=t.headD 0/\t.headD 0<2*m:=by
 cases t with
 |nil=>exact absurd rfl hne
 |cons x r=>exact hi x aC
theorem CN {x:Int}(h:0<=x/\x<2*m):0<=oth x/\oth x<2*m:=by unfold oth;omega
theorem BP (G:ib (m,js))(R:Ren m nm es)(hp:js'.Perm (js.map (rj es)))(hi:In m t){e x:Int}(h:x∈fr (m,js) t e):rho es x∈fr (m,js') (t.map (rho es)) (rho es e):=by
 obtain⟨h1,h2⟩:=ly.mp h
 obtain⟨x0,x1⟩:=mW (l:=(m,js)) G.gI h1
 exact ly.mpr ⟨BB G R hp h1,λz=>h2 ((Bb R hi x0 x1).mp z)⟩
theorem zu (G:ib (m,js))(R:Ren m nm es)(hp:js'.Perm (js.map (rj es)))(hi:In m t){e y:Int}(he:0<=e/\e<2*m)(h:y∈fr (m,js') (t.map (rho es)) (rho es e)):∃ x,y=rho es x/\x∈fr (m,js) t e:=by
 obtain⟨h1,h2⟩:=ly.mp h
 obtain⟨x,rfl,hx⟩:=C7 G R hp he.1 he.2 h1
 obtain⟨x0,x1⟩:=mW (l:=(m,js)) G.gI hx
 exact⟨x,rfl,ly.mpr ⟨hx,λz=>h2 ((Bb R hi x0 x1).mpr z)⟩⟩
def mvR (es:List Int)(k:Mv):Mv:=((k.1.1,rho es k.1.2),k.2.map (rho es))
theorem Bf (es:List Int)(t:List Int)(e:Int):mvR es (onM t e)=onM (t.map (rho es)) (rho es e):=by
 unfold mvR onM
 rw[ax,cO];rfl
theorem xI (R:Ren m nm es)(t:List Int){e:Int}(he:0<=e/\e<2*m):mvR es (jw t e)=jw (t.map (rho es)) (rho es e):=by
 unfold mvR jw
 rw[aQ,R.oth he.1 he.2,List.map_dropLast]
theorem EM (G:ib (m,js))(R:Ren m nm es)(hp:js'.Perm (js.map (rj es)))(hi:In m t)(hne:t≠ []){k:Mv}(h:k∈mvs (m,js) t):mvR es k∈mvs (m,js') (t.map (rho es)):=by
 have hl:=zj hi hne
 rcases az.mp h with z |z
 ·obtain⟨e,he,rfl⟩:=ak.mp z
  rw[Bf]
  refine aK _ (ak.mpr ⟨_,?_,rfl⟩)
  rw[xf _ hne,<-R.oth hl.1 hl.2]
  exact BP G R hp hi he
 ·obtain⟨e,he,rfl⟩:=ak.mp z
  rw[xI R t (mW (l:=(m,js)) G.gI (ly.mp he).1)]
  refine aD _ (ak.mpr ⟨_,?_,rfl⟩)
  rw[head_map _ hne]
  exact BP G R hp hi he
theorem C1 (G:ib (m,js))(R:Ren m nm es)(hp:js'.Perm (js.map (rj es)))(hi:In m t)(hne:t≠ []){k:Mv}(h:k∈mvs (m,js') (t.map (rho es))):∃ k0∈mvs (m,js) t,k=mvR es k0:=by
 have hl:=zj hi hne
 have hh:=Df hi hne
 rcases az.mp h with z |z
 ·obtain⟨y,hy,rfl⟩:=ak.mp z
  rw[xf _ hne,<-R.oth hl.1 hl.2]at hy
  obtain⟨x,rfl,hx⟩:=zu G R hp hi (CN hl) hy
  exact⟨onM t x,aK _ (ak.mpr ⟨x,hx,rfl⟩),(Bf es t x).symm⟩
 ·obtain⟨y,hy,rfl⟩:=ak.mp z
  rw[head_map _ hne]at hy
  obtain⟨x,rfl,hx⟩:=zu G R hp hi hh hy
  exact⟨jw t x,aD _ (ak.mpr ⟨x,hx,rfl⟩),(xI R t (mW (l:=(m,js)) G.gI (ly.mp hx).1)).symm⟩
theorem Go.ren (G:ib (m,js))(R:Ren m nm es)(hp:js'.Perm (js.map (rj es)))(T:fT (m,js) s)(hne:s≠ [])(h:Go (m,js) s ws t):Go (m,js') (s.map (rho es)) ws (t.map (rho es)):=by
 induction h with
 |nil=>exact .nil
 |@snoc ws t k h hm ih=>
  obtain⟨T1,_,n1⟩:=h.ok G.gI T hne
  exact ih.snoc (EM G R hp T1.ends n1 hm)
theorem Go.F4 (G:ib (m,js))(R:Ren m nm es)(hp:js'.Perm (js.map (rj es)))(T:fT (m,js) s)(hne:s≠ [])(h:Go (m,js') (s.map (rho es)) ws u):∃ t,u=t.map (rho es)/\Go (m,js) s ws t:=by
 induction h with
 |nil=>exact⟨s,rfl,.nil⟩
 |@snoc ws v k h hm ih=>
  obtain⟨t,rfl,g⟩:=ih
  obtain⟨T1,_,n1⟩:=g.ok G.gI T hne
  obtain⟨k0,hk,rfl⟩:=C1 G R hp T1.ends n1 hm
  exact⟨k0.2,rfl,g.snoc hk⟩
theorem qF (R:Ren m nm es):∀ {a b:List Int},In m a->In m b->a.map (rho es)=b.map (rho es)->a=b
 |[],[],_,_,_=>rfl
 |x::a,y::b,ha,hb,e=>by
  rw[aQ,aQ,List.cons.injEq]at e
  obtain⟨x0,x1⟩:=ha x aC
  obtain⟨y0,y1⟩:=hb y aC
  rw[R.inj x0 x1 y0 y1 e.1,qF R (λz hz=>ha z (aA _ hz)) (λz hz=>hb z (aA _ hz)) e.2]
 |[],_::_,_,_,e=>by cases e
 |_::_,[],_,_,e=>by cases e
end
structure jm (l:Ln)(s t:List Int)(n c:Nat):Prop where
 a:∃ ws,Go l s ws t/\ws.length=n
 b:∀ ws,Go l s ws t->n<=ws.length
 x:∃ ws,Go l s ws t/\hU ws=c
 y:∀ ws,Go l s ws t->c<=hU ws
section
variable {l:Ln}{s t u:List Int}{n c n' c' n'' c'':Nat}
theorem jm.one (h:jm l s t n c)(k:jm l s t n' c'):n=n'/\c=c':=by
 obtain⟨w1,g1,e1⟩:=h.a
 obtain⟨w2,g2,e2⟩:=k.a
 obtain⟨w3,g3,e3⟩:=h.x
 obtain⟨w4,g4,e4⟩:=k.x
 have a1:=h.b _ g2
 have a2:=k.b _ g1
 have a3:=h.y _ g4
 have a4:=k.y _ g3
 omega
theorem jm.over {l':Ln}{s' t':List Int}(h:jm l s t n c)(f:∀ ws,Go l s ws t->∃ vs,Go l' s' vs t'/\vs.length=ws.length/\hU vs=hU ws)(g:∀ ws,Go l' s' ws t'->∃ vs,Go l s vs t/\vs.length=ws.length/\hU vs=hU ws):jm l' s' t' n c:=by
 refine⟨?_,λws z=>?_,?_,λws z=>?_⟩
 ·obtain⟨ws,g1,e1⟩:=h.a
  obtain⟨vs,g2,e2,_⟩:=f ws g1
  exact⟨vs,g2,e2.trans e1⟩
 ·obtain⟨vs,g2,e2,_⟩:=g ws z
  rw[<-e2];exact h.b vs g2
 ·obtain⟨ws,g1,e1⟩:=h.x
  obtain⟨vs,g2,_,e2⟩:=f ws g1
  exact⟨vs,g2,e2.trans e1⟩
 ·obtain⟨vs,g2,_,e2⟩:=g ws z
  rw[<-e2];exact h.y vs g2
theorem zr (ok:fb l)(T:fT l s)(hne:s≠ []){ws:List Str}(h:Go l s ws t):∃ vs,Go l t vs s/\vs.length=ws.length/\hU vs=hU ws:=
 ⟨_,h.oQ ok T hne,by simp,by rw[nJ _ λw hw=>h.isW ok w (ez.mp hw),sX]⟩
theorem jm.oQ (ok:fb l)(T:fT l s)(hne:s≠ [])(h:jm l s t n c):jm l t s n c:=by
 obtain⟨_,g,_⟩:=h.a
 obtain⟨T1,_,n1⟩:=g.ok ok T hne
 exact h.over (λ_ z=>zr ok T hne z) λ_ z=>zr ok T1 n1 z
theorem pg (t:List Int):(t.reverse.map oth).reverse.map oth=t:=by
 rw[<-cu,List.reverse_reverse,bx]
 have:oth ∘ oth=id:=funext λe=>kC e
 rw[this,List.map_id]
theorem jm.turn (ok:fb l)(T:fT l s)(hne:s≠ [])(h:jm l s t n c):jm l (s.reverse.map oth) (t.reverse.map oth) n c:=by
 refine h.over (λws z=>⟨_,z.turn ok T hne,by simp,nJ _ (z.isW ok)⟩) λws z=>?_
 have g:=z.turn ok (nY ok T) (by simpa using hne)
 rw[pg,pg]at g
 exact⟨_,g,by simp,nJ _ (z.isW ok)⟩
theorem jm.ren {m:Int}{nm es:List Int}{js js':List (Int×Int)}(G:ib (m,js))(R:Ren m nm es)(hp:js'.Perm (js.map (rj es)))(T:fT (m,js) s)(hne:s≠ [])(h:jm (m,js) s t n c):jm (m,js') (s.map (rho es)) (t.map (rho es)) n c:=by
 obtain⟨_,g0,_⟩:=h.a
 obtain⟨T1,_,_⟩:=g0.ok G.gI T hne
 refine h.over (λws z=>⟨_,z.ren G R hp T hne,rfl,rfl⟩) λws z=>?_
 obtain⟨t',e,g⟩:=z.F4 G R hp T hne
 obtain⟨T2,_,_⟩:=g.ok G.gI T hne
 rw[qF R T1.ends T2.ends e]
 exact⟨_,g,rfl,rfl⟩
theorem jm.tri (h:jm l s t n c)(k:jm l t u n' c')(j:jm l s u n'' c''):n''<=n+n'/\c''<=c+c'+1:=by
 obtain⟨w1,g1,e1⟩:=h.a
 obtain⟨w2,g2,e2⟩:=k.a
 obtain⟨w3,g3,e3⟩:=h.x
 obtain⟨w4,g4,e4⟩:=k.x
 have a1:=j.b _ (g1.trans g2)
 have a2:=j.y _ (g3.trans g4)
 have a3:=xC w3 w4
 rw[ai]at a1
 omega
theorem jm.le (h:jm l s t n c):c<=n-1:=by
 obtain⟨w1,g1,e1⟩:=h.a
 have a1:=h.y _ g1
 have a2:=zE w1
 omega
theorem jm.wide {l':Ln}(hj:∀ e x,x∈jn l.2 e->x∈jn l'.2 e)(h:jm l s t n c)(k:jm l' s t n' c'):n'<=n/\c'<=c:=by
 obtain⟨w1,g1,e1⟩:=h.a
 obtain⟨w3,g3,e3⟩:=h.x
 have a1:=k.b _ (g1.wide hj)
 have a2:=k.y _ (g3.wide hj)
 omega
theorem jm.of (ok:fb l)(T:fT l s)(hne:s≠ []){i r:Nat}(hi:(eT l s i).length=i)(i3:i<=300)(he:(rnd l s r).2 = []){run uV:List (Str×Int)}(p1:lC (eT l s i) t run){w:Str}(hw:isW w){a b:Nat}
  (p2:jJ (rnd l s r).1 (t,w) uV) (ha:cnt l s r (t,w)=some a) (hb:cnt l s r (t,ow w)=some b) (le:a<=b):jm l s t run.length (hU (uV.map (·.1))):=by
 obtain⟨_,h0,hsh⟩:=kd ok T hne hi
 have fN:∀ t∈(eT l s i).map (·.1),∀ m∈mvs l t,m.2∈(eT l s i).map (·.1):=λt ht=>(hsh t ht).2
 have hW:((eT l s i).map (·.1)).length<=300:=by rw[aa];omega
 have EI:=iu ok T hne i
 have pl:=wL EI.nd (kI l s i) p1
 obtain⟨b1,W1,h1⟩:=sh (mQ l s i) p1
 obtain⟨b2,W2,h2⟩:=p2.way fN h0 hW
 have ec:=p2.few fN h0 hW he ha hb le
 refine⟨⟨_,W1.goL h1,by simp⟩,λws g=>?_,⟨_,W2.goL h2,rfl⟩,λws g=>?_⟩
 ·obtain⟨n,hn,hle⟩:=xO ok T hne hi _ _ g.gd
  rw[pl]at hn
  cases hn
  omega
 ·obtain⟨rn,bs,W,hb',e⟩:=g.way
  obtain⟨wd,n,hwd,hcn,hle⟩:=Cn ok fN h0 hW he W hb'
  rw[e]at hle
  rw[ec]
  by_cases z:wd=w
  ·rw[z,ha]at hcn
   cases hcn
   exact hle
  ·have e2:wd=ow w:=by
    have hn:¬Str.ofString "back" = Str.ofString "on" :=by decide +kernel
    unfold ow
    rcases hwd with f |f<;>rcases hw with g |g
    ·exact absurd (by rw[f,g]) z
    ·rw[g,aH hn,f]
    ·rw[g,aL rfl,f]
    ·exact absurd (by rw[f,g]) z
   rw[e2,hb]at hcn
   cases hcn
   omega
end
theorem uG {l l':Ln}{s s':List Int}(ok:fb l)(T:fT l s)(hne:s≠ []){i:Nat}(hi:(eT l s i).length=i)(ok':fb l')(T':fT l' s')(qm:s'≠ [])(f:List Int->List Int)(h:∀ ws t',Go l' s' ws t'->∃ vs t,Go l s vs t/\t'=f t)(j:Nat):(eT l' s' j).length<=i:=by
 have E:=iu ok' T' qm j
 have hs:∀ t'∈(eT l' s' j).map (·.1),t'∈((eT l s i).map (·.1)).map f:=λt' ht=>by
  obtain⟨e,he,rfl⟩:=ak.mp ht
  obtain⟨ws,g⟩:=uF j e he
  obtain⟨vs,t,g2,e2⟩:=h ws _ g
  exact ak.mpr ⟨t,oY ok T hne hi g2,e2.symm⟩
 have:=mV E.nd hs
 rw[aa,aa,aa,hi]at this
 exact this
end TL
namespace K35
open PySem L2 TL PyProof.Rows
abbrev St:=L2.St
def top (i:Nat):Stmt:=PySem.Challenge.pw_turnline_k35_whole_runs_there_and_back.main.body.getD i (.Pass ⟨0,0,0,0⟩)
def jf:Sp:=λvs H Q _=>∃ e:Int,vs = [.int e]/\Q (.int (oth e)) H
def uK:Sp:=λvs H Q _=>∃ e:Int,vs = [.int e]/\Q (.int (e/2)) H
def uN (K:PySem.W.Frag):Sp:=λvs H Q _=>∃ (a:Addr) (ns:List Int) (k:Int),vs = [.ref a,.int k]/\SqL K H a (ns.map V.int)/\0<=k/\∀ c,Q (.int c) H
def pZ:Sp:=λvs H Q _=>∃ c k:Int,vs = [.int c,.int k]/\0<=k/\k<=1000/\∀ n,0<=n->n<2147483648->Q (.int n) H
abbrev hZ:Stmt:=top 7
theorem uP:fk ["end"] ["end"] (eS hZ):=⟨rfl,rfl,rfl,by decide +kernel,rfl,by decide +kernel,by decide +kernel⟩
abbrev lg:Stmt:=top 8
theorem wA:fk ["end"] ["end"] (eS lg):=⟨rfl,rfl,rfl,by decide +kernel,rfl,by decide +kernel,by decide +kernel⟩
abbrev iT:Stmt:=top 43
theorem uQ:fk ["_law_end"] ["_law_end"] (eS iT):=⟨rfl,rfl,rfl,by decide +kernel,rfl,by decide +kernel,by decide +kernel⟩
abbrev jg:Stmt:=top 40
theorem rS:fk ["_law_script","_law_k"] ["_law_script","_law_k"] (eS jg):=⟨rfl,rfl,rfl,by decide +kernel,rfl,by decide +kernel,by decide +kernel⟩
abbrev jq:Stmt:=top 41
theorem kY:fk ["_law_cell","_law_k","_law_again","_law_number"] ["_law_cell","_law_k"] (eS jq):=⟨rfl,rfl,rfl,by decide +kernel,rfl,by decide +kernel,by decide +kernel⟩
section
variable {P:Program}{w:World}{K:PySem.W.Frag}{mg:Str->Option Value}{base:Heap}{f:Addr}{fd:FuncData}{D c1 c2 c3 c4 c5 c6 c7:Addr}
theorem kD (F:Fn K mg "other_end" hZ ["end"] f fd):eY P w K mg base CX0 1 f fd ["end"] jf:=by
 refine F.F.ok uP (λvs H Q E h=>?_) (λcdv A outer s H vs Q E hr h=>?_)
 ·obtain⟨e,rfl,_⟩:=h;rfl
 ·obtain⟨e,rfl,k⟩:=h
  refine⟨_,(eM (fj (eX EA (pv 0) eK))),?_⟩
  refine⟨_,rfl,_,_,rfl,rfl,?_⟩
  show Q (.int (Builtin.bitXor e 1)) H
  rw[Ck];exact k
theorem qD (F:Fn K mg "piece_of" lg ["end"] f fd):eY P w K mg base CX0 1 f fd ["end"] uK:=by
 refine F.F.ok wA (λvs H Q E h=>?_) (λcdv A outer s H vs Q E hr h=>?_)
 ·obtain⟨e,rfl,_⟩:=h;rfl
 ·obtain⟨e,rfl,k⟩:=h
  refine⟨_,(eM (fj (eX hE (pv 0) eK))),?_⟩
  exact⟨_,rfl,_,_,rfl,rfl,⟨by decide,by decide⟩,k⟩
theorem kE (F:Fn K mg "_law_other" iT ["_law_end"] f fd):eY P w K mg base CX0 1 f fd ["_law_end"] jf:=by
 refine F.F.ok uQ (λvs H Q E h=>?_) (λcdv A outer s H vs Q E hr h=>?_)
 ·obtain⟨e,rfl,_⟩:=h;rfl
 ·obtain⟨e,rfl,k⟩:=h
  refine⟨_,(eM (fj (eX vd (eX gH (pv 0) eK) (eX iL eK (eX gE (pv 0) eK))))),?_⟩
  exact⟨_,rfl,_,_,rfl,rfl,_,rfl,_,_,rfl,rfl,by show(0:Int)<2;decide,_,_,rfl,rfl,.inl ⟨by decide,by decide⟩,_,_,rfl,rfl,k⟩
theorem nE (F:Fn K mg "_law_cell_at" jg ["_law_script","_law_k"] f fd)(B:Bl mg):eY P w K mg base CX0 1 f fd ["_law_script","_law_k"] (uN K):=by
 refine F.F.ok rS (λvs H Q E h=>?_) (λcdv A outer s H vs Q E hr h=>?_)
 ·obtain⟨a,ns,k,rfl,_⟩:=h;rfl
 ·obtain⟨a,ns,k,rfl,hS,h0,q⟩:=h
  refine⟨_,(eJ (gA (fE (sf (pv 1) (fm fq rfl B.len b5 (eD (pv 0) eI))))
 (eM (fj (fh fo (pv 0) (pv 1) (λ_ _=>rfl)))) fu)
 (eM (fj eK))),?_⟩
  refine⟨_,rfl,_,rfl,a,_,rfl,.inl hS,_,_,rfl,rfl,_,rfl,fP (λhlt=>?_) (λ_=>?_)⟩
  ·have hlt:k<((ns.map V.int).length:Int):=by simpa using hlt
   rw[aa]at hlt
   have hg:(ns.map V.int)[k.toNat]? = some (V.int (ns.getD k.toNat 0)):=by
    rw[aq,aG]
    have:k.toNat<ns.length:=by omega
    simp[this]
   have e1:((k.toNat:Nat):Int)=k:=by omega
   exact⟨_,rfl,_,rfl,a,_,k,_,rfl,rfl,hS,by have h:=rm hg;rw[e1]at h;exact h,q _⟩
  ·exact q _
theorem ll (F:Fn K mg "_law_mix" jq ["_law_cell","_law_k"] f fd)(B:Bl mg):eY P w K mg base CX0 1 f fd ["_law_cell","_law_k"] pZ:=by
 refine F.F.ok kY (λvs H Q E h=>?_) (λcdv A outer s H vs Q E hr h=>?_)
 ·obtain⟨c,k,rfl,_⟩:=h;rfl
 ·obtain⟨c,k,rfl,h0,h1,q⟩:=h
  refine⟨_,(eJ (gA (fE (DL (pv 0) (eX yg eK eK)))
 (eJ (gU aX rfl (mm rfl B.range (eD (pv 1) eI)) (eU (i:=2) kY.nd rfl (Or.inl rfl))
 (eM (eW (i:=0) kY.nd rfl (Or.inl rfl) (eX hE (pv 0) (eX yg eK eK)))))
 (eM (fj (eX gE (pv 0) (eX yg eK eK))))) fu)
 (eJ (eW (i:=3) kY.nd rfl (Or.inl rfl) (eX gE (eX iL (eX gH (eX gH (eX gE (pv 0) eK) (eX iL (eX iL (pv 1) (pv 1)) eK)) (pv 1)) eK) eK))
 (eJ (eW (i:=3) kY.nd rfl (Or.inl rfl) (eX gE (eX iL (pv 3) (pv 3)) eK))
 (eM (fj (eX hE (eX gE (eX iL (pv 3) (eX gH (pv 3) eK)) eK) eK)))))),?_⟩
  refine⟨_,rfl,_,_,rfl,rfl,⟨by decide,by decide,by decide⟩,_,_,rfl,rfl,_,rfl,fP (λhlt=>?_) (λ_=>?_)⟩
  ·refine⟨_,rfl,_,rfl,by omega,by omega,ox (λi σ H2=>H2=H/\∃ (c:Int) (x:Option V),σ = [some (.int c),some (.int k),x,none]) ⟨rfl,c,none,rfl⟩ ?_ ?_⟩
   ·rintro i σ H2 hi ⟨rfl,c,x,rfl⟩
    exact⟨_,rfl,_,_,rfl,rfl,⟨by decide,by decide,by decide⟩,_,_,rfl,rfl,⟨by decide,by decide⟩,rfl,_,_,rfl⟩
   ·rintro σ H2 ⟨rfl,c,x,rfl⟩
    refine⟨_,rfl,_,_,rfl,rfl,⟨by decide,by decide,by decide⟩,_,_,rfl,rfl,(by show(0:Int)<_;decide),q _ ?_ ?_⟩
    ·show 0<=c%(10 ^ 6);omega
    ·show c%(10 ^ 6)<_;omega
  ·refine⟨_,rfl,_,_,rfl,rfl,(by show(0:Int)<_;decide),_,rfl,_,rfl,_,_,rfl,rfl,.inl ⟨by omega,by omega⟩,_,_,rfl,rfl,.inr ⟨by decide,by decide⟩,_,_,rfl,rfl,_,rfl,_,_,rfl,rfl,_,_,rfl,rfl,.inr ⟨by decide,by decide⟩,_,_,rfl,rfl,(by show(0:Int)<_;decide),?_⟩
   dsimp only
   generalize hn:(c%1000003+k*k*7919+k)*48271%2147483629=n
   have n0:0<=n:=by omega
   have n1:n<2147483629:=by omega
   refine⟨_,rfl,_,rfl,_,_,rfl,rfl,.inl ⟨by omega,by omega⟩,_,_,rfl,rfl,(by show(0:Int)<_;decide),?_⟩
   dsimp only
   generalize hm:n*n%2147483587=m
   have m0:0<=m:=by omega
   have m1:m<2147483587:=by omega
   refine⟨_,rfl,_,rfl,_,_,rfl,rfl,_,_,rfl,rfl,.inl ⟨by omega,by omega⟩,_,_,rfl,rfl,(by show(0:Int)<_;decide),_,_,rfl,rfl,⟨by decide,by decide⟩,q _ ?_ ?_⟩
   ·show 0<=m*(m+2)%2147483579/7;omega
   ·show m*(m+2)%2147483579/7<_;omega
end
theorem fH {n:Nat}(h:n<=1000):n<sizeLine:=cx h (by decide)
theorem pO {K:PySem.W.Frag}{H:Hp}{js:List (Int×Int)}{vs:List V}(h:Das K H (js.map dP) vs):vs.length=js.length:=by rw[Dgs.length h,aa]
theorem oB {l:Int×List (Int×Int)}(h:fb l)(e:Int):(below l.2 e).length+(above l.2 e).length<=60:=h.inc e
def kJ (K:PySem.W.Frag):Sp:=λvs H Q _=>∃ (v:V) (l:Int×List (Int×Int)) (e:Int),vs = [v,.int e]/\Da K H (dL l) v/\fb l/\rq H (jn l.2 e) Q
def rM (K:PySem.W.Frag):Sp:=λvs H Q _=>∃ (v:V) (ns:List Int),vs = [v]/\Da K H (dI ns) v/\ns.length<=1000/\rq H (ns.reverse.map oth) Q
def yW (K:PySem.W.Frag):Sp:=λvs H Q _=>∃ (v u:V) (l:Int×List (Int×Int)) (ns:List Int) (e:Int),vs = [v,u,.int e]/\Da K H (dL l) v/\Da K H (dI ns) u/\fb l/\ns.length<=1000/\rq H (fr l ns e) Q
def md (K:PySem.W.Frag):Sp:=λvs H Q _=>∃ (v u:V) (l:Int×List (Int×Int)) (ns:List Int),vs = [v,u]/\Da K H (dL l) v/\Da K H (dI ns) u/\fb l/\ns≠ []/\ns.length<=900/\Ci K H (mvs l ns) Q
abbrev lh:Stmt:=top 10
theorem n8:fk ["line","end","joints","above","below"] ["line","end"] (eS lh):=⟨rfl,rfl,rfl,by decide +kernel,rfl,by decide +kernel,by decide +kernel⟩
theorem nO:fX (eS lh) ["line","end","joints","above","below"] {kind:=.function,names:=[(Str.ofString ".0",.local),(Str.ofString "low",.local),(Str.ofString "high",.local),(Str.ofString "end",.free)],isGenerator:=false,isCoroutine:=false,more:=[]} ["low","high","end"] 2 [none,none,some 1]:=⟨rfl,by decide +kernel,by decide +kernel,by decide +kernel,rfl,by decide +kernel,rfl,by decide +kernel⟩
theorem nN:fX (eS lh) ["line","end","joints","above","below"] {kind:=.function,names:=[(Str.ofString ".0",.local),(Str.ofString "low",.local),(Str.ofString "high",.local),(Str.ofString "end",.free)],isGenerator:=false,isCoroutine:=false,more:=[]} ["low","high","end"] 2 [none,none,some 1]:=⟨rfl,by decide +kernel,by decide +kernel,by decide +kernel,rfl,by decide +kernel,rfl,by decide +kernel⟩
abbrev iz:Stmt:=top 44
theorem tF:fk ["_law_line_here","_law_end"] ["_law_line_here","_law_end"] (eS iz):=⟨rfl,rfl,rfl,by decide +kernel,rfl,by decide +kernel,by decide +kernel⟩
theorem ko:fX (eS iz) ["_law_line_here","_law_end"] {kind:=.function,names:=[(Str.ofString ".0",.local),(Str.ofString "_law_a",.local),(Str.ofString "_law_b",.local),(Str.ofString "_law_end",.free)],isGenerator:=false,isCoroutine:=false,more:=[]} ["_law_a","_law_b","_law_end"] 2 [none,none,some 1]:=⟨rfl,by decide +kernel,by decide +kernel,by decide +kernel,rfl,by decide +kernel,rfl,by decide +kernel⟩
theorem kn:fX (eS iz) ["_law_line_here","_law_end"] {kind:=.function,names:=[(Str.ofString ".0",.local),(Str.ofString "_law_a",.local),(Str.ofString "_law_b",.local),(Str.ofString "_law_end",.free)],isGenerator:=false,isCoroutine:=false,more:=[]} ["_law_a","_law_b","_law_end"] 2 [none,none,some 1]:=⟨rfl,by decide +kernel,by decide +kernel,by decide +kernel,rfl,by decide +kernel,rfl,by decide +kernel⟩
abbrev me:Stmt:=top 13
theorem zU:fk ["train"] ["train"] (eS me):=⟨rfl,rfl,rfl,by decide +kernel,rfl,by decide +kernel,by decide +kernel⟩
theorem qG:fX (eS me) ["train"] {kind:=.function,names:=[(Str.ofString ".0",.local),(Str.ofString "end",.local),(Str.ofString "other_end",.globalImplicit)],isGenerator:=false,isCoroutine:=false,more:=[]} ["end"] 1 [none]:=⟨rfl,by decide +kernel,by decide +kernel,by decide +kernel,rfl,by decide +kernel,rfl,by decide +kernel⟩
abbrev jr:Stmt:=top 14
theorem pA:fk ["line","train","end","pieces"] ["line","train","end"] (eS jr):=⟨rfl,rfl,rfl,by decide +kernel,rfl,by decide +kernel,by decide +kernel⟩
theorem nQ:fX (eS jr) ["line","train","end","pieces"] {kind:=.function,names:=[(Str.ofString ".0",.local),(Str.ofString "own",.local),(Str.ofString "piece_of",.globalImplicit)],isGenerator:=false,isCoroutine:=false,more:=[]} ["own"] 1 [none]:=⟨rfl,by decide +kernel,by decide +kernel,by decide +kernel,rfl,by decide +kernel,rfl,by decide +kernel⟩
theorem nP:fX (eS jr) ["line","train","end","pieces"] {kind:=.function,names:=[(Str.ofString ".0",.local),(Str.ofString "there",.local),(Str.ofString "piece_of",.globalImplicit),(Str.ofString "pieces",.free)],isGenerator:=false,isCoroutine:=false,more:=[]} ["there","pieces"] 1 [none,some 3]:=⟨rfl,by decide +kernel,by decide +kernel,by decide +kernel,rfl,by decide +kernel,rfl,by decide +kernel⟩
abbrev jP:Stmt:=top 15
theorem lJ:fk ["line","train","told","end"] ["line","train"] (eS jP):=⟨rfl,rfl,rfl,by decide +kernel,rfl,by decide +kernel,by decide +kernel⟩
abbrev kf:Stmt:=top 48
theorem jB:fk ["_law_line_here","_law_train_here","_law_end","_law_pieces","_law_found"] ["_law_line_here","_law_train_here"] (eS kf):=⟨rfl,rfl,rfl,by decide +kernel,rfl,by decide +kernel,by decide +kernel⟩
theorem nM:fX (eS kf) ["_law_line_here","_law_train_here","_law_end","_law_pieces","_law_found"] {kind:=.function,names:=[(Str.ofString ".0",.local),(Str.ofString "_law_end",.local)],isGenerator:=false,isCoroutine:=false,more:=[]} ["_law_end"] 1 [none]:=⟨rfl,by decide +kernel,by decide +kernel,by decide +kernel,rfl,by decide +kernel,rfl,by decide +kernel⟩
section
variable {P:Program}{w:World}{K:PySem.W.Frag}{mg:Str->Option Value}{base:Heap}{f:Addr}{fd:FuncData}{D c1 c2 c3 c4 c5 c6 c7:Addr}
theorem uo (F:Fn K mg "joined" lh ["line","end"] f fd)(B:Bl mg):eY P w K mg base CX0 1 f fd ["line","end"] (kJ K):=by
 refine F.F.ok n8 (λvs H Q E h=>?_) (λcdv A outer s H vs Q E hr h=>?_)
 ·obtain⟨v,l,e,rfl,_⟩:=h;rfl
 ·obtain⟨v,l,e,rfl,hv,ok,k⟩:=h
  obtain⟨a,b,rfl,ht,us,hl,hq⟩:=j9 hv
  have hlen:=pO hq
  have hz:us.length<sizeLine:=fH (by rw[hlen];have:=ok.len;omega)
  refine⟨_,(eJ (eW (i:=2) n8.nd rfl (Or.inl rfl) (fh fJ (pv 0) eK (λ_ _=>rfl)))
 (eJ (r8 (i:=3) n8.nd rfl rfl (fF (pv 2)) rfl nO (.tup (.cons (.name (by decide)) (.cons (.name (by decide)) .nil))) (λ_ _ _ _=>(g7 (n:=2) rfl (fc (eU (i:=0) nO.nd rfl (Or.inl rfl)) (fc (eU (i:=1) nO.nd rfl (Or.inl rfl)) gB)))) (λ_ _ _ _=>(lj (fE (mU (pv 0) (pv 2))))) (λ_ _ _ _=>(pv 1)))
 (eJ (r8 (i:=4) n8.nd rfl rfl (fF (pv 2)) rfl nN (.tup (.cons (.name (by decide)) (.cons (.name (by decide)) .nil))) (λ_ _ _ _=>(g7 (n:=2) rfl (fc (eU (i:=0) nN.nd rfl (Or.inl rfl)) (fc (eU (i:=1) nN.nd rfl (Or.inl rfl)) gB)))) (λ_ _ _ _=>(lj (fE (mU (pv 1) (pv 2))))) (λ_ _ _ _=>(pv 0)))
 (eM (fj (fm qI rfl B.sorted boot_sorted (eD (eX kj (pv 4) (pv 3)) eI))))))),?_⟩
  refine⟨_,rfl,a,_,_,_,rfl,rfl,ht,rfl,?_⟩
  refine⟨_,rfl,b,rfl,⟨us,hl⟩,λl1 n1=>jj l.2 (λp=>decide (p.1=e)) (λp=>V.int p.2) n1 hl hlen hz ?_ ?_⟩
  ·intro i x d H' hx hd sm P1 P0 k1 k0
   obtain⟨ad,p,e1,rfl,hp⟩:=mC (Das.same sm hq) hx
   rw[hd]at e1;cases e1
   refine⟨ad,_,rfl,hp,rfl,_,_,rfl,_,_,rfl,rfl,_,rfl,_,rfl,_,_,rfl,rfl,_,rfl,fP (λh=>⟨_,rfl,k1 h⟩) (λh=>k0 (by simpa using h))⟩
  have s1:eQ H (upd H l1 (.lst (above l.2 e |>.map V.int))):=eE n1
  have e1:((l.2.filter λp=>decide (p.1=e)).map λp=>V.int p.2)=(above l.2 e).map V.int:=by unfold above;rw[bx];rfl
  rw[e1]
  refine⟨_,rfl,b,rfl,⟨us,s1.seq hl⟩,λl2 n2=>jj l.2 (λp=>decide (p.2=e)) (λp=>V.int p.1) n2 (s1.seq hl) hlen hz ?_ ?_⟩
  ·intro i x d H' hx hd sm P1 P0 k1 k0
   obtain⟨ad,p,e1,rfl,hp⟩:=mC (Das.same (s1.trans sm) hq) hx
   rw[hd]at e1;cases e1
   refine⟨ad,_,rfl,hp,rfl,_,_,rfl,_,_,rfl,rfl,_,rfl,_,rfl,_,_,rfl,rfl,_,rfl,fP (λh=>⟨_,rfl,k1 h⟩) (λh=>k0 (by simpa using h))⟩
  have e2:((l.2.filter λp=>decide (p.2=e)).map λp=>V.int p.1)=(below l.2 e).map V.int:=by unfold below;rw[bx];rfl
  rw[e2]
  have g1:(upd (upd H l1 (.lst (above l.2 e |>.map V.int))) l2 (.lst (below l.2 e |>.map V.int))) l1=some (.lst (above l.2 e |>.map V.int)):=by
   rw[eL (eN eG n2),eG]
  have hb:=oB ok e
  have s2:eQ H (upd (upd H l1 (.lst (above l.2 e |>.map V.int))) l2 (.lst (below l.2 e |>.map V.int))):=s1.trans (eE n2)
  refine⟨_,rfl,_,rfl,l2,l1,_,_,rfl,rfl,eG,g1,bI (fH (by rw[aa,aa];omega)),λp hp=>?_⟩
  refine⟨p,below l.2 e++above l.2 e,rfl,SqL.of (by rw[eG,ax]),(by rw[ai];omega),λp2 hp2=>?_⟩
  refine k p2 _ (s2.trans ((eE hp).trans (eE hp2))) (eQ.free (s2.trans (eE hp)) hp2) eG
theorem oM (F:Fn K mg "_law_joined" iz ["_law_line_here","_law_end"] f fd)(B:Bl mg):eY P w K mg base CX0 1 f fd ["_law_line_here","_law_end"] (kJ K):=by
 refine F.F.ok tF (λvs H Q E h=>?_) (λcdv A outer s H vs Q E hr h=>?_)
 ·obtain⟨v,l,e,rfl,_⟩:=h;rfl
 ·obtain⟨v,l,e,rfl,hv,ok,k⟩:=h
  obtain⟨a,b,rfl,ht,us,hl,hq⟩:=j9 hv
  have hlen:=pO hq
  have hz:us.length<sizeLine:=fH (by rw[hlen];have:=ok.len;omega)
  refine⟨_,(eM (fj (fm qI rfl B.sorted boot_sorted (eD (eX kj (mq (fF (fh fJ (pv 0) eK (λ_ _=>rfl))) rfl ko (.tup (.cons (.name (by decide)) (.cons (.name (by decide)) .nil))) (λ_ _ _ _=>(g7 (n:=2) rfl (fc (eU (i:=0) ko.nd rfl (Or.inl rfl)) (fc (eU (i:=1) ko.nd rfl (Or.inl rfl)) gB)))) (λ_ _ _ _=>(lj (fE (mU (pv 0) (pv 2))))) (λ_ _ _ _=>(pv 1))) (mq (fF (fh fJ (pv 0) eK (λ_ _=>rfl))) rfl kn (.tup (.cons (.name (by decide)) (.cons (.name (by decide)) .nil))) (λ_ _ _ _=>(g7 (n:=2) rfl (fc (eU (i:=0) kn.nd rfl (Or.inl rfl)) (fc (eU (i:=1) kn.nd rfl (Or.inl rfl)) gB)))) (λ_ _ _ _=>(lj (fE (mU (pv 1) (pv 2))))) (λ_ _ _ _=>(pv 0)))) eI)))),?_⟩
  refine⟨_,rfl,a,_,_,_,rfl,rfl,ht,rfl,b,rfl,⟨us,hl⟩,λl1 n1=>jj l.2 (λp=>decide (p.1=e)) (λp=>V.int p.2) n1 hl hlen hz ?_ ?_⟩
  ·intro i x d H' hx hd sm P1 P0 k1 k0
   obtain⟨ad,p,e1,rfl,hp⟩:=mC (Das.same sm hq) hx
   rw[hd]at e1;cases e1
   refine⟨ad,_,rfl,hp,rfl,_,_,rfl,_,_,rfl,rfl,_,rfl,_,rfl,_,_,rfl,rfl,_,rfl,fP (λh=>⟨_,rfl,k1 h⟩) (λh=>k0 (by simpa using h))⟩
  have s1:eQ H (upd H l1 (.lst (above l.2 e |>.map V.int))):=eE n1
  have e1:((l.2.filter λp=>decide (p.1=e)).map λp=>V.int p.2)=(above l.2 e).map V.int:=by unfold above;rw[bx];rfl
  rw[e1]
  refine⟨_,rfl,a,_,_,_,rfl,rfl,fv s1 ht,rfl,b,rfl,⟨us,s1.seq hl⟩,λl2 n2=>jj l.2 (λp=>decide (p.2=e)) (λp=>V.int p.1) n2 (s1.seq hl) hlen hz ?_ ?_⟩
  ·intro i x d H' hx hd sm P1 P0 k1 k0
   obtain⟨ad,p,e1,rfl,hp⟩:=mC (Das.same (s1.trans sm) hq) hx
   rw[hd]at e1;cases e1
   refine⟨ad,_,rfl,hp,rfl,_,_,rfl,_,_,rfl,rfl,_,rfl,_,rfl,_,_,rfl,rfl,_,rfl,fP (λh=>⟨_,rfl,k1 h⟩) (λh=>k0 (by simpa using h))⟩
  have e2:((l.2.filter λp=>decide (p.2=e)).map λp=>V.int p.1)=(below l.2 e).map V.int:=by unfold below;rw[bx];rfl
  rw[e2]
  have g1:(upd (upd H l1 (.lst (above l.2 e |>.map V.int))) l2 (.lst (below l.2 e |>.map V.int))) l1=some (.lst (above l.2 e |>.map V.int)):=by
   rw[eL (eN eG n2),eG]
  have hb:=oB ok e
  have s2:eQ H (upd (upd H l1 (.lst (above l.2 e |>.map V.int))) l2 (.lst (below l.2 e |>.map V.int))):=s1.trans (eE n2)
  refine⟨l1,l2,_,_,rfl,rfl,g1,eG,bI (fH (by rw[aa,aa];omega)),λp hp=>?_⟩
  refine⟨p,above l.2 e++below l.2 e,rfl,SqL.of (by rw[eG,ax]),(by rw[ai];omega),λp2 hp2=>?_⟩
  rw[Gv]
  exact k p2 _ (s2.trans ((eE hp).trans (eE hp2))) (eQ.free (s2.trans (eE hp)) hp2) eG
theorem um {f1:Addr}{fd1:FuncData}(F:Fn K mg "turned" me ["train"] f fd)(B:Bl mg)(eZ:Fn K mg "other_end" hZ ["end"] f1 fd1):eY P w K mg base CX0 2 f fd ["train"] (rM K):=by
 have ir:eY P w K mg base CX0 1 f1 fd1 ["end"] jf:=kD eZ
 refine F.F.ok zU (λvs H Q E h=>?_) (λcdv A outer s H vs Q E hr h=>?_)
 ·obtain⟨v,l,rfl,_⟩:=h;rfl
 ·obtain⟨v,ns,rfl,hv,hz,k⟩:=h
  obtain⟨a,rfl,hS⟩:=h9.mp hv
  refine⟨_,(eM (fj (mq (Ew rfl B.reversed (eD (pv 0) eI)) rfl qG (.name (by decide)) (λ_ _ _ _=>(eU (i:=0) qG.nd rfl (Or.inl rfl))) (λ_ _ _ _=>g6) (λ_ _ _ _=>(eO ir (hr.mono (by decide)) rfl eZ.m eZ.F.kp eZ.b .nil fg (eD (pv 0) eI)))))),?_⟩
  refine⟨_,rfl,a,_,rfl,hS,λl1 n1=>w5 (EY hS) ns.reverse (λ_=>true) (λe=>V.int (oth e)) n1 (by rw[aa,bu]) (by rw[aa];exact fH hz) ?_ ?_⟩
  ·intro i x d H' hx hd sm P1 P0 k1 k0
   rw[<-cu,aq,hd]at hx
   cases hx
   refine iV ?_
   exact⟨_,rfl,d,rfl,k1 rfl⟩
  rw[jv]
  refine k l1 _ (eE n1) n1 ?_
  rw[eG,bx];rfl
theorem vj {f1 f2:Addr}{fd1 fd2:FuncData}(F:Fn K mg "free_ends" jr ["line","train","end"] f fd)(B:Bl mg)(gm:Fn K mg "piece_of" lg ["end"] f1 fd1)(iH:Fn K mg "joined" lh ["line","end"] f2 fd2):
  eY P w K mg base CX0 2 f fd ["line","train","end"] (yW K):=by
 have ng:eY P w K mg base CX0 1 f1 fd1 ["end"] uK:=qD gm
 have tD:eY P w K mg base CX0 1 f2 fd2 ["line","end"] (kJ K):=uo iH B
 refine F.F.ok pA (λvs H Q E h=>?_) (λcdv A outer s H vs Q E hr h=>?_)
 ·obtain⟨v,u,l,ns,e,rfl,_⟩:=h;rfl
 ·obtain⟨v,u,l,ns,e,rfl,hv,hu,ok,hz,k⟩:=h
  obtain⟨a,rfl,hS⟩:=h9.mp hu
  refine⟨_,(eJ (eW (i:=3) pA.nd rfl (Or.inr rfl) (mq (fF (pv 1)) rfl nQ (.name (by decide)) (λ_ _ _ _=>(eU (i:=0) nQ.nd rfl (Or.inl rfl))) (λ_ _ _ _=>g6) (λ_ _ _ _=>(eO ng (hr.mono (by decide)) rfl gm.m gm.F.kp gm.b .nil fg (eD (pv 0) eI)))))
 (eM (fj (mq (fF (eO tD (hr.mono (by decide)) rfl iH.m iH.F.kp iH.b .nil fg (eD (pv 0) (eD (pv 2) eI)))) rfl nP (.name (by decide)) (λ_ _ _ _=>(eU (i:=0) nP.nd rfl (Or.inl rfl))) (λ_ _ _ _=>(lj (gN (sk (K:=K) rfl hr.units) (eO ng (hr.mono (by decide)) rfl gm.m gm.F.kp gm.b .nil fg (eD (pv 0) eI)) (pv 1) (by with_unfolding_all rfl)))) (λ_ _ _ _=>(pv 0)))))),?_⟩
  refine⟨_,rfl,a,rfl,⟨_,hS⟩,λl1 n1=>jj ns (λ_=>true) (λe=>V.int (e/2)) n1 hS (by rw[aa]) (by rw[aa];exact fH hz) ?_ ?_⟩
  ·intro i x d H' hx hd sm P1 P0 k1 k0
   rw[aq,hd]at hx
   cases hx
   refine iV ?_
   exact⟨_,rfl,d,rfl,k1 rfl⟩
  rw[jv]
  have e1:(ns.map λe=>V.int (e/2))=(ns.map (· / 2)).map V.int:=by rw[bx];rfl
  rw[e1]
  have s1:eQ H (upd H l1 (.lst ((ns.map (· / 2)).map V.int))):=eE n1
  refine⟨_,rfl,_,rfl,v,l,e,rfl,Da.same s1 hv,ok,λp H2 s2 hp hp2=>⟨p,rfl,⟨_,SqL.of hp2⟩,λl2 n2=>jj (jn l.2 e) (λt=> !decide (t/2∈ns.map (· / 2))) (λt=>V.int t) n2 (SqL.of hp2) (by rw[aa]) ?_ ?_ ?_⟩⟩
  ·rw[aa]
   refine fH ?_
   unfold jn
   rw[mR,ai]
   have:=oB ok e
   omega
  ·intro i x d H' hx hd sm P1 P0 k1 k0
   rw[aq,hd]at hx
   cases hx
   have hD:Da K H' (.list ((ns.map (· / 2)).map .int)) (.ref l1):=Da.same (s2.trans sm) (fD eG)
   refine⟨_,rfl,d,rfl,_,rfl,_,.int (d/2),hD,gS.mpr rfl,sy _,pI _,_,rfl,?_⟩
   rw[xM]
   exact fP (λh=>⟨_,rfl,k1 h⟩) (λh=>k0 (by simpa using h))
  exact k l2 _ ((s1.trans s2).trans (eE n2)) (eQ.free (s1.trans s2) n2) eG
theorem wO {f1 f2:Addr}{fd1 fd2:FuncData}(F:Fn K mg "moves_of" jP ["line","train"] f fd)(eZ:Fn K mg "other_end" hZ ["end"] f1 fd1)(ic:Fn K mg "free_ends" jr ["line","train","end"] f2 fd2)
  (lQ:eY P w K mg base CX0 2 f2 fd2 ["line","train","end"] (yW K)):eY P w K mg base CX0 3 f fd ["line","train"] (md K):=by
 have ir:eY P w K mg base CX0 1 f1 fd1 ["end"] jf:=kD eZ
 refine F.F.ok lJ (λvs H Q E h=>?_) (λcdv A outer s H vs Q E hr h=>?_)
 ·obtain⟨v,u,l,ns,rfl,_⟩:=h;rfl
 ·obtain⟨v,u,l,ns,rfl,hv,hu,ok,hne,hz,k⟩:=h
  obtain⟨a,rfl,hS⟩:=h9.mp hu
  refine⟨_,(eJ (eW (i:=2) lJ.nd rfl (Or.inl rfl) (gj eI))
 (eJ (gU aX rfl (fF (eO lQ (hr.mono (by decide)) rfl ic.m ic.F.kp ic.b .nil fg (eD (pv 0) (eD (pv 1) (eD (eO ir (hr.mono (by decide)) rfl eZ.m eZ.F.kp eZ.b .nil fg (eD (fh fo (pv 1) (nA kX eK) (λ_ _=>rfl)) eI)) eI))))) (eU (i:=3) lJ.nd rfl (Or.inl rfl))
 (eM (gF (ki aM aT aS gD (pv 2) (eD (fC (eD (fC (eD fS (eD (pv 3) eI))) (eD (eX kj (ji jY (pv 1) (jH eK) j7) (gj (eD (pv 3) eI))) eI))) eI)))))
 (eJ (gU aX rfl (fF (eO lQ (hr.mono (by decide)) rfl ic.m ic.F.kp ic.b .nil fg (eD (pv 0) (eD (pv 1) (eD (fh fo (pv 1) eK (λ_ _=>rfl)) eI))))) (eU (i:=3) lJ.nd rfl (Or.inl rfl))
 (eM (gF (ki aM aT aS gD (pv 2) (eD (fC (eD (fC (eD fS (eD (pv 3) eI))) (eD (eX kj (gj (eD (eO ir (hr.mono (by decide)) rfl eZ.m eZ.F.kp eZ.b .nil fg (eD (pv 3) eI)) eI)) (ji jY (pv 1) j7 (jH (nA kX eK)))) eI))) eI)))))
 (eM (fj (pv 2)))))),?_⟩
  refine⟨aO _,λt ht=>?_⟩
  have s1:eQ H (upd H t (.lst [])):=eE ht
  refine⟨_,rfl,_,rfl,_,rfl,_,rfl,a,_,_,_,rfl,rfl,s1.seq hS,rk hne,_,rfl,v,_,l,ns,_,rfl,Da.same s1 hv,Da.same s1 hu,ok,by omega,λp H2 s2 hp hp2=>?_⟩
  have nt:p≠t:=(eN eG hp).symm
  have KN:=yC ok ns (oth (ns.getLastD 0))
  have KO:=yC ok ns (ns.headD 0)
  refine⟨p,rfl,⟨_,SqL.of hp2⟩,ik (K:=K) (a:=p) (xs:=(fr l ns (oth (ns.getLastD 0))).map V.int) (λi σ H3=>∃ (vs:List V) (x:Option V),σ = [some v,some (.ref a),some (.ref t),x]/\eQ H H3/\H3 p=some (.lst ((fr l ns (oth (ns.getLastD 0))).map V.int))/\H3 t=some (.lst vs)/\
    Dgs (Lf H H3 t) (SqT K H3) ((((fr l ns (oth (ns.getLastD 0))).take i).map (onM ns)).map dMv) vs)
   ⟨[],none,rfl,s1.trans s2,hp2,s2 _ _ eG,fQ.mpr rfl⟩ (λi σ H3 _ ⟨_,_,_,_,h,_⟩=>SqL.of h) ?_ ?_⟩
  ·rintro i y σ H3 N R B kN _ hi ⟨vs,x,rfl,S3,hp3,ht3,D⟩
   rw[aq]at hi
   cases q:(fr l ns (oth (ns.getLastD 0)))[i]? with
   |none=>rw[q]at hi;cases hi
   |some e=>
    rw[q]at hi
    cases hi
    have hil:i<(fr l ns (oth (ns.getLastD 0))).length:=(ah.mp q).1
    refine⟨_,rfl,.inl ⟨rfl,_,SqL.of ht3⟩,_,rfl,by show 2<=sizeLine;decide,λp1 n1=>?_⟩
    refine⟨_,rfl,_,rfl,a,_,rfl,(S3.trans (eE n1)).seq hS,λp2 n2=>?_⟩
    refine⟨_,rfl,by show 1<=sizeLine;decide,λp3 n3=>?_⟩
    rw[pQ]at n3 ⊢
    refine⟨p2,p3,_,_,rfl,rfl,by rw[eL (eN eG n3),eG],eG,?_,λp4 n4=>?_⟩
    ·refine bI (fH ?_)
     rw[aa,bG]
     show ns.length-1+1<=1000
     omega
    refine⟨by show 2<=sizeLine;decide,λp5 n5=>?_⟩
    have S5:eQ H3 _:=(eE n1).trans ((eE n2).trans ((eE n3).trans ((eE n4).trans (eE (o:=.tup [.ref p1,.ref p4]) n5))))
    have lv:vs.length<=60:=by rw[D.length,aa,aa,bj];omega
    refine⟨t,vs,_,rfl,rfl,S5 _ _ ht3,fH (by omega),?_⟩
    have g1:eQ (upd H3 p1 (.tup [.str "on",.int e])) _:=(eE n2).trans ((eE n3).trans ((eE n4).trans (eE (o:=.tup [.ref p1,.ref p4]) n5)))
    have:=oo (w:= "on") (e:=e) (xs:=ns.drop 1 ++ [e]) S3 ht ht3 D S5 (g1 _ _ eG) (eQ.free ((eE n1).trans ((eE n2).trans (eE n3))) n4) (by rw[eL (eN eG n5),eG,ax];rfl) eG
    obtain⟨r1,r2,r3⟩:=this
    refine kN _ _ ⟨_,_,rfl,r1,?_,r2,?_⟩
    ·rw[eL nt];exact S5 _ _ hp3
    ·rw[oI (onM ns) _ i e q];exact r3
  rintro σ H3 ⟨vs,x,rfl,S3,hp3,ht3,D⟩
  rw[aa,bo]at D
  refine⟨_,rfl,_,rfl,_,rfl,a,_,_,_,rfl,rfl,S3.seq hS,mG hne,v,_,l,ns,_,rfl,Da.same S3 hv,Da.same S3 hu,ok,by omega,λp' H4 s4 hp' hp4=>?_⟩
  have nt':p'≠t:=(eN ht3 hp').symm
  have D4:Dgs (Lf H H4 t) (SqT K H4) (((fr l ns (oth (ns.getLastD 0))).map (onM ns)).map dMv) vs:=Dgs.mono (λa us ⟨h1,h2,h3⟩=>⟨s4 _ _ h1,h2,h3⟩) (λa us h=>fv s4 h) D
  refine⟨p',rfl,⟨_,SqL.of hp4⟩,ik (K:=K) (a:=p') (xs:=(fr l ns (ns.headD 0)).map V.int) (λi σ H3=>∃ (vs:List V) (x:Option V),σ = [some v,some (.ref a),some (.ref t),x]/\eQ H H3/\H3 p'=some (.lst ((fr l ns (ns.headD 0)).map V.int))/\H3 t=some (.lst vs)/\
    Dgs (Lf H H3 t) (SqT K H3) (((fr l ns (oth (ns.getLastD 0))).map (onM ns)++((fr l ns (ns.headD 0)).take i).map (jw ns)).map dMv) vs)
   ⟨vs,x,rfl,S3.trans s4,hp4,s4 _ _ ht3,by simpa using D4⟩ (λi σ H3 _ ⟨_,_,_,_,h,_⟩=>SqL.of h) ?_ ?_⟩
  ·rintro i y σ H3 N R B kN _ hi ⟨vs,x,rfl,S3,hp3,ht3,D⟩
   rw[aq]at hi
   cases q:(fr l ns (ns.headD 0))[i]? with
   |none=>rw[q]at hi;cases hi
   |some e=>
    rw[q]at hi
    cases hi
    have hil:i<(fr l ns (ns.headD 0)).length:=(ah.mp q).1
    refine⟨_,rfl,.inl ⟨rfl,_,SqL.of ht3⟩,_,rfl,by show 2<=sizeLine;decide,λp1 n1=>?_⟩
    refine⟨_,rfl,e,rfl,by show 1<=sizeLine;decide,λp2 n2=>?_⟩
    refine⟨_,rfl,_,rfl,_,rfl,a,_,rfl,(S3.trans ((eE n1).trans (eE n2))).seq hS,λp3 n3=>?_⟩
    have ec:lI (ns.map V.int) none (some (-1))=ns.dropLast.map V.int:=sT ns
    refine⟨p2,p3,_,_,rfl,rfl,by rw[eL (eN eG n3),eG],eG,?_,λp4 n4=>?_⟩
    ·refine bI (fH ?_)
     show 1+(lI (ns.map V.int) none (some (-1))).length<=1000
     rw[ec,aa,cB]
     omega
    refine⟨by show 2<=sizeLine;decide,λp5 n5=>?_⟩
    have S5:eQ H3 _:=(eE n1).trans ((eE n2).trans ((eE n3).trans ((eE n4).trans (eE (o:=.tup [.ref p1,.ref p4]) n5))))
    have lv:vs.length<=120:=by rw[D.length,aa,ai,aa,aa,bj];omega
    refine⟨t,vs,_,rfl,rfl,S5 _ _ ht3,fH (by omega),?_⟩
    have g1:eQ (upd H3 p1 (.tup [.str "back",.int e])) _:=(eE n2).trans ((eE n3).trans ((eE n4).trans (eE (o:=.tup [.ref p1,.ref p4]) n5)))
    have:=oo (w:= "back") (e:=e) (xs:=oth e::ns.dropLast) S3 ht ht3 D S5 (g1 _ _ eG) (eQ.free ((eE n1).trans ((eE n2).trans (eE n3))) n4) (by
     rw[eL (eN eG n5),eG]
     show some (HO.lst ([V.int (oth e)]++lI (ns.map V.int) none (some (-1))))=_
     rw[ec];rfl) eG
    obtain⟨r1,r2,r3⟩:=this
    refine kN _ _ ⟨_,_,rfl,r1,?_,r2,?_⟩
    ·rw[eL nt'];exact S5 _ _ hp3
    ·rw[oI (jw ns) _ i e q,<-bY];exact r3
  rintro σ H3 ⟨vs,x,rfl,S3,hp3,ht3,D⟩
  rw[aa,bo]at D
  exact⟨_,rfl,k t vs H3 S3 ht ht3 D⟩
theorem vi {f1 f2:Addr}{fd1 fd2:FuncData}(F:Fn K mg "_law_moves" kf ["_law_line_here","_law_train_here"] f fd)(fe:Fn K mg "_law_other" iT ["_law_end"] f1 fd1)(fK:Fn K mg "_law_joined" iz ["_law_line_here","_law_end"] f2 fd2)
  (B:Bl mg):eY P w K mg base CX0 2 f fd ["_law_line_here","_law_train_here"] (md K):=by
 have ia:eY P w K mg base CX0 1 f1 fd1 ["_law_end"] jf:=kE fe
 have kG:eY P w K mg base CX0 1 f2 fd2 ["_law_line_here","_law_end"] (kJ K):=oM fK B
 refine F.F.ok jB (λvs H Q E h=>?_) (λcdv A outer s H vs Q E hr h=>?_)
 ·obtain⟨v,u,l,ns,rfl,_⟩:=h;rfl
 ·obtain⟨v,u,l,ns,rfl,hv,hu,ok,hne,hz,k⟩:=h
  obtain⟨a,rfl,hS⟩:=h9.mp hu
  refine⟨_,(eJ (r8 (i:=3) jB.nd rfl rfl (fF (pv 1)) rfl nM (.name (by decide)) (λ_ _ _ _=>(eU (i:=0) nM.nd rfl (Or.inl rfl))) (λ_ _ _ _=>g6) (λ_ _ _ _=>(eX hE (pv 0) eK)))
 (eJ (eW (i:=4) jB.nd rfl (Or.inl rfl) (gj eI))
 (eJ (gU aX rfl (fF (eO kG (hr.mono (by decide)) rfl fK.m fK.F.kp fK.b .nil fg (eD (pv 0) (eD (eO ia (hr.mono (by decide)) rfl fe.m fe.F.kp fe.b .nil fg (eD (fh fo (pv 1) (nA kX eK) (λ_ _=>rfl)) eI)) eI)))) (eU (i:=2) jB.nd rfl (Or.inl rfl))
 (eM (gA (gN (kO hr.units) (eX hE (pv 2) eK) (pv 3) (by with_unfolding_all rfl))
 (eM (gF (ki aM aT aS gD (pv 4) (eD (fC (eD (fC (eD fS (eD (pv 2) eI))) (eD (eX kj (ji jY (pv 1) (jH eK) j7) (gj (eD (pv 2) eI))) eI))) eI)))) fu)))
 (eJ (gU aX rfl (fF (eO kG (hr.mono (by decide)) rfl fK.m fK.F.kp fK.b .nil fg (eD (pv 0) (eD (fh fo (pv 1) eK (λ_ _=>rfl)) eI)))) (eU (i:=2) jB.nd rfl (Or.inl rfl))
 (eM (gA (gN (kO hr.units) (eX hE (pv 2) eK) (pv 3) (by with_unfolding_all rfl))
 (eM (gF (ki aM aT aS gD (pv 4) (eD (fC (eD (fC (eD fS (eD (pv 2) eI))) (eD (eX kj (gj (eD (eO ia (hr.mono (by decide)) rfl fe.m fe.F.kp fe.b .nil fg (eD (pv 2) eI)) eI)) (ji jY (pv 1) j7 (jH (nA kX eK)))) eI))) eI)))) fu)))
 (eM (fj (pv 4))))))),?_⟩
  refine⟨_,rfl,a,rfl,⟨_,hS⟩,λpc n0=>jj ns (λ_=>true) (λe=>V.int (e/2)) n0 hS (by rw[aa]) (by rw[aa];exact fH (by omega)) ?_ ?_⟩
  ·intro i x d H' hx hd sm P1 P0 k1 k0
   rw[aq,hd]at hx
   cases hx
   refine iV ?_
   exact⟨_,rfl,_,_,rfl,rfl,⟨by decide,by decide⟩,k1 rfl⟩
  rw[jv]
  have e1:(ns.map λe=>V.int (e/2))=(ns.map (· / 2)).map V.int:=by rw[bx];rfl
  rw[e1]
  have s0:eQ H (upd H pc (.lst ((ns.map (· / 2)).map V.int))):=eE n0
  have hpc:(upd H pc (.lst ((ns.map (· / 2)).map V.int))) pc=some (.lst ((ns.map (· / 2)).map V.int)):=eG
  generalize hH0:upd H pc (.lst ((ns.map (· / 2)).map V.int))=H0 at s0 hpc
  refine⟨aO _,λt ht=>?_⟩
  have s1:eQ H0 (upd H0 t (.lst [])):=eE ht
  have S1:eQ H (upd H0 t (.lst [])):=s0.trans s1
  refine⟨_,rfl,_,rfl,_,rfl,a,_,_,_,rfl,rfl,S1.seq hS,rk hne,_,rfl,v,l,_,rfl,Da.same S1 hv,ok,λp H2 s2 hp hp2=>?_⟩
  have nt:p≠t:=(eN eG hp).symm
  have KN:=yq ok (oth (ns.getLastD 0))
  have KO:=yq ok (ns.headD 0)
  refine⟨p,rfl,⟨_,SqL.of hp2⟩,ik (K:=K) (a:=p) (xs:=(jn l.2 (oth (ns.getLastD 0))).map V.int) (λi σ H3=>∃ (vs:List V) (x:Option V),σ = [some v,some (.ref a),x,some (.ref pc),some (.ref t)]/\eQ H0 H3/\H3 p=some (.lst ((jn l.2 (oth (ns.getLastD 0))).map V.int))/\H3 t=some (.lst vs)/\
    Dgs (Lf H0 H3 t) (SqT K H3) (((((jn l.2 (oth (ns.getLastD 0))).take i).filter λt=> !decide (t/2∈ns.map (· / 2))).map (onM ns)).map dMv) vs)
   ⟨[],none,rfl,s1.trans s2,hp2,s2 _ _ eG,fQ.mpr rfl⟩ (λi σ H3 _ ⟨_,_,_,_,h,_⟩=>SqL.of h) ?_ ?_⟩
  ·rintro i y σ H3 N R B kN _ hi ⟨vs,x,rfl,S3,hp3,ht3,D⟩
   rw[aq]at hi
   cases q:(jn l.2 (oth (ns.getLastD 0)))[i]? with
   |none=>rw[q]at hi;cases hi
   |some e=>
    rw[q]at hi
    cases hi
    have hil:i<(jn l.2 (oth (ns.getLastD 0))).length:=(ah.mp q).1
    have st:=take_succ_filter (λt=> !decide (t/2∈ns.map (· / 2))) _ i e q
    refine⟨_,rfl,_,_,rfl,rfl,⟨by decide,by decide⟩,_,rfl,_,.int (e/2),fD (S3 _ _ hpc),gS.mpr rfl,sy _,pI _,_,rfl,?_⟩
    rw[xM]
    refine fP (c:=(!decide (e/2∈ns.map (· / 2)))=true) (λhc=>?_) (λhc=>?_)
    ·refine⟨_,rfl,.inl ⟨rfl,_,SqL.of ht3⟩,_,rfl,by show 2<=sizeLine;decide,λp1 n1=>?_⟩
     refine⟨_,rfl,_,rfl,a,_,rfl,((s0.trans S3).trans (eE n1)).seq hS,λp2 n2=>?_⟩
     refine⟨_,rfl,by show 1<=sizeLine;decide,λp3 n3=>?_⟩
     rw[pQ]at n3 ⊢
     refine⟨p2,p3,_,_,rfl,rfl,by rw[eL (eN eG n3),eG],eG,?_,λp4 n4=>?_⟩
     ·refine bI (fH ?_)
      rw[aa,bG]
      show ns.length-1+1<=1000
      omega
     refine⟨by show 2<=sizeLine;decide,λp5 n5=>?_⟩
     have S5:eQ H3 _:=(eE n1).trans ((eE n2).trans ((eE n3).trans ((eE n4).trans (eE (o:=.tup [.ref p1,.ref p4]) n5))))
     have lv:vs.length<=60:=by
      rw[D.length,aa,aa]
      refine bz (bO _ _) ?_
      rw[bj];omega
     refine⟨t,vs,_,rfl,rfl,S5 _ _ ht3,fH (by omega),?_⟩
     have g1:eQ (upd H3 p1 (.tup [.str "on",.int e])) _:=(eE n2).trans ((eE n3).trans ((eE n4).trans (eE (o:=.tup [.ref p1,.ref p4]) n5)))
     obtain⟨r1,r2,r3⟩:=oo (w:= "on") (e:=e) (xs:=ns.drop 1 ++ [e]) S3 ht ht3 D S5 (g1 _ _ eG) (eQ.free ((eE n1).trans ((eE n2).trans (eE n3))) n4) (by rw[eL (eN eG n5),eG,ax];rfl) eG
     refine kN _ _ ⟨_,_,rfl,r1,?_,r2,?_⟩
     ·rw[eL nt];exact S5 _ _ hp3
     ·rw[st,aL hc,ax];exact r3
    ·refine kN _ _ ⟨vs,_,rfl,S3,hp3,ht3,?_⟩
     rw[st,aH hc,cM];exact D
  rintro σ H3 ⟨vs,x,rfl,S3,hp3,ht3,D⟩
  rw[aa,bo]at D
  refine⟨_,rfl,_,rfl,a,_,_,_,rfl,rfl,(s0.trans S3).seq hS,mG hne,v,l,_,rfl,Da.same (s0.trans S3) hv,ok,λp' H4 s4 hp' hp4=>?_⟩
  have nt':p'≠t:=(eN ht3 hp').symm
  have D4:Dgs (Lf H0 H4 t) (SqT K H4) (((fr l ns (oth (ns.getLastD 0))).map (onM ns)).map dMv) vs:=Dgs.mono (λa us ⟨h1,h2,h3⟩=>⟨s4 _ _ h1,h2,h3⟩) (λa us h=>fv s4 h) D
  have OF:=yC ok ns (oth (ns.getLastD 0))
  refine⟨p',rfl,⟨_,SqL.of hp4⟩,ik (K:=K) (a:=p') (xs:=(jn l.2 (ns.headD 0)).map V.int) (λi σ H3=>∃ (vs:List V) (x:Option V),σ = [some v,some (.ref a),x,some (.ref pc),some (.ref t)]/\eQ H0 H3/\H3 p'=some (.lst ((jn l.2 (ns.headD 0)).map V.int))/\H3 t=some (.lst vs)/\
    Dgs (Lf H0 H3 t) (SqT K H3) (((fr l ns (oth (ns.getLastD 0))).map (onM ns)++(((jn l.2 (ns.headD 0)).take i).filter λt=> !decide (t/2∈ns.map (· / 2))).map (jw ns)).map dMv) vs)
   ⟨vs,x,rfl,S3.trans s4,hp4,s4 _ _ ht3,by simpa using D4⟩ (λi σ H3 _ ⟨_,_,_,_,h,_⟩=>SqL.of h) ?_ ?_⟩
  ·rintro i y σ H3 N R B kN _ hi ⟨vs,x,rfl,S3,hp3,ht3,D⟩
   rw[aq]at hi
   cases q:(jn l.2 (ns.headD 0))[i]? with
   |none=>rw[q]at hi;cases hi
   |some e=>
    rw[q]at hi
    cases hi
    have hil:i<(jn l.2 (ns.headD 0)).length:=(ah.mp q).1
    have st:=take_succ_filter (λt=> !decide (t/2∈ns.map (· / 2))) _ i e q
    refine⟨_,rfl,_,_,rfl,rfl,⟨by decide,by decide⟩,_,rfl,_,.int (e/2),fD (S3 _ _ hpc),gS.mpr rfl,sy _,pI _,_,rfl,?_⟩
    rw[xM]
    refine fP (c:=(!decide (e/2∈ns.map (· / 2)))=true) (λhc=>?_) (λhc=>?_)
    ·refine⟨_,rfl,.inl ⟨rfl,_,SqL.of ht3⟩,_,rfl,by show 2<=sizeLine;decide,λp1 n1=>?_⟩
     refine⟨_,rfl,e,rfl,by show 1<=sizeLine;decide,λp2 n2=>?_⟩
     refine⟨_,rfl,_,rfl,_,rfl,a,_,rfl,((s0.trans S3).trans ((eE n1).trans (eE n2))).seq hS,λp3 n3=>?_⟩
     have ec:lI (ns.map V.int) none (some (-1))=ns.dropLast.map V.int:=sT ns
     refine⟨p2,p3,_,_,rfl,rfl,by rw[eL (eN eG n3),eG],eG,?_,λp4 n4=>?_⟩
     ·refine bI (fH ?_)
      show 1+(lI (ns.map V.int) none (some (-1))).length<=1000
      rw[ec,aa,cB]
      omega
     refine⟨by show 2<=sizeLine;decide,λp5 n5=>?_⟩
     have S5:eQ H3 _:=(eE n1).trans ((eE n2).trans ((eE n3).trans ((eE n4).trans (eE (o:=.tup [.ref p1,.ref p4]) n5))))
     have lv:vs.length<=120:=by
      rw[D.length,aa,ai,aa,aa]
      have:=bO (λt=> !decide (t/2∈ns.map (· / 2))) ((jn l.2 (ns.headD 0)).take i)
      rw[bj]at this
      omega
     refine⟨t,vs,_,rfl,rfl,S5 _ _ ht3,fH (by omega),?_⟩
     have g1:eQ (upd H3 p1 (.tup [.str "back",.int e])) _:=(eE n2).trans ((eE n3).trans ((eE n4).trans (eE (o:=.tup [.ref p1,.ref p4]) n5)))
     obtain⟨r1,r2,r3⟩:=oo (w:= "back") (e:=e) (xs:=oth e::ns.dropLast) S3 ht ht3 D S5 (g1 _ _ eG) (eQ.free ((eE n1).trans ((eE n2).trans (eE n3))) n4) (by
      rw[eL (eN eG n5),eG]
      show some (HO.lst ([V.int (oth e)]++lI (ns.map V.int) none (some (-1))))=_
      rw[ec];rfl) eG
     refine kN _ _ ⟨_,_,rfl,r1,?_,r2,?_⟩
     ·rw[eL nt'];exact S5 _ _ hp3
     ·rw[st,aL hc,ax (f:=jw ns),<-bY];exact r3
    ·refine kN _ _ ⟨vs,_,rfl,S3,hp3,ht3,?_⟩
     rw[st,aH hc,cM];exact D
  rintro σ H3 ⟨vs,x,rfl,S3,hp3,ht3,D⟩
  rw[aa,bo]at D
  exact⟨_,rfl,k t vs H3 (s0.trans S3) (eQ.free s0 ht) ht3 (Dgs.mono (λa us ⟨h1,h2,h3⟩=>⟨h1,eQ.free s0 h2,h3⟩) (λ_ _ h=>h) D)⟩
end
theorem iN {n:Nat}(h:n<=1000):n<sizeLine:=cx h (by decide)
def xW (K:PySem.W.Frag):Sp:=λvs H Q _=>∃ n m:Int,vs = [.int n,.int m]/\0<=m/\m<=40/\∀ (p:Addr) (ns:List Int) (H':Hp),eQ H H'->H p=none->H' p=some (.lst (ns.map V.int))->(ns.length:Int)=m->(∀ x∈ns,0<=x/\x<m)->ns.Nodup->Q (.ref p) H'
def rN (K:PySem.W.Frag):Sp:=λvs H Q _=>∃ (v:V) (l:Ln) (c:Int),vs = [v,.int c]/\Da K H (dL l) v/\ib l/\∀ (v':V) (js':List (Int×Int)) (nm es:List Int) (H':Hp),eQ H H'->Da K H' (dL (l.1,js')) v'->Ren l.1 nm es->js'.Perm (l.2.map (rj es))->Q v' H'
abbrev ij:Stmt:=top 42
theorem iO:fk ["_law_number","_law_many","_law_told","_law_k"] ["_law_number","_law_many"] (eS ij):=⟨rfl,rfl,rfl,by decide +kernel,rfl,by decide +kernel,by decide +kernel⟩
abbrev j6:Stmt:=top 46
theorem fI:fk ["_law_line_here","_law_cell","_law_many","_law_joints","_law_names","_law_ends","_law_piece","_law_flip","_law_made","_law_k","_law_a","_law_b","_law_joint"] ["_law_line_here","_law_cell"] (eS j6):=⟨rfl,rfl,rfl,by decide +kernel,rfl,by decide +kernel,by decide +kernel⟩
section
variable {P:Program}{w:World}{K:PySem.W.Frag}{mg:Str->Option Value}{base:Heap}{f:Addr}{fd:FuncData}
theorem lL (F:Fn K mg "_law_turned_row" ij ["_law_number","_law_many"] f fd)(B:Bl mg):eY P w K mg base CX0 1 f fd ["_law_number","_law_many"] (xW K):=by
 refine F.F.ok iO (λvs H Q E h=>?_) (λcdv A outer s H vs Q E hr h=>?_)
 ·obtain⟨n,m,rfl,_⟩:=h;rfl
 ·obtain⟨n,m,rfl,h0,h1,k⟩:=h
  refine⟨_,(eJ (eW (i:=2) iO.nd rfl (Or.inl rfl) (gj eI))
 (eJ (gU aX rfl (mm rfl B.range (eD (pv 1) eI)) (eU (i:=3) iO.nd rfl (Or.inl rfl))
 (eJ (gF (ki aM eh PySem.F.type_list_insert ur (pv 2) (eD (eX gE (pv 0) (eX gH (pv 3) eK)) (eD (pv 3) eI))))
 (eM (eW (i:=0) iO.nd rfl (Or.inl rfl) (eX hE (pv 0) (eX gH (pv 3) eK))))))
 (eM (fj (pv 2))))),?_⟩
  refine⟨aO _,λt ht=>?_⟩
  refine⟨_,rfl,m,rfl,by omega,by omega,ox (λi σ H3=>∃ (n:Int) (ns:List Int) (x:Option V),σ = [some (.int n),some (.int m),some (.ref t),x]/\H3=upd H t (.lst (ns.map V.int))/\ns.length=i/\(∀ x∈ns,0<=x/\x<(i:Int))/\ns.Nodup)
   ⟨n,[],none,rfl,rfl,rfl,λx hx=>(nomatch hx),dw⟩ ?_ ?_⟩
  ·rintro i σ H3 hi ⟨n,ns,x,rfl,rfl,hlen,hb,hnd⟩
   have i0:(0:Int)+(i:Nat)=(i:Int):=by omega
   rw[i0]
   have r0:0<=n%((i:Int)+1):=bQ _ (by omega)
   have r1:n%((i:Int)+1)<(i:Int)+1:=bK _ (by omega)
   refine⟨_,rfl,.inl ⟨rfl,_,SqL.of eG⟩,_,rfl,_,rfl,_,_,rfl,rfl,_,_,rfl,rfl,(by show(0:Int)<(i:Int)+1;omega),_,rfl,t,_,_,_,rfl,rfl,eG,r0,?_,?_,?_⟩
   ·show n%((i:Int)+1)<=((ns.map V.int).length:Int)
    rw[aa,hlen];omega
   ·rw[aa,hlen];exact iN (by omega)
   refine⟨_,rfl,_,rfl,_,_,rfl,rfl,_,_,rfl,rfl,⟨by show(0:Int)<(i:Int)+1;omega,by show(i:Int)+1<1073741824;omega⟩,?_⟩
   have pm:=sa ns (n%((i:Int)+1)).toNat (i:Int)
   refine⟨_,ns.take (n%((i:Int)+1)).toNat++(i:Int)::ns.drop (n%((i:Int)+1)).toNat,_,rfl,?_,?_,?_,?_⟩
   ·rw[pf,ax,aQ,List.map_take,cO]
   ·rw[pm.length_eq,bc,hlen]
   ·intro x hx
    rcases aP.mp (pm.mem_iff.mp hx)with z |z
    ·omega
    ·have:=hb x z;omega
   ·refine pm.nodup_iff.mpr (bL.mpr ⟨λz=>?_,hnd⟩)
    have:=(hb _ z).2
    omega
  ·rintro σ H3 ⟨n,ns,x,rfl,rfl,hlen,hb,hnd⟩
   exact⟨_,rfl,k t ns _ (eE ht) ht eG (by omega) (λx hx=>by have:=hb x hx;omega) hnd⟩
end
section
variable {P:Program}{w:World}{K:PySem.W.Frag}{mg:Str->Option Value}{base:Heap}{f:Addr}{fd:FuncData}
theorem sq {f1 f2:Addr}{fd1 fd2:FuncData}(F:Fn K mg "_law_renamed" j6 ["_law_line_here","_law_cell"] f fd)(eR:Fn K mg "_law_mix" jq ["_law_cell","_law_k"] f1 fd1)(fB:Fn K mg "_law_turned_row" ij ["_law_number","_law_many"] f2 fd2)
  (B:Bl mg):eY P w K mg base CX0 2 f fd ["_law_line_here","_law_cell"] (rN K):=by
 have fM:eY P w K mg base CX0 1 f1 fd1 ["_law_cell","_law_k"] pZ:=ll eR B
 have jU:eY P w K mg base CX0 1 f2 fd2 ["_law_number","_law_many"] (xW K):=lL fB B
 refine F.F.ok fI (λvs H Q E h=>?_) (λcdv A outer s H vs Q E hr h=>?_)
 ·obtain⟨v,l,c,rfl,_⟩:=h;rfl
 ·obtain⟨v,⟨m,js⟩,c,rfl,hv,G,k⟩:=h
  have h1:1<=m:=G.one
  have h14:m<=14:=G.most
  have h40:m<=40:=by omega
  have hjl:js.length<=24:=G.len
  obtain⟨a,b,rfl,ht,us,hl,hq⟩:=j9 hv
  dsimp only at ht hq k
  refine⟨_,(eJ (oV (pv 0) (g7 (n:=2) rfl (fc (eU (i:=2) fI.nd rfl (Or.inl rfl)) (fc (eU (i:=3) fI.nd rfl (Or.inl rfl)) gB))))
 (eJ (eW (i:=4) fI.nd rfl (Or.inl rfl) (eO jU (hr.mono (by decide)) rfl fB.m fB.F.kp fB.b .nil fg (eD (eO fM (hr.mono (by decide)) rfl eR.m eR.F.kp eR.b .nil fg (eD (pv 1) (eD eK eI))) (eD (pv 2) eI))))
 (eJ (eW (i:=5) fI.nd rfl (Or.inl rfl) (gj eI))
 (eJ (gU aX rfl (mm rfl B.range (eD (pv 2) eI)) (eU (i:=6) fI.nd rfl (Or.inl rfl))
 (eJ (eW (i:=7) fI.nd rfl (Or.inl rfl) (eX gE (eO fM (hr.mono (by decide)) rfl eR.m eR.F.kp eR.b .nil fg (eD (pv 1) (eD (eX gH eK (pv 6)) eI))) eK))
 (eM (eW (i:=5) fI.nd rfl (Or.inl rfl) (eX kj (pv 5) (gj (eD (eX gH (eX iL eK (fh fo (pv 4) (pv 6) (λ_ _=>rfl))) (pv 7)) (eD (eX vd (eX gH (eX iL eK (fh fo (pv 4) (pv 6) (λ_ _=>rfl))) eK) (pv 7)) eI))))))))
 (eJ (eW (i:=8) fI.nd rfl (Or.inl rfl) (gj eI))
 (eJ (gU aX rfl (CJ rfl B.enumerate (eD (pv 3) eI)) (g7 (n:=2) rfl (fc (eU (i:=9) fI.nd rfl (Or.inl rfl)) (fc (g7 (n:=2) rfl (fc (eU (i:=10) fI.nd rfl (Or.inl rfl)) (fc (eU (i:=11) fI.nd rfl (Or.inl rfl)) gB))) gB)))
 (eJ (eW (i:=12) fI.nd rfl (Or.inl rfl) (fC (eD (fm (mF rfl) rfl B.min boot_min (eD (fh fo (pv 5) (pv 10) (λ_ _=>rfl)) (eD (fh fo (pv 5) (pv 11) (λ_ _=>rfl)) eI))) (eD (fm (kQ rfl) rfl B.max boot_max (eD (fh fo (pv 5) (pv 10) (λ_ _=>rfl)) (eD (fh fo (pv 5) (pv 11) (λ_ _=>rfl)) eI))) eI))))
 (eM (gF (ki aM eh PySem.F.type_list_insert ur (pv 8) (eD (eX gE (eO fM (hr.mono (by decide)) rfl eR.m eR.F.kp eR.b .nil fg (eD (pv 1) (eD (eX gH eK (pv 9)) eI))) (eX gH (pv 9) eK)) (eD (pv 12) eI)))))))
 (eM (fj (fC (eD (pv 2) (eD (pv 8) eI))))))))))),nm3 λR1 hR1=>?_⟩
  refine⟨_,rfl,a,_,rfl,ht,rfl,_,_,rfl,_,_,rfl,rfl,?_⟩
  refine⟨_,rfl,c,0,rfl,by decide,by decide,λn n0 n1=>⟨_,rfl,n,m,rfl,by omega,h40,λpn nm H1 s1 hn1 hn2 EK nb nnd=>?_⟩⟩
  refine⟨aO _,λq0 nq0=>?_⟩
  refine hR1 _ _ _ (nm2 λR2 hR2=>?_)
  refine⟨_,rfl,m,rfl,by omega,by omega,oZ (λi σ H3=>∃ (q:Addr) (es:List Int) (x6 x7:Option V),σ = [some (.ref a),some (.int c),some (.int m),some (.ref b),some (.ref pn),some (.ref q),x6,x7,none,none,none,none,none]/\eQ H1 H3/\H3 q=some (.lst (es.map V.int))/\es.length=2*i/\(∀ j,j<i->∃ f:Int,(f=0\/f=1)/\es[2*j]? = some (2*nm.getD j 0+f)/\es[2*j+1]? = some (2*nm.getD j 0+1-f)))
   ⟨q0,[],none,none,rfl,eE nq0,eG,rfl,λj hj=>absurd hj (df j)⟩ ?_ ?_⟩
  ·rintro i σ H3 N R B kN _ hi ⟨q,es,x6,x7,rfl,S3,hq3,qP,eb⟩
   have i0:(0:Int)+(i:Nat)=(i:Int):=by omega
   rw[i0]
   obtain⟨nx,hnx,BH,hat⟩:=qr (ns:=nm) (i:=(i:Int)) (by omega) (by omega)
   have nbx:=nb nx BH
   have hSn:SqL K H3 pn (nm.map V.int):=SqL.of (S3 _ _ hn2)
   refine⟨_,rfl,_,rfl,_,_,rfl,rfl,c,_,rfl,by show(0:Int)<=20+i;omega,by show 20+(i:Int)<=1000;omega,λn n0 n1=>⟨_,_,rfl,rfl,(by show(0:Int)<_;decide),?_⟩⟩
   refine⟨_,rfl,_,rfl,_,rfl,pn,_,_,_,rfl,rfl,hSn,hat,_,_,rfl,rfl,.inl ⟨by decide,by decide⟩,_,rfl,_,_,rfl,rfl,_,rfl,_,rfl,pn,_,_,_,rfl,rfl,hSn,hat,_,_,rfl,rfl,.inl ⟨by decide,by decide⟩,_,_,rfl,rfl,_,rfl,_,_,rfl,rfl,by show 2<=sizeLine;decide,λq1 nq1=>?_⟩
   refine⟨q,q1,_,_,rfl,rfl,by rw[eL (eN hq3 nq1)];exact hq3,eG,?_,λq2 nq2=>?_⟩
   ·refine bI (iN ?_)
    rw[aa,qP]
    show 2*i+2<=1000
    omega
   refine kN _ _ ⟨q2,es ++ [2*nx+n%2,2*nx+1-n%2],_,_,rfl,S3.trans ((eE nq1).trans (eE nq2)),?_,?_,?_⟩
   ·rw[eG,ax];rfl
   ·rw[ai,qP];show 2*i+2=_;omega
   ·intro j hj
    have BG:nm.getD i 0=nx:=by rw[aG,show i=((i:Int)).toNat by omega,hnx];rfl
    rcases cD.mp hj with z |z
    ·obtain⟨f,hf,e1,e2⟩:=eb j z
     exact⟨f,hf,by rw[aj (by omega)];exact e1,by rw[aj (by omega)];exact e2⟩
    ·subst z
     refine⟨n%2,by omega,?_,?_⟩
     ·rw[aw (by omega),qP,aV,BG];rfl
     ·rw[aw (by omega),qP,show 2*j+1-2*j=1 by omega,BG];rfl
  rintro σ H3 ⟨q,es,x6,x7,rfl,S3,hq3,qP,eb⟩
  have R:Ren m nm es:=⟨EK,nb,nnd,by omega,λj hj=>eb j (by omega)⟩
  refine⟨aO _,λt nt=>?_⟩
  have hl3:SqL K H3 b us:=(s1.trans S3).seq hl
  have hq4:Das K H3 (js.map dP) us:=Das.same (s1.trans S3) hq
  have hul:us.length=js.length:=by rw[Dgs.length hq,aa]
  refine hR2 _ _ _ ?_
  refine⟨_,rfl,b,rfl,⟨us,(eE nt).seq hl3⟩,Av (K:=K) (a:=b) (xs:=us) (λi σ H4=>∃ (vs:List V) (js':List (Int×Int)) (x9 x10 x11 x12:Option V),σ = [some (.ref a),some (.int c),some (.int m),some (.ref b),some (.ref pn),some (.ref q),x6,x7,some (.ref t),x9,x10,x11,x12]/\eQ H3 H4/\H4 t=some (.lst vs)/\Ps K H4 js' vs/\js'.length=i/\js'.Perm ((js.take i).map (rj es)))
   ⟨[],[],none,none,none,none,rfl,eE nt,eG,fQ.mpr rfl,rfl,.refl _⟩ (λi σ H4 _ ⟨_,_,_,_,_,_,_,S4,_⟩=>S4.seq hl3) ?_ ?_⟩
  ·rintro i x σ H4 p0 N R B kN _ hi ⟨vs,js',x9,x10,x11,x12,rfl,S4,ht4,D,EZ,jb⟩ n0
   have hil:i<us.length:=(ah.mp hi).1
   have S5:eQ H3 (upd H4 p0 (.tup [.int i,x])):=S4.trans (eE n0)
   obtain⟨ad,⟨ea,eb'⟩,e1,rfl,hpr⟩:=mC (Das.same S5 hq4) hi
   dsimp only at hpr
   have hbd:=G.ok (ea,eb') (ay e1)
   unfold okJ at hbd
   dsimp only at hbd
   obtain⟨xa,ga,ma,yz⟩:=qr (ns:=es) (i:=ea) hbd.1.1 (by omega)
   obtain⟨xb,gb,mb,BL⟩:=qr (ns:=es) (i:=eb') hbd.2.1.1 (by omega)
   have hrj:rj es (ea,eb')=(min xa xb,max xa xb):=by
    unfold rj rho
    dsimp only
    rw[aG,aG,ga,gb];rfl
   refine⟨p0,_,rfl,SqT.of eG,rfl,_,_,rfl,_,_,rfl,ad,_,rfl,hpr,rfl,_,_,rfl,_,_,rfl,rfl,rfl,?_⟩
   have hSe:SqL K (upd H4 p0 (.tup [.int i,.ref ad])) q (es.map V.int):=SqL.of (S5 _ _ hq3)
   refine⟨_,rfl,_,rfl,q,_,_,_,rfl,rfl,hSe,yz,_,rfl,_,rfl,q,_,_,_,rfl,rfl,hSe,BL,_,_,rfl,?_⟩
   refine⟨_,rfl,_,rfl,q,_,_,_,rfl,rfl,hSe,yz,_,rfl,_,rfl,q,_,_,_,rfl,rfl,hSe,BL,_,_,rfl,by show 2<=sizeLine;decide,λp1 n1=>?_⟩
   rw[sC,qj]
   have ht5:(upd (upd H4 p0 (.tup [.int i,.ref ad])) p1 (.tup [.int (min xa xb),.int (max xa xb)])) t=some (.lst vs):=((eE n0).trans (eE n1)) _ _ ht4
   have vl:vs.length=i:=by rw[D.len,EZ]
   refine⟨_,rfl,.inl ⟨rfl,_,SqL.of ht5⟩,_,rfl,_,rfl,_,_,rfl,rfl,c,_,rfl,by show(0:Int)<=40+i;omega,by show 40+(i:Int)<=1000;omega,λn n0' n1'=>⟨_,rfl,_,_,rfl,rfl,_,_,rfl,rfl,(by show(0:Int)<(i:Int)+1;omega),_,rfl,t,vs,_,_,rfl,rfl,ht5,?_,?_,iN (by omega),?_⟩⟩
   ·exact bQ _ (by omega)
   ·have:=bK n (show(0:Int)<(i:Int)+1 by omega)
    show n%((i:Int)+1)<=(vs.length:Int)
    omega
   have pm:=sa js' (n%((i:Int)+1)).toNat (min xa xb,max xa xb)
   refine kN _ _ ⟨_,js'.take (n%((i:Int)+1)).toNat++(min xa xb,max xa xb)::js'.drop (n%((i:Int)+1)).toNat,_,_,_,_,rfl,eQ.upd (S4.trans ((eE n0).trans (eE n1))) nt,eG,?_,?_,?_⟩
   ·exact Ps.ins (x:=(min xa xb,max xa xb)) _ (D.same ((eE n0).trans (eE n1))) ht5 eG
   ·rw[pm.length_eq,bc,EZ]
   ·rw[aZ,e1,ax]
    refine pm.trans ?_
    show((min xa xb,max xa xb)::js').Perm ((js.take i).map (rj es) ++ [rj es (ea,eb')])
    rw[hrj]
    exact(jb.cons _).trans (List.perm_append_singleton _ _).symm
  rintro σ H4 ⟨vs,js',x9,x10,x11,x12,rfl,S4,ht4,D,EZ,jb⟩
  refine⟨_,rfl,_,rfl,by show 2<=sizeLine;decide,λp np=>?_⟩
  have S5:=(eE (o:=.tup [.int m,.ref t]) np)
  rw[hul,bo]at jb
  exact k _ js' nm es _ (s1.trans (S3.trans (S4.trans S5))) (mD eG ((D.same S5).da (S5 _ _ ht4))) R jb
end
def yU (K:PySem.W.Frag):Sp:=λvs H Q _=>∃ (a:Addr) (ns:List Int),vs = [.ref a]/\SqL K H a (ns.map V.int)/\Oy K H Q
abbrev mS:Stmt:=top 45
theorem gW:fk ["_law_script","_law_cell","_law_many","_law_joints","_law_k","_law_number","_law_one","_law_other_here"] ["_law_script"] (eS mS):=⟨rfl,rfl,rfl,by decide +kernel,rfl,by decide +kernel,by decide +kernel⟩
section
variable {P:Program}{w:World}{K:PySem.W.Frag}{mg:Str->Option Value}{base:Heap}{f:Addr}{fd:FuncData}
theorem wQ {f1 f2 f3 f4:Addr}{fd1 fd2 fd3 fd4:FuncData}(F:Fn K mg "_law_line" mS ["_law_script"] f fd)(eR:Fn K mg "_law_mix" jq ["_law_cell","_law_k"] f1 fd1)(eV:Fn K mg "_law_cell_at" jg ["_law_script","_law_k"] f2 fd2)
  (fe:Fn K mg "_law_other" iT ["_law_end"] f3 fd3) (iJ:Fn K mg "_law_renamed" j6 ["_law_line_here","_law_cell"] f4 fd4) (lV:eY P w K mg base CX0 2 f4 fd4 ["_law_line_here","_law_cell"] (rN K))
  (B:Bl mg):eY P w K mg base CX0 3 f fd ["_law_script"] (yU K):=by
 have fM:eY P w K mg base CX0 1 f1 fd1 ["_law_cell","_law_k"] pZ:=ll eR B
 have gz:eY P w K mg base CX0 1 f2 fd2 ["_law_script","_law_k"] (uN K):=nE eV B
 have ia:eY P w K mg base CX0 1 f3 fd3 ["_law_end"] jf:=kE fe
 refine F.F.ok gW (λvs H Q E h=>?_) (λcdv A outer s H vs Q E hr h=>?_)
 ·obtain⟨a,ns,rfl,_⟩:=h;rfl
 ·obtain⟨a,ns,rfl,hS,k⟩:=h
  refine⟨_,(eJ (eW (i:=1) gW.nd rfl (Or.inl rfl) (eO gz (hr.mono (by decide)) rfl eV.m eV.F.kp eV.b .nil fg (eD (pv 0) (eD eK eI))))
 (eJ (eW (i:=2) gW.nd rfl (Or.inl rfl) (eX gH eK (eX gE (eO fM (hr.mono (by decide)) rfl eR.m eR.F.kp eR.b .nil fg (eD (pv 1) (eD eK eI))) eK)))
 (eJ (gA (fE (mU (eX gE (eO fM (hr.mono (by decide)) rfl eR.m eR.F.kp eR.b .nil fg (eD (pv 1) (eD eK eI))) eK) eK))
 (eM (eW (i:=2) gW.nd rfl (Or.inl rfl) (eX gH eK (eX gE (eO fM (hr.mono (by decide)) rfl eR.m eR.F.kp eR.b .nil fg (eD (pv 1) (eD eK eI))) eK)))) fu)
 (eJ (eW (i:=3) gW.nd rfl (Or.inl rfl) (gj eI))
 (eJ (gU aX rfl (mm rfl B.range (eD (eX gE (eO fM (hr.mono (by decide)) rfl eR.m eR.F.kp eR.b .nil fg (eD (pv 1) (eD eK eI))) (eX gH (eX iL eK (pv 2)) eK)) eI)) (eU (i:=4) gW.nd rfl (Or.inl rfl))
 (eJ (eW (i:=5) gW.nd rfl (Or.inl rfl) (eO fM (hr.mono (by decide)) rfl eR.m eR.F.kp eR.b .nil fg (eD (eO gz (hr.mono (by decide)) rfl eV.m eV.F.kp eV.b .nil fg (eD (pv 0) (eD (eX gH eK (eX gE (pv 4) eK)) eI))) (eD (eX gH eK (pv 4)) eI))))
 (eJ (eW (i:=6) gW.nd rfl (Or.inl rfl) (eX gE (pv 5) (eX iL eK (pv 2))))
 (eJ (eW (i:=7) gW.nd rfl (Or.inl rfl) (eX gE (eX hE (pv 5) eK) (eX iL eK (pv 2))))
 (eJ (gA (PW.pt (rW (fE (mU (eX gE (eO fM (hr.mono (by decide)) rfl eR.m eR.F.kp eR.b .nil fg (eD (pv 1) (eD eK eI))) eK) eK)) (qV (fE (mU (eX gE (pv 6) eK) (eX gE (pv 7) eK))))))
 (eM (eW (i:=7) gW.nd rfl (Or.inl rfl) (eO ia (hr.mono (by decide)) rfl fe.m fe.F.kp fe.b .nil fg (eD (pv 7) eI)))) fu)
 (eM (gA (PW.pt (rW (fE (ye (eX hE (pv 6) eK) (eX hE (pv 7) eK))) (rW (gN (kO hr.units) (fC (eD (fm (mF rfl) rfl B.min boot_min (eD (pv 6) (eD (pv 7) eI))) (eD (fm (kQ rfl) rfl B.max boot_max (eD (pv 6) (eD (pv 7) eI))) eI))) (pv 3) (by with_unfolding_all rfl)) (qV (fE (sf (fm fq rfl B.len b5 (eD (pv 3) eI)) eK))))))
 (eM (gF (ki aM aT aS gD (pv 3) (eD (fC (eD (fm (mF rfl) rfl B.min boot_min (eD (pv 6) (eD (pv 7) eI))) (eD (fm (kQ rfl) rfl B.max boot_max (eD (pv 6) (eD (pv 7) eI))) eI))) eI)))) fu)))))))
 (eM (fj (eO lV (hr.mono (by decide)) rfl iJ.m iJ.F.kp iJ.b .nil fg (eD (fC (eD (pv 2) (eD (pv 3) eI))) (eD (eO gz (hr.mono (by decide)) rfl eV.m eV.F.kp eV.b .nil fg (eD (pv 0) (eD eK eI))) eI)))))))))),?_⟩
  refine⟨_,rfl,a,ns,0,rfl,hS,by decide,λcell=>?_⟩
  refine⟨_,rfl,cell,0,rfl,by decide,by decide,λn1 _ _=>⟨_,_,rfl,rfl,(by show(0:Int)<_;decide),_,_,rfl,rfl,?_⟩⟩
  dsimp only[oP]
  refine cut (λσ H'=>H'=H/\∃ m,1<=m/\m<=14/\σ = [some (.ref a),some (.int cell),some (.int m),none,none,none,none,none]) (λN R B C kN kR=>?_) ?_
  ·refine⟨_,rfl,cell,1,rfl,by decide,by decide,λn2 _ _=>⟨_,_,rfl,rfl,(by show(0:Int)<_;decide),_,_,rfl,rfl,_,rfl,fP (λ_=>?_) (λ_=>kN _ _ ⟨rfl,1+n1%8,by omega,by omega,rfl⟩)⟩⟩
   exact⟨_,rfl,cell,0,rfl,by decide,by decide,λn3 _ _=>⟨_,_,rfl,rfl,(by show(0:Int)<_;decide),_,_,rfl,rfl,kN _ _ ⟨rfl,9+n3%6,by omega,by omega,rfl⟩⟩⟩
  rintro σ H0 ⟨e,m,m1,m2,rfl⟩
  rw[e]
  clear e
  refine⟨aO _,λt nt=>?_⟩
  refine⟨_,rfl,cell,2,rfl,by decide,by decide,λn4 n40 _=>⟨_,rfl,_,_,rfl,rfl,.inl ⟨by decide,by decide⟩,_,_,rfl,rfl,_,_,rfl,rfl,(by show(0:Int)<2*m+4;omega),?_⟩⟩
  have q0:0<=n4%(2*m+4):=bQ _ (by omega)
  have q1:n4%(2*m+4)<2*m+4:=bK _ (by omega)
  refine⟨_,rfl,by show -(2 ^ 62)<=n4%(2*m+4);omega,by show n4%(2*m+4)<2 ^ 62;omega,oZ (λi σ H3=>∃ (vs:List V) (js:List (Int×Int)) (x4 x5 x6 x7:Option V),σ = [some (.ref a),some (.int cell),some (.int m),some (.ref t),x4,x5,x6,x7]/\eQ H H3/\H3 t=some (.lst vs)/\Ps K H3 js vs/\ib (m,js))
   ⟨[],[],none,none,none,none,rfl,eE nt,eG,fQ.mpr rfl,⟨m1,m2,aO _,λp hp=>(nomatch hp),dw⟩⟩ ?_ ?_⟩
  ·rintro i σ H3 N R B kN _ hi ⟨vs,js,x4,x5,x6,x7,rfl,S3,ht3,D,G⟩
   have i0:(0:Int)+(i:Nat)=(i:Int):=by omega
   rw[i0]
   have hi':(i:Int)<32:=by
    have:(i:Int)<n4%(2*m+4):=by
     have h:i<(n4%(2*m+4)).toNat:=hi
     omega
    omega
   refine⟨_,rfl,_,rfl,_,_,rfl,rfl,(by show(0:Int)<_;decide),_,_,rfl,rfl,a,ns,_,rfl,S3.seq hS,by show(0:Int)<=2+(i:Int)%8;omega,λc5=>⟨_,rfl,_,_,rfl,rfl,c5,_,rfl,by show(0:Int)<=10+(i:Int);omega,by show 10+(i:Int)<=1000;omega,λn5 n50 n51=>?_⟩⟩
   refine⟨_,rfl,_,rfl,_,_,rfl,rfl,.inl ⟨by decide,by decide⟩,_,_,rfl,rfl,(by show(0:Int)<2*m;omega),?_⟩
   refine⟨_,rfl,_,_,rfl,rfl,⟨by decide,by decide⟩,_,rfl,_,_,rfl,rfl,.inl ⟨by decide,by decide⟩,_,_,rfl,rfl,(by show(0:Int)<2*m;omega),?_⟩
   dsimp only
   have o0:0<=n5%(2*m):=bQ _ (by omega)
   have o1:n5%(2*m)<2*m:=bK _ (by omega)
   have r0:0<=n5/64%(2*m):=bQ _ (by omega)
   have r1:n5/64%(2*m)<2*m:=bK _ (by omega)
   generalize n5%(2*m)=one at o0 o1
   generalize n5/64%(2*m)=oh at r0 r1
   dsimp only[oP]
   refine cut (λσ H'=>H'=H3/\∃ oh',0<=oh'/\oh'<2*m/\σ = [some (.ref a),some (.int cell),some (.int m),some (.ref t),some (.int (i:Int)),some (.int n5),some (.int one),some (.int oh')]) (λN2 R2 B2 C2 k2 _=>?_) ?_
   ·refine⟨_,rfl,cell,3,rfl,by decide,by decide,λn6 _ _=>⟨_,_,rfl,rfl,(by show(0:Int)<_;decide),_,_,rfl,rfl,_,rfl,fP (λ_=>?_) (λ_=>BD (k2 _ _ ⟨rfl,oh,r0,r1,rfl⟩))⟩⟩
    refine⟨_,rfl,_,_,rfl,rfl,(by show(0:Int)<_;decide),_,rfl,_,_,rfl,rfl,(by show(0:Int)<_;decide),_,_,rfl,rfl,_,rfl,fP (λ_=>?_) (λ_=>k2 _ _ ⟨rfl,oh,r0,r1,rfl⟩)⟩
    exact⟨_,rfl,oh,rfl,k2 _ _ ⟨rfl,oth oh,yf r0,by unfold oth;omega,rfl⟩⟩
   rintro σ H0 ⟨e,oh',r0',r1',rfl⟩
   rw[e]
   clear e r0 r1
   refine⟨_,rfl,_,_,rfl,rfl,⟨by decide,by decide⟩,_,rfl,_,_,rfl,rfl,⟨by decide,by decide⟩,_,_,rfl,rfl,_,rfl,?_⟩
   refine fP (λhne=>?_) (λ_=>BD (kN _ _ ⟨vs,js,_,_,_,_,rfl,S3,ht3,D,G⟩))
   refine⟨_,rfl,_,rfl,_,_,rfl,_,rfl,_,rfl,_,_,rfl,by show 2<=sizeLine;decide,λp1 n1=>?_⟩
   rw[sC,qj]
   have ht4:=(eE (o:=.tup [.int (min one oh'),.int (max one oh')]) n1) _ _ ht3
   have D4:=D.same (eE (o:=.tup [.int (min one oh'),.int (max one oh')]) n1)
   refine⟨_,rfl,_,_,D4.da ht4,gT.mpr ⟨p1,_,rfl,SqT.of eG,Dgs.two (gS.mpr rfl) (gS.mpr rfl)⟩,Bj js,DM (_,_),_,rfl,?_⟩
   refine fP (λhni=>?_) (λ_=>BD (kN _ _ ⟨vs,js,_,_,_,_,rfl,S3.trans (eE n1),ht4,D4,G⟩))
   refine⟨_,rfl,t,_,rfl,.inl (SqL.of ht4),_,_,rfl,rfl,_,rfl,?_⟩
   refine fP (λhlt=>?_) (λ_=>kN _ _ ⟨vs,js,_,_,_,_,rfl,S3.trans (eE n1),ht4,D4,G⟩)
   have hlt:(vs.length:Int)<24:=by simpa using hlt
   have vl:=D.len
   refine⟨_,rfl,.inl ⟨rfl,_,SqL.of ht4⟩,_,rfl,_,rfl,_,_,rfl,_,rfl,_,rfl,_,_,rfl,by show 2<=sizeLine;decide,λp2 n2=>?_⟩
   rw[sC,qj]
   have S5:=(eE n1).trans (eE (o:=.tup [.int (min one oh'),.int (max one oh')]) n2)
   refine⟨t,vs,_,rfl,rfl,S5 _ _ ht3,iN (by omega),?_⟩
   refine kN _ _ ⟨_,js ++ [(min one oh',max one oh')],_,_,_,_,rfl,eQ.upd (S3.trans S5) nt,eG,Ps.push (x:=(min one oh',max one oh')) (D.same S5) (S5 _ _ ht3) eG,?_⟩
   have Fc:(min one oh',max one oh')∉js:=λz=>by
    have e:=D0 js (min one oh',max one oh')
    unfold dP at e
    dsimp only at e
    unfold dP at hni
    rw[e]at hni
    simp[z]at hni
   have qm:one/2≠oh'/2:=by simpa using hne
   exact sP G qm o0 o1 r0' r1' Fc (by omega)
  ·rintro σ H3 ⟨vs,js,x4,x5,x6,x7,rfl,S3,ht3,D,G⟩
   refine⟨_,rfl,_,rfl,by show 2<=sizeLine;decide,λp np=>?_⟩
   have S4:=eE (o:=.tup [.int m,.ref t]) np
   refine⟨_,rfl,a,ns,1,rfl,(S3.trans S4).seq hS,by decide,λc7=>?_⟩
   refine⟨_,(m,js),c7,rfl,mD eG ((D.same S4).da (S4 _ _ ht3)),G,λv' js' nm es H' s5 d5 R pm=>k v' (m,js') H' (S3.trans (S4.trans s5)) d5 (R.line G pm)⟩
end
structure Xr (K:PySem.W.Frag)(mg:Str->Option Value)(c2:Addr):Prop where
 kc:Xc K mg "NoTrain" c2
 cat:DD K c2 c2
def isT (l:Ln)(ns:List Int):Prop:=ns≠ []/\fT l ns
def wq (K:PySem.W.Frag):Sp:=λvs H Q _=>∃ (v:V) (l:Int×List (Int×Int)) (e:Int),vs = [v,.int e]/\Da K H (dL l) v/\Q (.bl (decide (0<=e/\e<2*l.1))) H
def wt (K:PySem.W.Frag)(C:Addr):Sp:=λvs H Q E=>∃ (v u:V) (l:Int×List (Int×Int)) (ns:List Int),vs = [v,u]/\Da K H (dL l) v/\Da K H (dI ns) u/\fb l/\ns.length<=900/\
 (isT l ns->∀ H',eQ H H'->Q .non H')/\(¬isT l ns->∀ H',eQ H H'->∀ e,H' e=none->E (.ref C) (some e) H')
abbrev pC:Stmt:=top 9
theorem zV:fk ["line","end"] ["line","end"] (eS pC):=⟨rfl,rfl,rfl,by decide +kernel,rfl,by decide +kernel,by decide +kernel⟩
abbrev jh:Stmt:=top 12
theorem jD:fk ["line","train","end","following"] ["line","train"] (eS jh):=⟨rfl,rfl,rfl,by decide +kernel,rfl,by decide +kernel,by decide +kernel⟩
theorem mE:fX (eS jh) ["line","train","end","following"] {kind:=.function,names:=[(Str.ofString ".0",.local),(Str.ofString "end",.local),(Str.ofString "piece_of",.globalImplicit)],isGenerator:=false,isCoroutine:=false,more:=[]} ["end"] 1 [none]:=⟨rfl,by decide +kernel,by decide +kernel,by decide +kernel,rfl,by decide +kernel,rfl,by decide +kernel⟩
section
variable {P:Program}{w:World}{K:PySem.W.Frag}{mg:Str->Option Value}{base:Heap}{f:Addr}{fd:FuncData}{D c1 c2 c3 c4 c5 c6 c7:Addr}
theorem Ae (F:Fn K mg "is_end" pC ["line","end"] f fd):eY P w K mg base CX0 1 f fd ["line","end"] (wq K):=by
 refine F.F.ok zV (λvs H Q E h=>?_) (λcdv A outer s H vs Q E hr h=>?_)
 ·obtain⟨v,l,e,rfl,_⟩:=h;rfl
 ·obtain⟨v,l,e,rfl,hv,k⟩:=h
  obtain⟨a,b,rfl,ht,us,hl,hq⟩:=j9 hv
  refine⟨_,(eM (fj (A9 Gk Gj eK (pv 1) (eX iL eK (fh fJ (pv 0) eK (λ_ _=>rfl)))))),?_⟩
  refine⟨_,rfl,_,_,rfl,rfl,_,rfl,fP (λh=>?_) (λh=>?_)⟩
  ·have h:0<=e:=by simpa using h
   refine⟨_,rfl,a,_,_,_,rfl,rfl,ht,rfl,_,_,rfl,rfl,.inl ⟨by decide,by decide⟩,_,_,rfl,rfl,?_⟩
   have e1:decide (0<=e/\e<2*l.1)=decide (e<2*l.1):=by simp[h]
   rw[e1]at k
   exact k
  ·have h:¬0<=e:=by simpa using h
   have e1:decide (0<=e/\e<2*l.1)=false:=by simp[h]
   rw[e1]at k
   exact k
theorem su {f1 f2 f3 f4:Addr}{fd1 fd2 fd3 fd4:FuncData}(F:Fn K mg "check_train" jh ["line","train"] f fd)(XS:Xr K mg c2)(B:Bm mg)(mL:Fn K mg "is_end" pC ["line","end"] f1 fd1)
  (gm:Fn K mg "piece_of" lg ["end"] f2 fd2) (iH:Fn K mg "joined" lh ["line","end"] f3 fd3) (eZ:Fn K mg "other_end" hZ ["end"] f4 fd4):eY P w K mg base (CXr P w base) 2 f fd ["line","train"] (wt K c2):=by
 have Cj:eY P w K mg base CX0 1 f1 fd1 ["line","end"] (wq K):=Ae mL
 have ng:eY P w K mg base CX0 1 f2 fd2 ["end"] uK:=qD gm
 have tD:eY P w K mg base CX0 1 f3 fd3 ["line","end"] (kJ K):=uo iH B.toBl
 have ir:eY P w K mg base CX0 1 f4 fd4 ["end"] jf:=kD eZ
 refine F.F.okX jD (λvs H Q E h=>?_) (λcdv A outer s H vs Q E hr h=>?_)
 ·obtain⟨v,u,l,ns,rfl,_⟩:=h;rfl
 ·obtain⟨v,u,l,ns,rfl,hv,hu,ok,hz,k1,k2⟩:=h
  obtain⟨a,rfl,ha⟩:=h9.mp hu
  refine⟨_,(eJ (gA (qe (wF (pv 1) (λ_=>rfl)))
 (eM (kh jt rfl rfl XS.kc.m XS.kc.q bC (eD fS eI))) fu)
 (eJ (gU cW rfl (fF (pv 1)) (eU (i:=2) jD.nd rfl (Or.inl rfl))
 (eM (gA (qe (rZ (eO Cj (hr.mono (by decide)) rfl mL.m mL.F.kp mL.b .nil fg (eD (pv 0) (eD (pv 2) eI)))))
 (eM (kh jt rfl rfl XS.kc.m XS.kc.q bC (eD fS eI))) fu)))
 (eJ (gA (fE (sf (fm AB rfl B.len b5 (eD (Ge (fF (pv 1)) rfl mE (.name (by decide)) (λ_ _ _ _=>(eU (i:=0) mE.nd rfl (Or.inl rfl))) (λ_ _ _ _=>g6) (λ_ _ _ _=>(eO ng (hr.mono (by decide)) rfl gm.m gm.F.kp gm.b .nil fg (eD (pv 0) eI)))) eI)) (fm fq rfl B.len b5 (eD (pv 1) eI))))
 (eM (kh jt rfl rfl XS.kc.m XS.kc.q bC (eD fS eI))) fu)
 (eM (gU cW rfl (A3 rfl B.zip (eD (pv 1) (eD (ji jY (pv 1) (jH eK) j7) eI))) (g7 (n:=2) rfl (fc (eU (i:=2) jD.nd rfl (Or.inl rfl)) (fc (eU (i:=3) jD.nd rfl (Or.inl rfl)) gB)))
 (eM (gA (gN (kO hr.units) (pv 3) (eO tD (hr.mono (by decide)) rfl iH.m iH.F.kp iH.b .nil fg (eD (pv 0) (eD (eO ir (hr.mono (by decide)) rfl eZ.m eZ.F.kp eZ.b .nil fg (eD (pv 2) eI)) eI))) (by with_unfolding_all rfl))
 (eM (kh jt rfl rfl XS.kc.m XS.kc.q bC (eD fS eI))) fu))))))),?_⟩
  refine⟨_,rfl,_,.inl ⟨_,ha,rfl⟩,fP (λh=>?_) (λh=>?_)⟩
  ·have h:ns = []:=by simpa using h
   exact⟨by decide,λe he=>k2 (λz=>z.1 h) H (eQ.refl _) e he⟩
  have hne:ns≠ []:=by simpa using h
  refine⟨_,rfl,a,rfl,⟨_,ha⟩,nI (K:=K) (a:=a) (xs:=ns.map V.int) (λi σ H3=>∃ (x2 x3:Option V),σ = [some v,some (.ref a),x2,x3]/\H3=H/\∀ e∈ns.take i,0<=e/\e<2*l.1)
   ⟨none,none,rfl,rfl,λe he=>by simp at he⟩ (λi σ H3 _ ⟨_,_,_,e,_⟩=>e ▸ ha) ?_ ?_⟩
  ·rintro i y σ H3 hi ⟨x2,x3,rfl,rfl,al⟩
   rw[aq]at hi
   obtain⟨e,he,rfl⟩:∃ e,ns[i]? = some e/\y = .int e:=by
    cases q:ns[i]? with
    |none=>rw[q]at hi;cases hi
    |some e=>rw[q]at hi;cases hi;exact⟨e,rfl,rfl⟩
   refine⟨_,rfl,_,rfl,v,l,e,rfl,hv,_,rfl,fP (λh=>?_) (λh=>?_)⟩
   ·have h:¬(0<=e/\e<2*l.1):=λz=>by simp[z]at h
    exact⟨by decide,λx hx=>k2 (λz=>h (z.2.ends e (ay he))) H3 (eQ.refl _) x hx⟩
   ·have h:0<=e/\e<2*l.1:=by simpa using h
    refine⟨_,_,rfl,rfl,λx hx=>?_⟩
    rw[aZ,he]at hx
    rcases az.mp hx with z |z
    ·exact al x z
    ·have z:x=e:=by simpa using z
     rw[z];exact h
  rintro σ H3 ⟨x2,x3,rfl,rfl,al⟩
  rw[aa,bo]at al
  refine⟨_,rfl,a,rfl,⟨_,ha⟩,λq nq=>AS (pL ha) ns (λe=>e/2) nq (by rw[aa]) (by rw[aa];show ns.length+1<4096;omega) ?_ ?_⟩
  ·intro i x d H' hx hd sm P1 P0 p1
   rw[aq,hd]at hx
   cases hx
   refine iV ?_
   exact⟨_,rfl,d,rfl,p1⟩
  have hq3:=eG (H:=H3) (a:=q) (o:=.set (λk=>decide (k∈ns.map λe=>e/2)) (dn (ns.map λe=>e/2) (ns.map V.int).length))
  have s4:=eE (o:=.set (λk=>decide (k∈ns.map λe=>e/2)) (dn (ns.map λe=>e/2) (ns.map V.int).length)) nq
  generalize upd H3 q _=H4 at hq3 s4 ⊢
  refine⟨q,_,_,rfl,hq3,_,rfl,a,_,rfl,.inl (s4.seq ha),_,_,rfl,rfl,_,rfl,fP (λh=>?_) (λh=>?_)⟩
  ·have h:dn (ns.map λe=>e/2) (ns.map V.int).length<(ns.map V.int).length:=by simpa using h
   rw[aa]at h
   have h2:=(DU (ns.map λe=>e/2)).mp (by rw[aa];exact h)
   exact⟨by decide,λx hx=>k2 (λz=>h2 z.2.nd) H4 s4 x hx⟩
  have h:¬dn (ns.map λe=>e/2) (ns.map V.int).length<(ns.map V.int).length:=by simpa using h
  rw[aa]at h
  have nd:(ns.map λe=>e/2).Nodup:=by
   have h3:=(DU (ns.map λe=>e/2))
   rw[aa]at h3
   exact Decidable.byContradiction λz=>h (h3.mpr z)
  refine⟨_,rfl,_,rfl,_,rfl,a,_,rfl,s4.seq ha,λt nt=>?_⟩
  rw[pQ]
  have ht:=eG (H:=H4) (a:=t) (o:=.lst ((ns.drop 1).map V.int))
  have s5:=eE (o:=.lst ((ns.drop 1).map V.int)) nt
  generalize upd H4 t _=H5 at ht s5 ⊢
  have S5:=s4.trans s5
  refine⟨a,t,rfl,⟨_,S5.seq ha⟩,⟨_,SqL.of ht⟩,Dj (K:=K) (a:=a) (b:=t) (xs:=ns.map V.int) (ys:=(ns.drop 1).map V.int) (ns.length-1) (by simp)
   (λi σ H6=>∃ (x2 x3:Option V),σ = [some v,some (.ref a),x2,x3]/\eQ H5 H6/\∀ j,j<i->∀ x y,ns[j]? = some x->ns[j+1]? = some y->y∈jn l.2 (oth x))
   ⟨_,_,rfl,eQ.refl _,λj hj=>absurd hj (df j)⟩ (λi σ H6 _ ⟨_,_,_,s,_⟩=>⟨(S5.trans s).seq ha,SqL.of (s _ _ ht)⟩) ?_ ?_⟩
  ·rintro i x y σ H6 p hx hy ⟨x2,x3,rfl,s6,al2⟩ np
   rw[aq]at hx hy
   rw[dh,Nat.add_comm]at hy
   obtain⟨d,hd,rfl⟩:∃ e,ns[i]? = some e/\x = .int e:=by
    cases q:ns[i]? with
    |none=>rw[q]at hx;cases hx
    |some e=>rw[q]at hx;cases hx;exact⟨e,rfl,rfl⟩
   obtain⟨e,he,rfl⟩:∃ e,ns[i+1]? = some e/\y = .int e:=by
    cases q:ns[i+1]? with
    |none=>rw[q]at hy;cases hy
    |some e=>rw[q]at hy;cases hy;exact⟨e,rfl,rfl⟩
   have S7:=(S5.trans s6).trans (eE (o:=.tup [.int d,.int e]) np)
   have s7:=s6.trans (eE (o:=.tup [.int d,.int e]) np)
   refine⟨p,_,rfl,SqT.of eG,rfl,_,_,rfl,_,_,rfl,rfl,?_⟩
   refine⟨_,rfl,_,rfl,_,rfl,d,rfl,v,l,_,rfl,Da.same S7 hv,ok,λr H8 s8 nr hr8=>?_⟩
   refine⟨(jn l.2 (oth d)).map PyData.int,.int e,fD hr8,gS.mpr rfl,sy _,pI _,_,rfl,?_⟩
   rw[xM]
   refine fP (λh=>?_) (λh=>?_)
   ·have h:e∉jn l.2 (oth d):=by simpa using h
    exact⟨by decide,λx hx=>k2 (λz=>h (z.2.ch i d e hd he)) H8 (S7.trans s8) x hx⟩
   ·have h:e∈jn l.2 (oth d):=by simpa using h
    refine⟨_,_,rfl,s7.trans s8,λj hj x2 y2 hx2 hy2=>?_⟩
    rcases cD.mp hj with z |z
    ·exact al2 j z x2 y2 hx2 hy2
    ·subst z
     rw[hd]at hx2;rw[he]at hy2
     cases hx2;cases hy2
     exact h
  rintro σ H6 ⟨x2,x3,rfl,s6,al2⟩
  refine k1 ⟨hne,al,nd,λi x y hx hy=>al2 i ?_ x y hx hy⟩ H6 (S5.trans s6)
  have:=(ah.mp hy).1
  omega
end
structure Cm (mg:Str->Option Value)(tk:Tok):Prop where
 nS:mg "MOST_STANDINGS" = some (.int 300 tk)
structure Xt (K:PySem.W.Frag)(mg:Str->Option Value)(c:Addr):Prop where
 zJ:Xc K mg "TooMany" c
def pq (K:PySem.W.Frag)(C:Addr):Sp:=λvs H Q E=>∃ (v u:V) (l:Ln) (ns:List Int),vs = [v,u]/\Da K H (dL l) v/\Da K H (dI ns) u/\fb l/\ns≠ []/\ns.length<=900/\fT l ns/\
 (∀ i d vs H',(eT l ns i).length=i->i<=300->eQ H H'->H d=none->lA K H' d (eT l ns i) vs->Q (.ref d) H')/\
 ((∃ i,300<(eT l ns i).length)->∀ H',eQ H H'->∀ e,H' e=none->E (.ref C) (some e) H')
def at5 (σ:L2.St)(_:Hp):Nat:=match (σ[5]? :Option (Option V))with
 |some (some (V.int i))=>(301-i).toNat
 |_=>0
def oS (K:PySem.W.Frag):Sp:=λvs H Q _=>∃ (d:Addr) (es:List Ent) (us:List V),vs = [.ref d]/\lA K H d es us/\es.length<=5000000/\∀ q bs H',lG H H' q bs (es.map (·.1))->Q (.ref q) H'
def yZ (K:PySem.W.Frag):Sp:=λvs H Q _=>∃ (d g:Addr) (es:List Ent) (us:List V) (t:List Int),vs = [.ref d,.ref g]/\lA K H d es us/\H g=some (.tup (t.map V.int))/\t∈es.map (·.1)/\mP es/\(es.map (·.1)).Nodup/\es.length<=5000000/\
 ∀ q run H',eQ H H'->H q=none->lP K H' q run->lC es t run->Q (.ref q) H'
abbrev iI:Stmt:=top 20
theorem fZ:fk ["line","train","start","steps","order","at","ahead","move","behind","standing"] ["line","train"] (eS iI):=⟨rfl,rfl,rfl,by decide +kernel,rfl,by decide +kernel,by decide +kernel⟩
abbrev iS:Stmt:=top 21
theorem qC:fk ["standings"] ["standings"] (eS iS):=⟨rfl,rfl,rfl,by decide +kernel,rfl,by decide +kernel,by decide +kernel⟩
theorem ka:fX (eS iS) ["standings"] {kind:=.function,names:=[(Str.ofString ".0",.local),(Str.ofString "standing",.local),(Str.ofString "list",.globalImplicit)],isGenerator:=false,isCoroutine:=false,more:=[]} ["standing"] 1 [none]:=⟨rfl,by decide +kernel,by decide +kernel,by decide +kernel,rfl,by decide +kernel,rfl,by decide +kernel⟩
abbrev hX:Stmt:=top 23
theorem fA:fk ["steps","goal","run","step","ahead","move"] ["steps","goal"] (eS hX):=⟨rfl,rfl,rfl,by decide +kernel,rfl,by decide +kernel,by decide +kernel⟩
section
variable {P:Program}{w:World}{K:PySem.W.Frag}{mg:Str->Option Value}{base:Heap}{f:Addr}{fd:FuncData}{c5:Addr}{tk:Tok}
theorem sr {f1:Addr}{fd1:FuncData}(F:Fn K mg "first_steps" iI ["line","train"] f fd)(B:Bm mg)(C:Cm mg tk)(XS:Xt K mg c5)(fW:Fn K mg "moves_of" jP ["line","train"] f1 fd1)
  (iB:eY P w K mg base CX0 3 f1 fd1 ["line","train"] (md K)):eY P w K mg base (CXr P w base) 4 f fd ["line","train"] (pq K c5):=by
 refine F.F.okX fZ (λvs H Q E h=>?_) (λcdv A outer s H vs Q E hr h=>?_)
 ·obtain⟨v,u,l,ns,rfl,_⟩:=h;rfl
 ·obtain⟨v,u,l,ns,rfl,hv,hu,ok,hne,hz,T,k1,k2⟩:=h
  obtain⟨a,rfl,ha⟩:=h9.mp hu
  refine⟨_,(eJ (eW (i:=2) fZ.nd rfl (Or.inl rfl) (fL gy rfl B.tuple dA (eD (pv 1) eI)))
 (eJ (eW (i:=3) fZ.nd rfl (Or.inl rfl) (wK (my hr) (pv 2) se))
 (eJ (eW (i:=4) fZ.nd rfl (Or.inl rfl) (gj (eD (pv 2) eI)))
 (eJ (eW (i:=5) fZ.nd rfl (Or.inl rfl) eK)
 (eJ (mj cW (fE (sf (pv 5) (fm fq rfl B.len b5 (eD (pv 4) eI))))
 (eJ (eW (i:=6) fZ.nd rfl (Or.inl rfl) (fh fo (pv 4) (pv 5) (λ_ _=>rfl)))
 (eJ (yd (i:=5) fZ.nd rfl (Or.inl rfl) eK yu)
 (eM (gU cW rfl (fF (eO iB (hr.mono (by decide)) rfl fW.m fW.F.kp fW.b .nil fg (eD (pv 0) (eD (fL iA rfl B.list dE (eD (pv 6) eI)) eI)))) (g7 (n:=2) rfl (fc (eU (i:=7) fZ.nd rfl (Or.inl rfl)) (fc (eU (i:=8) fZ.nd rfl (Or.inl rfl)) gB)))
 (eJ (eW (i:=9) fZ.nd rfl (Or.inl rfl) (fL gy rfl B.tuple dA (eD (pv 8) eI)))
 (eM (gA (fE (qg (my hr) (pv 9) (pv 3)))
 (eJ (gA (fE (mU (fm fq rfl B.len b5 (eD (pv 4) eI)) (zd (v:=.int 300) rfl C.nS ⟨_,rfl⟩)))
 (eM (kh jt rfl rfl XS.zJ.m XS.zJ.q bC (eD (A6 (i:=300) rfl C.nS ⟨_,rfl⟩ (by decide) (by decide)) eI))) fu)
 (eJ (uZ (my hr) (pv 3) (pv 9) (fC (eD (pv 6) (eD (pv 7) eI))) rfl)
 (eM (gF (ki aM aT aS gD (pv 4) (eD (pv 9) eI)))))) fu))))))))
 (eM (fj (pv 3)))))))),?_⟩
  refine⟨_,rfl,a,_,rfl,.inl ⟨ha,λt0 nt0=>?_⟩⟩
  have s1:=eE (o:=.tup (ns.map V.int)) nt0
  have h1:=eG (H:=H) (a:=t0) (o:=.tup (ns.map V.int))
  generalize upd H t0 _=H1 at s1 h1 ⊢
  refine λd nd=>⟨_,rfl,_,_,t0,kyI ns,rfl,rfl,by rw[hV];exact eE nd _ _ h1,eG,?_⟩
  rw[pf]
  have s2:=eE (o:=.dT [(kyI ns,V.non)]) nd
  have h2:=s2 _ _ h1
  have hd2:=eG (H:=H1) (a:=d) (o:=.dT [(kyI ns,V.non)])
  have nd0:=eQ.free s1 nd
  generalize upd H1 d _=H2 at s2 h2 hd2 ⊢
  refine⟨_,rfl,by show 1<=sizeLine;decide,λp np=>?_⟩
  have s3:=eE (o:=.lst [V.ref t0]) np
  have h3:=s3 _ _ h2
  have hd3:=s3 _ _ hd2
  have hp3:=eG (H:=H2) (a:=p) (o:=.lst [V.ref t0])
  have np0:=eQ.free (s1.trans s2) np
  have S3:=s1.trans (s2.trans s3)
  generalize upd H2 p _=H3 at s3 h3 hd3 hp3 S3 ⊢
  refine nW (λσ H4=>∃ (i:Nat) (as:List Addr) (vs:List V) (x6 x7 x8 x9:Option V),σ = [some v,some (.ref a),some (.ref t0),some (.ref d),some (.ref p),some (.int i),x6,x7,x8,x9]/\eQ H H4/\lA K H4 d (eT l ns i) vs/\Ord H4 p as (eT l ns i)/\i<=(eT l ns i).length/\(eT l ns i).length<=300)
   at5 ⟨0,[t0],[.non],none,none,none,none,rfl,S3,⟨hd3,rfl,λi e v' he hv'=>?_⟩,⟨hp3,rfl,λi b e hb he=>?_⟩,aO _,by simp[eT]⟩ ?_ ?_
  ·match i,he,hv' with
   | 0,he,hv'=>cases he;cases hv';rfl
  ·match i,hb,he with
   | 0,hb,he=>cases hb;cases he;exact h3
  ·rintro σ H4 N1 R1 B1 kN1 _ kB1 ⟨i,as,vs,x6,x7,x8,x9,rfl,S4,hs4,ho4,hi,GS⟩
   have E4:=iu ok T hne i
   refine⟨_,rfl,_,rfl,p,_,rfl,.inl (SqL.of ho4.at_),_,_,rfl,rfl,_,rfl,fP (λhlt=>?_) (λhlt=>?_)⟩
   ·have hlt:(i:Int)<((as.map V.ref).length:Int):=by simpa using hlt
    rw[aa,ho4.len]at hlt
    have hi2:i<(eT l ns i).length:=by omega
    have he:(eT l ns i)[i]? = some ((eT l ns i)[i]):=by simp
    generalize (eT l ns i)[i]=e at he
    obtain⟨b,hb⟩:∃ b,as[i]? = some b:=⟨as[i]'(by rw[ho4.len];exact hi2),af _⟩
    have hbt:=ho4.each i b e hb he
    obtain⟨T1,T2,T3⟩:=E4.tr e (ay he)
    refine⟨_,rfl,_,rfl,p,_,_,_,rfl,rfl,SqL.of ho4.at_,qq (v:=V.ref b) (by omega) (by rw[aq,show((i:Int)).toNat=i by omega,hb];rfl),?_⟩
    refine⟨_,rfl,_,_,rfl,rfl,?_⟩
    refine⟨_,rfl,_,rfl,b,_,rfl,.inr (SqT.of hbt),λq nq=>?_⟩
    have s5:=eE (o:=.lst (e.1.map V.int)) nq
    have hq5:=eG (H:=H4) (a:=q) (o:=.lst (e.1.map V.int))
    generalize upd H4 q _=H5 at s5 hq5 ⊢
    refine⟨_,_,l,e.1,rfl,Da.same (S4.trans s5) hv,fD hq5,ok,T3,by omega,λpm vm H6 s6 hpm xh Dm=>?_⟩
    have s46:=s5.trans s6
    have S6:=S4.trans s46
    have hs6:=hs4.same s46
    have ho6:=ho4.same s46
    have Bw:(mvs l e.1).length=vm.length:=by have:=Dm.length;rw[aa]at this;exact this.symm
    have yy:=s46 _ _ hbt
    have pmp:pm≠p:=bB (eN (s5 _ _ ho4.at_) hpm)
    have pmd:pm≠d:=bB (eN (s5 _ _ hs4.at_) hpm)
    refine⟨pm,rfl,⟨_,SqL.of xh⟩,ik (K:=K) (a:=pm) (xs:=vm) (λj σ H7=>∃ (as':List Addr) (vs':List V) (x7 x8 x9:Option V),σ = [some v,some (.ref a),some (.ref t0),some (.ref d),some (.ref p),some (.int ((i:Int)+1)),some (.ref b),x7,x8,x9]/\
      eQ H H7/\eQ (xj d p H6) H7/\lA K H7 d (fR e.1 ((mvs l e.1).take j) (eT l ns i)) vs'/\Ord H7 p as' (fR e.1 ((mvs l e.1).take j) (eT l ns i))/\(fR e.1 ((mvs l e.1).take j) (eT l ns i)).length<=300)
     ⟨as,vs,x7,x8,x9,rfl,S6,λb u h=>iF (p:=d) b u (iF (p:=p) b u h),hs6,ho6,GS⟩ (λj σ H7 _ ⟨_,_,_,_,_,_,_,sm,_⟩=>SqL.of (sm _ _ (by rw[lM pmd pmp];exact xh))) ?_ ?_⟩
    ·rintro j y σ H7 N R B kN _ hj ⟨as',vs',y7,y8,y9,rfl,S7,sm,hs7,ho7,zq⟩
     obtain⟨m,ad,p1,bb,hm,rfl,ht,dm,hbb,nbb,_⟩:=zi Dm hj
     obtain⟨a1,ea1,htm⟩:=BY dm
     cases ea1
     have bbp:bb≠p:=bB (eN (s5 _ _ ho4.at_) nbb)
     have bbd:bb≠d:=bB (eN (s5 _ _ hs4.at_) nbb)
     have ht7:=fv sm (sL hs6.at_ ho6.at_ ht)
     have E7:=fv sm (sL hs6.at_ ho6.at_ htm)
     have Au:H7 bb=some (.lst (m.2.map V.int)):=sm _ _ (by rw[lM bbd bbp];exact hbb)
     have hb7:H7 b=some (.tup (e.1.map V.int)):=sm _ _ (by rw[lM (fz yy hs6.at_ (by intro z;cases z)) (fz yy ho6.at_ (by intro z;cases z))];exact yy)
     refine⟨ad,_,rfl,ht7,rfl,_,_,rfl,_,_,rfl,rfl,?_⟩
     refine⟨_,rfl,bb,_,rfl,.inl ⟨SqL.of Au,λst nst=>?_⟩⟩
     have s8:=eE (o:=.tup (m.2.map V.int)) nst
     have hst:=eG (H:=H7) (a:=st) (o:=.tup (m.2.map V.int))
     have hs8:=hs7.same s8
     have ho8:=ho7.same s8
     have S8:=S7.trans s8
     have sm8:=sm.trans s8
     have hb8:=s8 _ _ hb7
     have Aq:=fv s8 E7
     generalize upd H7 st _=H8 at s8 hst hs8 ho8 S8 sm8 hb8 Aq ⊢
     refine⟨_,rfl,_,rfl,d,_,rfl,pT.t (k:=kyI m.2) hs8.at_ (by rw[hV];exact hst),_,rfl,?_⟩
     rw[hs8.mem m.2]
     have nu:fR e.1 ((mvs l e.1).take (j+1)) (eT l ns i)=lU e.1 (fR e.1 ((mvs l e.1).take j) (eT l ns i)) m:=rP hm
     refine fP (λhn=>?_) (λhn=>?_)
     ·have hn:m.2∉(fR e.1 ((mvs l e.1).take j) (eT l ns i)).map (·.1):=by simpa using hn
      have l0:fR e.1 ((mvs l e.1).take (j+1)) (eT l ns i)=fR e.1 ((mvs l e.1).take j) (eT l ns i) ++ [(m.2,some (e.1,m.1))]:=by
       rw[nu];unfold lU;rw[aH hn]
      refine⟨_,rfl,p,_,rfl,.inl (SqL.of ho8.at_),_,_,rfl,rfl,_,rfl,fP (λh3=>?_) (λh3=>?_)⟩
      ·have h3:((as'.map V.ref).length:Int)=300:=by simpa using h3
       rw[aa,ho8.len]at h3
       refine λz=>⟨by show 1<=sizeLine;decide,λx hx=>k2 ⟨i+1,?_⟩ H8 S8 x hx⟩
       rw[lY he]
       have:=(nv (t:=e.1) (mvs l e.1) (eT l ns i) (j+1)).length_le
       rw[l0,ai,aE]at this
       omega
      ·have h3:¬((as'.map V.ref).length:Int)=300:=by simpa using h3
       rw[aa,ho8.len]at h3
       refine⟨_,rfl,_,rfl,by show 2<=sizeLine;decide,λtp ntp=>?_⟩
       have s9:=eE (o:=.tup [.ref b,.ref p1]) ntp
       have htp:=eG (H:=H8) (a:=tp) (o:=.tup [.ref b,.ref p1])
       have hs9:=hs8.same s9
       have ho9:=ho8.same s9
       have E8:=s9 _ _ hst
       have hb9:=s9 _ _ hb8
       have BE:=fv s9 Aq
       have S9:=S8.trans s9
       have sm9:=sm8.trans s9
       generalize upd H8 tp _=H9 at s9 htp hs9 ho9 E8 hb9 BE S9 sm9 ⊢
       have dl:((List.zip (fR e.1 ((mvs l e.1).take j) (eT l ns i)) vs').map λp=>(kyI p.1.1,p.2)).length<=300:=by rw[aa,cf];omega
       refine⟨_,rfl,_,rfl,d,_,rfl,yL.t (k:=kyI m.2) hs9.at_ (by rw[hV];exact E8) (jM (by omega)),?_⟩
       obtain⟨g1,g2⟩:=zZ hs9 ho9 E8 htp hb9 BE hn
       have pd:p≠d:=fz ho9.at_ hs9.at_ (by intro z;cases z)
       have hp9:upd H9 d (.dT (putK ((List.zip (fR e.1 ((mvs l e.1).take j) (eT l ns i)) vs').map λp=>(kyI p.1.1,p.2)) (kyI m.2) (.ref tp))) p=some (.lst (as'.map V.ref)):=by rw[eL pd];exact ho9.at_
       refine⟨_,rfl,.inl ⟨rfl,_,SqL.of hp9⟩,_,rfl,p,_,_,rfl,rfl,hp9,jM (by rw[aa,ho9.len];omega),?_⟩
       refine kN _ _ ⟨as' ++ [st],vs' ++ [.ref tp],_,_,_,rfl,eQ.upd (eQ.upd S9 nd0) np0,sJ sm9,by rw[l0];exact g1,by rw[l0];exact g2,?_⟩
       rw[l0,ai,aE]
       omega
     ·have hn:m.2∈(fR e.1 ((mvs l e.1).take j) (eT l ns i)).map (·.1):=by simpa using hn
      have qA:fR e.1 ((mvs l e.1).take (j+1)) (eT l ns i)=fR e.1 ((mvs l e.1).take j) (eT l ns i):=by
       rw[nu];unfold lU;rw[aL hn]
      exact kN _ _ ⟨as',vs',_,_,_,rfl,S8,sm8,by rw[qA];exact hs8,by rw[qA];exact ho8,by rw[qA];exact zq⟩
    ·rintro σ H7 ⟨as',vs',y7,y8,y9,rfl,S7,sm,hs7,ho7,zq⟩
     rw[<-Bw,bo,<-lY he]at hs7 ho7 zq
     have xg:=(nX l ns i).length_le
     refine kN1 _ _ ⟨i+1,as',vs',_,_,_,_,rfl,S7,hs7,ho7,by omega,zq⟩ ?_
     show(301-((i:Int)+1)).toNat<(301-(i:Int)).toNat
     omega
   ·have hlt:¬(i:Int)<((as.map V.ref).length:Int):=by simpa using hlt
    rw[aa,ho4.len]at hlt
    have e1:(eT l ns i).length=i:=by omega
    exact kB1 _ _ ⟨_,rfl,k1 i d vs H4 e1 (by omega) S4 nd0 hs4⟩
  ·rintro σ H Q Q' hq ⟨x,e1,y,e2,p',ys,e3,h4,i',j',e5,e6,c,e7,q⟩
   exact⟨x,e1,y,e2,p',ys,e3,h4,i',j',e5,e6,c,e7,hq _ _ q⟩
theorem qE (F:Fn K mg "lists_of" iS ["standings"] f fd)(B:Bm mg):eY P w K mg base CX0 1 f fd ["standings"] (oS K):=by
 refine F.F.ok qC (λvs H Q E h=>?_) (λcdv A outer s H vs Q E hr h=>?_)
 ·obtain⟨d,es,us,rfl,_⟩:=h;rfl
 ·obtain⟨d,es,us,rfl,hs,hl,k⟩:=h
  have hd:=hs.at_
  have kl:((es.zip us).map λp=>(kyI p.1.1,p.2)).length=es.length:=by rw[aa,cf,hs.len];omega
  have kat:∀ (i:Nat) (p:List Key×V),((es.zip us).map λp=>(kyI p.1.1,p.2))[i]? = some p->∃ t,(es.map (·.1))[i]? = some t/\p.1=kyI t:=λi p hp=>by
   have h1:(((es.zip us).map λp=>(kyI p.1.1,p.2)).map (·.1))[i]? = some p.1:=by rw[aq,hp];rfl
   rw[sF hs.len,aq]at h1
   cases q:es[i]? with
   |none=>rw[q]at h1;cases h1
   |some e=>rw[q]at h1;exact⟨e.1,by rw[aq,q];rfl,(aW h1).symm⟩
  generalize (es.zip us).map (λp=>(kyI p.1.1,p.2))=kvs at hd kl kat
  refine⟨_,(eM (fj (A7 (mq (CH (pv 0)) rfl ka (.name (by decide)) (λ_ _ _ _=>(eU (i:=0) ka.nd rfl (Or.inl rfl))) (λ_ _ _ _=>g6) (λ_ _ _ _=>(fL (kb (K:=K) rfl) rfl B.list dE (eD (pv 0) eI))))))),?_⟩
  refine⟨d,kvs,hd,λo=>⟨_,rfl,d,o,kvs,rfl,eG,λq nq=>?_⟩⟩
  have qd:q≠d:=λz=>by subst z;rw[eG]at nq;cases nq
  have nq0:H q=none:=by rw[eL qd]at nq;exact nq
  have hf:=eG (H:=H) (a:=d) (o:=.frz o (.dT kvs))
  have hfo:∀ b,b≠d->upd H d (.frz o (.dT kvs)) b=H b:=λb hb=>eL hb
  generalize upd H d (.frz o (.dT kvs))=HF at nq hf hfo ⊢
  refine vy es.length (λi acc H'=>∃ bs:List Addr,acc=bs.map V.ref/\bs.length=i/\eQ HF H'/\H' q=some (.lst acc)/\(∀ (j:Nat) b t,bs[j]? = some b->(es.map (·.1))[j]? = some t->HF b=none/\b≠q/\H' b=some (.lst (t.map V.int)))/\bs.Nodup)
   ⟨[],rfl,rfl,eE nq,eG,λj b t h=>by simp at h,by simp⟩ (λi acc H' hi ⟨_,_,_,sm,_⟩=>⟨sm _ _ hf,by rw[kl];exact hi⟩) (λacc H' ⟨_,_,_,sm,_⟩=>⟨sm _ _ hf,by rw[kl];exact av _⟩) ?_ ?_
  ·rintro i x acc H4 H5 hi ⟨bs,rfl,bl,sm,hq,ea,nd⟩ ⟨e5,b,p,hp,rfl,hb⟩
   subst e5
   obtain⟨t,ht,hpt⟩:=kat i p hp
   rw[hpt,hV]at hb
   refine iV ?_
   refine⟨_,rfl,b,_,rfl,.inr (SqT.of hb),λnb nnb=>?_⟩
   have s6:=eE (o:=.lst (t.map V.int)) nnb
   have nbq:nb≠q:=bB (eN hq nnb)
   refine⟨s6 _ _ hq,jM (by rw[aa];omega),bs ++ [nb],by rw[ax];rfl,by rw[ai,bl];rfl,eQ.upd (sm.trans s6) nq,eG,λj c u hc hu=>?_,?_⟩
   ·by_cases hj:j<bs.length
    ·rw[aj hj]at hc
     obtain⟨z1,z2,z3⟩:=ea j c u hc hu
     exact⟨z1,z2,by rw[eL z2];exact s6 _ _ z3⟩
    ·have hj2:j=bs.length:=by
      have:=(ah.mp hc).1
      rw[ai,aE]at this
      omega
     rw[hj2,aw (av _),aV]at hc
     cases hc
     rw[hj2,bl,ht]at hu
     cases hu
     exact⟨eQ.free sm nnb,nbq,by rw[eL nbq];exact eG⟩
   ·rw[bN]
    refine⟨nd,by simp,λx hx y hy=>?_⟩
    have hy:y=nb:=by simpa using hy
    subst hy
    obtain⟨j,hj,e⟩:=aU.mp hx
    have hje:j<(es.map (·.1)).length:=by rw[aa];omega
    obtain⟨_,_,z3⟩:=ea j x ((es.map (·.1))[j]'hje) (by rw[af hj,e]) (af _)
    exact eN z3 nnb
  ·rintro acc H' ⟨bs,rfl,bl,sm,hq,ea,nd⟩
   refine⟨sm _ _ hf,k q bs _ ⟨λb u h=>?_,nq0,by rw[eL qd];exact hq,by rw[aa];exact bl,λj b t hb ht=>?_,nd⟩⟩
   ·by_cases e:b=d
    ·subst e;rw[eG,<-hd];exact h
    ·rw[eL e];exact sm _ _ (by rw[hfo b e];exact h)
   ·obtain⟨z1,z2,z3⟩:=ea j b t hb ht
    have bd:b≠d:=λe=>by subst e;rw[hf]at z1;cases z1
    exact⟨by rw[<-hfo b bd];exact z1,z2,by rw[eL bd];exact z3⟩
theorem qh (F:Fn K mg "run_back_from" hX ["steps","goal"] f fd):eY P w K mg base CX0 1 f fd ["steps","goal"] (yZ K):=by
 refine F.F.ok fA (λvs H Q E h=>?_) (λcdv A outer s H vs Q E hr h=>?_)
 ·obtain⟨d,g,es,us,t,rfl,_⟩:=h;rfl
 ·obtain⟨d,g,es,us,t,rfl,hs,hg,ht,bk,nd,hl,k⟩:=h
  refine⟨_,(eJ (eW (i:=2) fA.nd rfl (Or.inl rfl) (gj eI))
 (eJ (eW (i:=3) fA.nd rfl (Or.inl rfl) (qW (my hr) (pv 0) (pv 1) (λ_ _=>rfl)))
 (eJ (mj aX (fE (qX (pv 3)))
 (eJ (oV (pv 3) (g7 (n:=2) rfl (fc (eU (i:=4) fA.nd rfl (Or.inl rfl)) (fc (eU (i:=5) fA.nd rfl (Or.inl rfl)) gB))))
 (eJ (gA (fE (qX (pv 5)))
 (eM (gF (ki aM aT aS gD (pv 2) (eD (pv 5) eI)))) fu)
 (eM (eW (i:=3) fA.nd rfl (Or.inl rfl) (qW (my hr) (pv 0) (pv 4) (λ_ _=>rfl)))))))
 (eJ (gF (Ba aM PySem.F.slot_list_reverse PySem.F.type_list_reverse sA (pv 2)))
 (eM (fj (pv 2))))))),?_⟩
  refine⟨aO _,λp np=>?_⟩
  have s1:=eE (o:=.lst []) np
  have hp1:=eG (H:=H) (a:=p) (o:=.lst [])
  generalize upd H p _=H1 at s1 hp1 ⊢
  obtain⟨e0,he0,rfl⟩:=ak.mp ht
  obtain⟨j0,hj0,ej0⟩:=aU.mp he0
  have BI:es[j0]? = some e0:=by rw[af hj0,ej0]
  have uat:∀ j,j<es.length->∃ v,us[j]? = some v:=λj hj=>⟨us[j]'(by rw[hs.len];exact hj),af _⟩
  obtain⟨v0,hv0⟩:=uat j0 hj0
  have hs1:=hs.same s1
  refine⟨_,rfl,_,rfl,d,v0,rfl,by rw[<-hs1.get nd BI hv0];exact pT.t (k:=kyI e0.1) hs1.at_ (by rw[hV];exact s1 _ _ hg),?_⟩
  refine vW (λn σ H3=>∃ (e:Ent) (sv:V) (rr:List (Str×Int)) (vs:List V) (x4 x5:Option V),σ = [some (.ref d),some (.ref g),some (.ref p),some sv,x4,x5]/\es[n]? = some e/\us[n]? = some sv/\eQ H H3/\H3 p=some (.lst vs)/\Das K (hid p H3) (rr.map dM) vs/\
    (∀ k∈rr,PyData.strOk k.1=true)/\rr.length+n<=es.length/\∀ r,lC es e.1 r->lC es e0.1 (r++rr.reverse))
   j0 ⟨e0,v0,[],[],none,none,rfl,BI,hv0,s1,hp1,fQ.mpr rfl,(λk hk=>by cases hk),by simp;omega,λr hr=>by simpa using hr⟩ ?_ ?_
  ·rintro n σ H3 ⟨e,sv,rr,vs,x4,x5,rfl,hn,hsv,S3,hp3,D3,okr,ln,PT⟩
   have hs3:=hs.same S3
   have sv3:=hs3.each n e sv hn hsv
   have vl:vs.length=rr.length:=by have:=Dgs.length D3;rw[aa]at this;exact this
   refine⟨_,rfl,_,rfl,fP (λhb=>?_) (λhb=>?_)⟩
   ·obtain⟨t',o'⟩:=e
    cases o' with
    |none=>
     have z:sv = .non:=sv3
     rw[z]at hb
     exact absurd hb (by decide)
    |some tk=>
     obtain⟨t1,k1⟩:=tk
     obtain⟨a,b,c,rfl,ha,hb1,hc⟩:=sv3
     refine⟨_,rfl,a,_,rfl,SqT.of ha,rfl,_,_,rfl,_,_,rfl,rfl,?_⟩
     refine⟨_,rfl,_,rfl,yr ?_⟩
     refine⟨_,rfl,.inl ⟨rfl,_,SqL.of hp3⟩,_,rfl,p,_,_,rfl,rfl,hp3,jM (by omega),?_⟩
     obtain⟨i,e1,hi,he1,rfl⟩:=bk.back n t' t1 k1 hn
     have hlt:=(ah.mp he1).1
     obtain⟨v1,hv1⟩:=uat i hlt
     have dp:d≠p:=fz hs3.at_ hp3 (by intro z;cases z)
     have bp:b≠p:=fz hb1 hp3 (by intro z;cases z)
     have S4:=eQ.upd (o:=.lst (vs ++ [V.ref c])) S3 np
     have hs4:=hs.same S4
     refine⟨_,rfl,_,rfl,d,v1,rfl,by rw[<-hs4.get nd he1 hv1];exact pT.t (k:=kyI e1.1) hs4.at_ (by rw[hV,eL bp];exact hb1),?_⟩
     refine⟨i,hi,e1,v1,rr ++ [k1],vs ++ [V.ref c],_,_,rfl,he1,hv1,S4,eG,?_,λk' hk'=>?_,by rw[ai,aE];omega,λr hr=>?_⟩
     ·rw[mY,ax]
      exact Dgs.append D3 (Dgs.one (zD (pN hp3 hc)))
     ·rcases az.mp hk' with z |z
      ·exact okr k' z
      ·have z:k'=k1:=by simpa using z
       rw[z];exact bk.ok n t' e1.1 k1 hn
     ·have:=PT (r ++ [k1]) (.snoc (ay hn) hr)
      rw[cj,cQ,List.reverse_nil,dO]
      rw[bY]at this
      exact this
   ·obtain⟨t',o'⟩:=e
    cases o' with
    |some tk=>
     obtain⟨t1,k1⟩:=tk
     obtain⟨a,b,c,rfl,ha,hb1,hc⟩:=sv3
     exact absurd rfl hb
    |none=>
     refine⟨_,rfl,.inl ⟨rfl,_,SqL.of hp3⟩,p,_,rfl,rfl,hp3,?_⟩
     refine⟨_,rfl,k p rr.reverse _ (eQ.upd S3 np) np ⟨⟨_,eG,?_⟩,λk' hk'=>okr k' (by simpa using hk')⟩ ?_⟩
     ·rw[mY,cu]
      exact Dgs.rev D3
     ·have:=PT [] (.nil (ay hn))
      simpa using this
  ·rintro σ H Q Q' hq ⟨x,e1,c,e2,q⟩
   exact⟨x,e1,c,e2,hq _ _ q⟩
end
def yS (K:PySem.W.Frag):Sp:=λvs H Q _=>∃ (d:Addr) (es:List Ent) (us:List V),vs = [.ref d]/\lA K H d es us/\mP es/\(es.map (·.1)).Nodup/\es.length<=5000000/\∀ q us' H',eQ H H'->qK H H' q (fi es) us'->Q (.ref q) H'
abbrev jE:Stmt:=top 24
theorem jZ:fk ["steps","numbers","standing","step"] ["steps"] (eS jE):=⟨rfl,rfl,rfl,by decide +kernel,rfl,by decide +kernel,by decide +kernel⟩
theorem km:fX (eS jE) ["steps","numbers","standing","step"] {kind:=.function,names:=[(Str.ofString ".0",.local),(Str.ofString "standing",.local),(Str.ofString "number",.local),(Str.ofString "list",.globalImplicit)],isGenerator:=false,isCoroutine:=false,more:=[]} ["standing","number"] 2 [none,none]:=⟨rfl,by decide +kernel,by decide +kernel,by decide +kernel,rfl,by decide +kernel,rfl,by decide +kernel⟩
section
variable {P:Program}{w:World}{K:PySem.W.Frag}{mg:Str->Option Value}{base:Heap}{f:Addr}{fd:FuncData}
theorem tH (F:Fn K mg "numbers_of" jE ["steps"] f fd)(B:Bm mg):eY P w K mg base CX0 1 f fd ["steps"] (yS K):=by
 refine F.F.ok jZ (λvs H Q E h=>?_) (λcdv A outer s H vs Q E hr h=>?_)
 ·obtain⟨d,es,us,rfl,_⟩:=h;rfl
 ·obtain⟨d,es,us,rfl,hs,bk,nd,hl,k⟩:=h
  have hd:=hs.at_
  have kl:((es.zip us).map λp=>(kyI p.1.1,p.2)).length=es.length:=by rw[aa,cf,hs.len];omega
  have kat:∀ (i:Nat) (p:List Key×V),((es.zip us).map λp=>(kyI p.1.1,p.2))[i]? = some p->∃ e,es[i]? = some e/\p.1=kyI e.1/\lz K H e p.2:=λi p hp=>by
   rw[aq]at hp
   cases q:(es.zip us)[i]? with
   |none=>rw[q]at hp;cases hp
   |some r=>
    rw[q]at hp
    cases hp
    obtain⟨h1,h2⟩:=cX.mp (show(es.zip us)[i]? = some (r.1,r.2) from q)
    exact⟨r.1,h1,rfl,hs.each i _ _ h1 h2⟩
  generalize (es.zip us).map (λp=>(kyI p.1.1,p.2))=kvs at hd kl kat
  refine⟨_,(eJ (eW (i:=1) jZ.nd rfl (Or.inl rfl) A8)
 (eJ (Et (gU aX rfl (wG (pv 0)) (g7 (n:=2) rfl (fc (eU (i:=2) jZ.nd rfl (Or.inl rfl)) (fc (eU (i:=3) jZ.nd rfl (Or.inl rfl)) gB)))
 (eM (uZ (my hr) (pv 1) (pv 2) (wJ (fE (Bc (pv 3))) eK (eX gH (qW (my hr) (pv 1) (fh fJ (pv 3) eK (λ_ _=>rfl)) (λ_ _=>rfl)) eK)) rfl))))
 (eM (fj (A7 (mq (wG (pv 1)) rfl km (.tup (.cons (.name (by decide)) (.cons (.name (by decide)) .nil))) (λ_ _ _ _=>(g7 (n:=2) rfl (fc (eU (i:=0) km.nd rfl (Or.inl rfl)) (fc (eU (i:=1) km.nd rfl (Or.inl rfl)) gB)))) (λ_ _ _ _=>g6) (λ_ _ _ _=>(fC (eD (fL (kb (K:=K) rfl) rfl B.list dE (eD (pv 0) eI)) (eD (pv 1) eI)))))))))),?_⟩
  refine λn nn=>?_
  have nd_:n≠d:=λz=>by subst z;rw[hd]at nn;cases nn
  refine⟨d,kvs,by rw[eL (bB nd_)];exact hd,λo=>⟨_,rfl,d,o,kvs,rfl,eG,?_⟩⟩
  rw[AG nd_]
  have hf:=eG (H:=H) (a:=d) (o:=.frz o (.dT kvs))
  have hfo:∀ b,b≠d->upd H d (.frz o (.dT kvs)) b=H b:=λb hb=>eL hb
  have st0:∀ (i:Nat) (p:List Key×V),kvs[i]? = some p->∃ e,es[i]? = some e/\p.1=kyI e.1/\lz K (upd H d (.frz o (.dT kvs))) e p.2:=λi p hp=>by
   obtain⟨e,h1,h2,h3⟩:=kat i p hp
   exact⟨e,h1,h2,h3.FE hd⟩
  have nnF:upd H d (.frz o (.dT kvs)) n=none:=by rw[eL nd_];exact nn
  generalize upd H d (.frz o (.dT kvs))=HF at hf hfo st0 nnF ⊢
  refine Dk es.length (λi σ H3=>∃ (x2 x3:Option V),σ = [some (.ref d),some (.ref n),x2,x3]/\eQ HF H3/\H3 n=some (.dT (kvR (fi (es.take i)))))
   ⟨none,none,rfl,eE nnF,eG⟩ (λi σ H3 hi ⟨_,_,_,sm,_⟩=>⟨sm _ _ hf,by rw[kl];exact hi⟩) (λσ H3 ⟨_,_,_,sm,_⟩=>⟨sm _ _ hf,by rw[kl];exact av _⟩) ?_ ?_
  ·rintro i x σ H4 H5 hi ⟨x2,x3,rfl,S4,N4⟩ ⟨p,b,kv,np,rfl,hkv,hb,rfl⟩
   obtain⟨e,he,hk,hst⟩:=st0 i kv hkv
   rw[hk,hV]at hb
   have s5:=eE (o:=.tup [.ref b,kv.2]) np
   have hp5:=eG (H:=H4) (a:=p) (o:=.tup [.ref b,kv.2])
   have N5:=s5 _ _ N4
   have S5:=S4.trans s5
   have hb5:=s5 _ _ hb
   generalize upd H4 p _=H5 at s5 hp5 N5 S5 hb5 ⊢
   have st5:=hst.same S5
   have rl:(fi (es.take i)).length=i:=by rw[i4,bj];omega
   refine⟨p,_,rfl,SqT.of hp5,rfl,_,_,rfl,_,_,rfl,rfl,?_⟩
   have Fe:e.1∉(fi (es.take i)).map (·.1):=by
    rw[gG]
    intro hm
    obtain⟨e',hm,hk⟩:=ak.mp hm
    obtain⟨j,hj,ej⟩:=aU.mp hm
    rw[bj]at hj
    rw[List.getElem_take]at ej
    obtain⟨hi,ei⟩:=ah.mp he
    have h2:(es.map (·.1))[j]'(by rw[aa];omega)=(es.map (·.1))[i]'(by rw[aa];omega):=by
     rw[cT,cT,ej,ei]
     exact hk
    have:=(cU nd).mp h2
    omega
   have yw:ky (kvR (fi (es.take i))) (kyI e.1)=none:=by
    rw[rd]
    cases q:gv (fi (es.take i)) e.1 with
    |none=>rfl
    |some z=>exact absurd (ak.mpr ⟨_,iX q,rfl⟩) Fe
   have fin:∀ z:Int,z=qi (fi (es.take i)) e->∃ a H4,(V.ref n) = .ref a/\yL H5 a (.ref b) (.int z) H4/\∃ (x2 x3:Option V),[some (V.ref d),some (.ref n),some (.ref b),some kv.2] = [some (.ref d),some (.ref n),x2,x3]/\eQ HF H4/\H4 n=some (.dT (kvR (fi (es.take (i+1))))):=λz hz=>
    ⟨n,_,rfl,.inr ⟨_,kyI e.1,b,N5,rfl,by rw[hV];exact hb5,jM (by unfold kvR;rw[aa];omega),rfl⟩,_,_,rfl,eQ.upd S5 nnF,by
     rw[eG,rY _ yw,aZ,he,hz]
     show _=some (HO.dT (kvR (fi (es.take i ++ [e]))))
     rw[jR]
     unfold kvR
     rw[ax]
     rfl⟩
   refine⟨_,rfl,_,rfl,fP (λhh=>?_) (λhh=>?_)⟩
   ·refine⟨_,rfl,_,rfl,fin _ ?_⟩
    obtain⟨t',o'⟩:=e
    cases o' with
    |none=>rfl
    |some tk=>
     exfalso
     obtain⟨t1,k1⟩:=tk
     obtain⟨a,b1,c,Fg,_⟩:=st5
     rw[Fg]at hh
     exact absurd (of_decide_eq_true hh) (by intro z;cases z)
   ·obtain⟨t',o'⟩:=e
    cases o' with
    |none=>
     have z:kv.2 = .non:=st5
     rw[z]at hh
     exact absurd rfl hh
    |some tk=>
     obtain⟨t1,k1⟩:=tk
     obtain⟨a,b1,c,Fg,ha,hb1,hc⟩:=st5
     obtain⟨j,e1,hj,he1,rfl⟩:=bk.back i t' t1 k1 he
     obtain⟨z,hz⟩:=pK (rows:=fi (es.take i)) (t:=e1.1) (by
      rw[gG]
      exact ak.mpr ⟨e1,ay (by rw[List.getElem?_take,aL hj];exact he1),rfl⟩)
     refine⟨_,rfl,_,rfl,a,_,_,_,Fg,rfl,SqT.of ha,rfl,n,V.int z,rfl,?_,_,_,rfl,rfl,?_⟩
     ·have g:=pT.t (k:=kyI e1.1) N5 (by rw[hV];exact hb1)
      rw[rd,hz]at g
      exact g
     ·refine⟨_,rfl,_,rfl,fin _ ?_⟩
      show z+1=(gv (fi (es.take i)) e1.1).getD 0+1
      rw[hz];rfl
  ·rintro σ H3 ⟨x2,x3,rfl,S3,N3⟩
   rw[bo]at N3
   refine⟨S3 _ _ hf,?_⟩
   have S4:eQ H (upd H3 d (.dT kvs)):=λb u h=>by
    by_cases e:b=d
    ·subst e;rw[eG,<-hd];exact h
    ·rw[eL e];exact S3 _ _ (by rw[hfo b e];exact h)
   have hn4:upd H3 d (.dT kvs) n=some (.dT (kvR (fi es))):=by rw[eL nd_];exact N3
   have nl:(kvR (fi es)).length=es.length:=by unfold kvR;rw[aa,i4]
   generalize upd H3 d (.dT kvs)=H4 at S4 hn4 ⊢
   refine⟨n,_,hn4,λo2=>⟨_,rfl,n,o2,_,rfl,eG,λq nq=>?_⟩⟩
   have S5:=eQ.upd (o:=.frz o2 (.dT (kvR (fi es)))) S4 nn
   have hf5:=eG (H:=H4) (a:=n) (o:=.frz o2 (.dT (kvR (fi es))))
   generalize upd H4 n (.frz o2 (.dT (kvR (fi es))))=H5 at nq S5 hf5 ⊢
   have hqn:q≠n:=λe=>by rw[e,hf5]at nq;cases nq
   refine Bx es.length (fi es) (lB H) (λr v=>lB.mono r v) nq (i4 es).symm (jM (by omega)) (λi H' sm hi=>⟨sm _ _ hf5,by rw[nl];exact hi⟩) (λH' sm=>⟨sm _ _ hf5,by rw[nl];exact av _⟩) ?_ ?_
   ·rintro i x r H6 H7 sm ⟨acc,hq⟩ ⟨p,b,kv,np,rfl,hkv,hb,rfl⟩ hr P1 P0 kk
    have ekv:kv=(kyI r.1,V.int r.2):=by
     unfold kvR at hkv
     rw[aq,hr]at hkv
     exact(aW hkv).symm
    subst ekv
    have hb:_=some (HO.tup ((kyI r.1).map kV)):=hb
    rw[hV]at hb
    have s7:=eE (o:=.tup [.ref b,.int r.2]) np
    have hp7:=eG (H:=H6) (a:=p) (o:=.tup [.ref b,.int r.2])
    have hb7:=s7 _ _ hb
    have hq7:=s7 _ _ hq
    have S7:=sm.trans s7
    dsimp only at hp7 ⊢
    generalize upd H6 p _=H7 at s7 hp7 hb7 hq7 S7 ⊢
    refine⟨p,_,rfl,SqT.of hp7,rfl,_,_,rfl,_,_,rfl,rfl,?_⟩
    refine DE ?_
    refine⟨_,rfl,b,_,rfl,.inr (SqT.of hb7),λnb nnb=>?_⟩
    have s8:=eE (o:=.lst (r.1.map V.int)) nnb
    refine⟨_,rfl,by show 2<=sizeLine;decide,λnt nnt=>kk _ _ (s7.trans (s8.trans (eE nnt))) ?_⟩
    have nbq:nb≠q:=(eN hq7 nnb).symm
    have ntq:nt≠q:=(eN (s8 _ _ hq7) nnt).symm
    exact⟨nt,nb,rfl,by rw[fV ntq,eG],by rw[fV nbq];exact eE nnt _ _ eG,eQ.free (S5.trans S7) nnb⟩
   ·intro vs8 H8 sm h8 D8
    refine⟨sm _ _ hf5,k q vs8 _ (eQ.upd (S5.trans sm) nn) ?_⟩
    refine⟨by rw[eL hqn];exact h8,eQ.free S5 nq,?_⟩
    have hh:hid q (upd H8 n (.dT (kvR (fi es))))=upd (hid q H8) n (.dT (kvR (fi es))):=by
     funext c
     by_cases e1:c=q
     ·subst e1;rw[jI,eL hqn,jI]
     ·rw[fV e1]
      by_cases e2:c=n
      ·subst e2;rw[eG,eG]
      ·rw[eL e2,eL e2,fV e1]
    rw[hh]
    exact D8.imp λr v=>lB.Hs r v (by rw[fV (bB hqn)];exact sm _ _ hf5)
end
theorem lG.post {H H' H'':Hp}{p:Addr}{bs:List Addr}{ts:List (List Int)}(s:eQ H' H'')(h:lG H H' p bs ts):lG H H'' p bs ts:=
 ⟨h.same.trans s,h.new,s _ _ h.at_,h.len,λi b t h1 h2=>⟨(h.each i b t h1 h2).1,(h.each i b t h1 h2).2.1,s _ _ (h.each i b t h1 h2).2.2⟩,h.nd⟩
def gOk (l:Ln)(ns gs:List Int):Prop:=isT l gs/\gs.length=ns.length
def uL (K:PySem.W.Frag)(c2:Addr):Sp:=λvs H Q E=>∃ (v u g:V) (l:Ln) (ns gs:List Int),vs = [v,u,g]/\Da K H (dL l) v/\Da K H (dI ns) u/\Da K H (dI gs) g/\fb l/\gs.length<=900/\
 (gOk l ns gs->∀ H',eQ H H'->Q .non H')/\(¬gOk l ns gs->∀ H',eQ H H'->∀ e,H' e=none->E (.ref c2) (some e) H')
structure xN (K:PySem.W.Frag)(c2 c5:Addr)(l:Ln)(ns gs:List Int)(H:Hp)(Q:VK)(E:XK):Prop where
 bad:¬gOk l ns gs->∀ H',eQ H H'->∀ e,H' e=none->E (.ref c2) (some e) H'
 many:gOk l ns gs->(∃ i,300<(eT l ns i).length)->∀ H',eQ H H'->∀ e,H' e=none->E (.ref c5) (some e) H'
 no:gOk l ns gs->∀ i,(eT l ns i).length=i->i<=300->gs∉(eT l ns i).map (·.1)->∀ r q bs H',lG H H' q bs ((eT l ns i).map (·.1))->H' r=some (.tup [.str "none",.ref q])->H r=none->Q (.ref r) H'
 yes:gOk l ns gs->∀ i,(eT l ns i).length=i->i<=300->gs∈(eT l ns i).map (·.1)->∀ r q1 run q2 us H',eQ H H'->lP K H' q1 run->H q1=none->lC (eT l ns i) gs run->qK H H' q2 (fi (eT l ns i)) us->q1≠q2->H' r=some (.tup [.str "run",.ref q1,.ref q2])->H r=none->Q (.ref r) H'
def pz (K:PySem.W.Frag)(c2 c5:Addr):Sp:=λvs H Q E=>∃ (v u g:V) (l:Ln) (ns gs:List Int),vs = [v,u,g]/\Da K H (dL l) v/\Da K H (dI ns) u/\Da K H (dI gs) g/\fb l/\ns≠ []/\ns.length<=900/\fT l ns/\gs.length<=900/\xN K c2 c5 l ns gs H Q E
abbrev jF:Stmt:=top 19
theorem tG:fk ["line","train","goal"] ["line","train","goal"] (eS jF):=⟨rfl,rfl,rfl,by decide +kernel,rfl,by decide +kernel,by decide +kernel⟩
abbrev oe:Stmt:=top 25
theorem rR:fk ["line","train","goal","steps","aim"] ["line","train","goal"] (eS oe):=⟨rfl,rfl,rfl,by decide +kernel,rfl,by decide +kernel,by decide +kernel⟩
section
variable {P:Program}{w:World}{K:PySem.W.Frag}{mg:Str->Option Value}{base:Heap}{f:Addr}{fd:FuncData}{c2 c5:Addr}
theorem tJ {f1:Addr}{fd1:FuncData}(F:Fn K mg "check_goal" jF ["line","train","goal"] f fd)(XS:Xr K mg c2)(B:Bm mg)
  (iK:Fn K mg "check_train" jh ["line","train"] f1 fd1) (lW:eY P w K mg base (CXr P w base) 2 f1 fd1 ["line","train"] (wt K c2)):eY P w K mg base (CXr P w base) 3 f fd ["line","train","goal"] (uL K c2):=by
 refine F.F.okX tG (λvs H Q E h=>?_) (λcdv A outer s H vs Q E hr h=>?_)
 ·obtain⟨v,u,g,l,ns,gs,rfl,_⟩:=h;rfl
 ·obtain⟨v,u,g,l,ns,gs,rfl,hv,hu,hg,ok,gl,k1,k2⟩:=h
  obtain⟨a,rfl,ha⟩:=h9.mp hu
  obtain⟨b,rfl,hb⟩:=h9.mp hg
  refine⟨_,(eJ (gF (eO lW (hr.mono (by decide)) rfl iK.m iK.F.kp iK.b .nil i6 (eD (pv 0) (eD (pv 2) eI))))
 (eM (gA (fE (ye (fm fq rfl B.len b5 (eD (pv 2) eI)) (fm fq rfl B.len b5 (eD (pv 1) eI))))
 (eM (kh jt rfl rfl XS.kc.m XS.kc.q bC (eD fS eI))) fu))),?_⟩
  refine⟨_,rfl,_,rfl,_,_,l,gs,rfl,hv,hg,ok,gl,λit H1 s1=>?_,λz H1 s1 e he=>k2 (λy=>z y.1) H1 s1 e he⟩
  refine⟨_,rfl,b,_,rfl,.inl (s1.seq hb),_,rfl,a,_,rfl,.inl (s1.seq ha),_,_,rfl,rfl,_,rfl,fP (λh=>?_) (λh=>?_)⟩
  ·have h:((gs.map V.int).length:Int)≠((ns.map V.int).length:Int):=by simpa using h
   rw[aa,aa]at h
   exact⟨by decide,λe he=>k2 (λz=>h (by rw[z.2])) H1 s1 e he⟩
  ·have h:((gs.map V.int).length:Int)=((ns.map V.int).length:Int):=by simpa using h
   rw[aa,aa]at h
   exact k1 ⟨it,by omega⟩ _ s1
theorem Bi {f1 f2 f3 f4 f5:Addr}{fd1 fd2 fd3 fd4 fd5:FuncData}(F:Fn K mg "least" oe ["line","train","goal"] f fd)(B:Bm mg)
  (gC:Fn K mg "check_goal" jF ["line","train","goal"] f1 fd1) (i8:eY P w K mg base (CXr P w base) 3 f1 fd1 ["line","train","goal"] (uL K c2))
  (fx:Fn K mg "first_steps" iI ["line","train"] f2 fd2) (gP:eY P w K mg base (CXr P w base) 4 f2 fd2 ["line","train"] (pq K c5))
  (fO:Fn K mg "lists_of" iS ["standings"] f3 fd3) (fG:Fn K mg "run_back_from" hX ["steps","goal"] f4 fd4) (i9:Fn K mg "numbers_of" jE ["steps"] f5 fd5):
  eY P w K mg base (CXr P w base) 5 f fd ["line","train","goal"] (pz K c2 c5):=by
 have lD:eY P w K mg base CX0 1 f3 fd3 ["standings"] (oS K):=qE fO B
 have kr:eY P w K mg base CX0 1 f4 fd4 ["steps","goal"] (yZ K):=qh fG
 have vS:eY P w K mg base CX0 1 f5 fd5 ["steps"] (yS K):=tH i9 B
 refine F.F.okX rR (λvs H Q E h=>?_) (λcdv A outer s H vs Q E hr h=>?_)
 ·obtain⟨v,u,g,l,ns,gs,rfl,_⟩:=h;rfl
 ·obtain⟨v,u,g,l,ns,gs,rfl,hv,hu,hg,ok,hne,hz,T,gl,k⟩:=h
  obtain⟨b,rfl,hb⟩:=h9.mp hg
  refine⟨_,(eJ (gF (eO i8 (hr.mono (by decide)) rfl gC.m gC.F.kp gC.b .nil i6 (eD (pv 0) (eD (pv 1) (eD (pv 2) eI)))))
 (eJ (eW (i:=3) rR.nd rfl (Or.inl rfl) (eO gP (hr.mono (by decide)) rfl fx.m fx.F.kp fx.b .nil i6 (eD (pv 0) (eD (pv 1) eI))))
 (eJ (eW (i:=4) rR.nd rfl (Or.inl rfl) (fL gy rfl B.tuple dA (eD (pv 2) eI)))
 (eJ (gA (fE (qg (my hr) (pv 4) (pv 3)))
 (eM (fj (fC (eD fS (eD (eO lD (hr.mono (by decide)) rfl fO.m fO.F.kp fO.b .nil fg (eD (pv 3) eI)) eI))))) fu)
 (eM (fj (fC (eD fS (eD (eO kr (hr.mono (by decide)) rfl fG.m fG.F.kp fG.b .nil fg (eD (pv 3) (eD (pv 4) eI))) (eD (eO vS (hr.mono (by decide)) rfl i9.m i9.F.kp i9.b .nil fg (eD (pv 3) eI)) eI)))))))))),?_⟩
  refine⟨_,rfl,_,rfl,_,rfl,_,_,_,l,ns,gs,rfl,hv,hu,hg,ok,gl,λgo H1 s1=>?_,λgo H1 s1 e he=>k.bad go H1 s1 e he⟩
  refine⟨_,rfl,_,rfl,_,_,l,ns,rfl,Da.same s1 hv,Da.same s1 hu,ok,hne,hz,T,λi d us H2 hi yv s2 nd hs2=>?_,λz H2 s2 e he=>k.many go z H2 (s1.trans s2) e he⟩
  have E2:=iu ok T hne i
  have S2:=s1.trans s2
  refine⟨_,rfl,b,_,rfl,.inl ⟨S2.seq hb,λt nt=>?_⟩⟩
  have s3:=eE (o:=.tup (gs.map V.int)) nt
  have ht:=eG (H:=H2) (a:=t) (o:=.tup (gs.map V.int))
  have hs3:=hs2.same s3
  have S3:=S2.trans s3
  generalize upd H2 t _=H3 at s3 ht hs3 S3 ⊢
  refine⟨_,rfl,_,rfl,d,_,rfl,pT.t (k:=kyI gs) hs3.at_ (by rw[hV];exact ht),_,rfl,?_⟩
  rw[hs3.mem gs]
  refine fP (λhn=>?_) (λhn=>?_)
  ·have hn:gs∉(eT l ns i).map (·.1):=by simpa using hn
   refine⟨_,rfl,d,_,_,rfl,hs3,by omega,λq bs H4 FR=>⟨by show 2<=sizeLine;decide,λr nr=>?_⟩⟩
   have s5:=eE (o:=.tup [.str "none",.ref q]) nr
   exact k.no go i hi yv hn r q bs _ (lG.post s5 (FR.pre S3)) eG (eQ.free (S3.trans FR.same) nr)
  ·have hn:gs∈(eT l ns i).map (·.1):=by simpa using hn
   refine⟨_,rfl,_,rfl,d,t,_,_,gs,rfl,hs3,ht,hn,kI l ns i,E2.nd,by omega,λq run H4 s4 nq ra pt=>?_⟩
   refine⟨_,rfl,d,_,_,rfl,hs3.same s4,kI l ns i,E2.nd,by omega,λq2 us2 H5 s5 R5=>⟨by show 3<=sizeLine;decide,λr nr=>?_⟩⟩
   have s6:=eE (o:=.tup [.str "run",.ref q,.ref q2]) nr
   have hqq:q≠q2:=by
    obtain⟨vs,h1,_⟩:=ra.ex
    exact eN h1 R5.new
   exact k.yes go i hi yv hn r q run q2 us2 _ (((S3.trans s4).trans s5).trans s6) (ra.same (s5.trans s6)) (eQ.free S3 nq) pt ((R5.same s6).pre (S3.trans s4)) hqq eG (eQ.free ((S3.trans s4).trans s5) nr)
end
def v5 (l:Ln)(s:Sta):Prop:=fT l s.1/\s.1≠ []/\s.1.length<=900
theorem v5.step {l:Ln}(ok:fb l){s:Sta}{m:Mv}(h:v5 l s)(hm:m∈mvs l s.1):v5 l (m.2,s.2):=by
 obtain⟨h1,h2,h3⟩:=vt ok h.1 h.2.1 hm
 exact⟨h1,h3,by rw[h2];exact h.2.2⟩
theorem AO {P:Program}{w:World}{K:PySem.W.Frag}{H:Hp}{d b:Addr}{kvs:KvN}{xs:List V}(hd:H d=some (nD P w d kvs))(h:SqL K H b xs):SqL K (hid d H) b xs:=by
 rcases h with(h |⟨o,h⟩)|h
 ·exact .inl (.inl (by rw[fV (fz h hd (λz=>nomatch z))];exact h))
 ·exact .inl (.inr ⟨o,by rw[fV (fz h hd (λz=>nomatch z))];exact h⟩)
 ·exact .inr h
theorem v9 {P:Program}{w:World}{K:PySem.W.Frag}{H:Hp}{d b:Addr}{kvs:KvN}{xs:List V}(hd:H d=some (nD P w d kvs))(h:SqT K H b xs):SqT K (hid d H) b xs:=by
 rcases h with(h |⟨o,h⟩)|h
 ·exact .inl (.inl (by rw[fV (fz h hd (λz=>nomatch z))];exact h))
 ·exact .inl (.inr ⟨o,by rw[fV (fz h hd (λz=>nomatch z))];exact h⟩)
 ·exact .inr h
theorem Dt {P:Program}{w:World}{K:PySem.W.Frag}{H:Hp}{d:Addr}{kvs:KvN}{x:PyData}{v:V}(hd:H d=some (nD P w d kvs))(h:Da K H x v):Da K (hid d H) x v:=Dg.mono (λ_ _ q=>AO hd q) (λ_ _ q=>v9 hd q) h
theorem Ah {P:Program}{w:World}{H:Hp}{d c:Addr}{kvs:KvN}{k:SK}(hd:H d=some (nD P w d kvs))(h:i7 H c k):i7 (hid d H) c k:=h.ke λb ys q=>by rw[fV (fz q hd (λz=>nomatch z))];exact q
theorem StN.list {P:Program}{w:World}{K:PySem.W.Frag}{H:Hp}{d p:Addr}{es:List EnS}{cs:List Addr}{us xs ys:List V}(h:StN P w K H d es cs us)(hp:H p=some (.lst xs)):StN P w K (upd H p (.lst ys)) d es cs us:=by
 have pd:d≠p:=fz h.dn.at_ hp (λz=>nomatch z)
 have f:∀ b zs,H b=some (.tup zs)->(upd H p (.lst ys)) b=some (.tup zs):=λb zs q=>by rw[eL (fz q hp (λz=>nomatch z))];exact q
 refine⟨⟨by rw[eL pd];exact h.dn.at_,λq hq=>(h.dn.keys q hq).ke f⟩,h.lc,h.lv,λi e v h1 h2=>(h.each i e v h1 h2).to f λb zs q=>kz hp q⟩
def yV (P:Program)(w:World)(K:PySem.W.Frag):Sp:=λvs H Q _=>∃ (v:V) (p d:Addr) (l:Ln) (es:List EnS) (cs:List Addr) (us:List V) (ss:List Sta) (as:List Addr),vs = [v,.ref p,.ref d]/\Da K H (dL l) v/\StL H p as ss/\StN P w K H d es cs us/\fb l/\
 (∀ s∈ss,v5 l s)/\(∀ i,(goS l (es,ss) i).2.length<=1000/\(goS l (es,ss) i).1.length<=1000)/\
 ∀ i q as' cs' us' H',(goS l (es,ss) i).2.length=i->eQ (hid d H) H'->H q=none->StL H' q as' (goS l (es,ss) i).2->StN P w K H' d (goS l (es,ss) i).1 cs' us'->Q (.ref q) H'
def at4 (σ:L2.St)(_:Hp):Nat:=match (σ[4]? :Option (Option V))with
 |some (some (V.int i))=>(1001-i).toNat
 |_=>0
abbrev oj:Stmt:=top 28
theorem iy:fk ["line","states","steps","found","at","standing","word","move","behind","state"] ["line","states","steps"] (eS oj):=⟨rfl,rfl,rfl,by decide +kernel,rfl,by decide +kernel,by decide +kernel⟩
section
variable {P:Program}{w:World}{K:PySem.W.Frag}{mg:Str->Option Value}{base:Heap}{f:Addr}{fd:FuncData}
theorem yl {f1:Addr}{fd1:FuncData}(F:Fn K mg "gone_on" oj ["line","states","steps"] f fd)(B:Bm mg)(fW:Fn K mg "moves_of" jP ["line","train"] f1 fd1)
  (iB:eY P w K mg base CX0 3 f1 fd1 ["line","train"] (md K)):eY P w K mg base CX0 4 f fd ["line","states","steps"] (yV P w K):=by
 refine F.F.ok iy (λvs H Q E h=>?_) (λcdv A outer s H vs Q E hr h=>?_)
 ·obtain⟨v,p,d,l,es,cs,us,ss,as,rfl,_⟩:=h;rfl
 ·obtain⟨v,p0,d,l,es,cs,us,ss,as0,rfl,hv,hL,hN,ok,hss,hb,k⟩:=h
  have D7:=rg (l:=l) (P:=v5 l) (λs m h hm=>h.step ok hm) (x:=(es,ss)) hss
  generalize hgo:goS l (es,ss)=go at hb k D7
  have go0:go 0=(es,ss):=by rw[<-hgo];rfl
  have yA:∀ {i s},(go i).2[i]? = some s->go (i+1)=fY s.1 s.2 (mvs l s.1) (go i):=λ{i s} h=>by rw[<-hgo]at h ⊢;exact xo h
  refine⟨_,(eJ (eW (i:=3) iy.nd rfl (Or.inl rfl) (fL iA rfl B.list dE (eD (pv 1) eI)))
 (eJ (eW (i:=4) iy.nd rfl (Or.inl rfl) eK)
 (eJ (mj aX (fE (sf (pv 4) (fm fq rfl B.len b5 (eD (pv 3) eI))))
 (eJ (oV (fh fo (pv 3) (pv 4) (λ_ _=>rfl)) (g7 (n:=2) rfl (fc (eU (i:=5) iy.nd rfl (Or.inl rfl)) (fc (eU (i:=6) iy.nd rfl (Or.inl rfl)) gB))))
 (eJ (yd (i:=4) iy.nd rfl (Or.inl rfl) eK yu)
 (eM (gU aX rfl (fF (eO iB (hr.mono (by decide)) rfl fW.m fW.F.kp fW.b .nil fg (eD (pv 0) (eD (fL iA rfl B.list dE (eD (pv 5) eI)) eI)))) (g7 (n:=2) rfl (fc (eU (i:=7) iy.nd rfl (Or.inl rfl)) (fc (eU (i:=8) iy.nd rfl (Or.inl rfl)) gB)))
 (eJ (eW (i:=9) iy.nd rfl (Or.inl rfl) (fC (eD (fL gy rfl B.tuple dA (eD (pv 8) eI)) (eD (pv 6) eI))))
 (eM (gA (PW.pt (rW (gN uk (fh fJ (pv 7) eK (λ_ _=>rfl)) (pv 6) (jd _)) (qV (fE (uh (lp hr) (pv 9) (pv 2))))))
 (eJ (uY (lp hr) (pv 2) (pv 9) (fC (eD (fC (eD (pv 5) (eD (pv 6) eI))) (eD (pv 7) eI))) rfl)
 (eM (gF (ki aM aT aS gD (pv 3) (eD (pv 9) eI))))) fu))))))))
 (eM (fj (pv 3)))))),?_⟩
  refine⟨_,rfl,p0,_,rfl,.inl (SqL.of hL.at_),λp np=>?_⟩
  have s1:=eE (o:=.lst (as0.map V.ref)) np
  have hp1:=eG (H:=H) (a:=p) (o:=.lst (as0.map V.ref))
  have hN1:=hN.same s1
  have hL1:StL (upd H p (.lst (as0.map V.ref))) p as0 ss:=⟨hp1,hL.len,λi a t h1 h2=>(hL.each i a t h1 h2).same s1⟩
  have S1:eQ (hid d H) (upd H p (.lst (as0.map V.ref))):=iF.trans s1
  generalize upd H p _=H1 at s1 hp1 hN1 hL1 S1 ⊢
  refine nW (λσ H4=>∃ (i:Nat) (as cs:List Addr) (us:List V) (x5 x6 x7 x8 x9:Option V),σ = [some v,some (.ref p0),some (.ref d),some (.ref p),some (.int i),x5,x6,x7,x8,x9]/\eQ (hid d H) H4/\StN P w K H4 d (go i).1 cs us/\StL H4 p as (go i).2/\i<=(go i).2.length)
   at4 ⟨0,as0,cs,us,none,none,none,none,none,rfl,S1,by rw[go0];exact hN1,by rw[go0];exact hL1,aO _⟩ ?_ ?_
  ·rintro σ H4 N1 R1 B1 kN1 _ kB1 ⟨i,as,cs,us,x5,x6,x7,x8,x9,rfl,S4,hN4,hL4,hi⟩
   have hbi:=hb i
   refine⟨_,rfl,_,rfl,p,_,rfl,.inl (SqL.of hL4.at_),_,_,rfl,rfl,_,rfl,fP (λhlt=>?_) (λhlt=>?_)⟩
   ·have hlt:(i:Int)<((as.map V.ref).length:Int):=by simpa using hlt
    rw[aa,hL4.len]at hlt
    have hi2:i<(go i).2.length:=by omega
    have he:(go i).2[i]? = some ((go i).2[i]):=by simp
    generalize (go i).2[i]=st at he
    have hst:=D7 i st (ay he)
    obtain⟨b,hbi⟩:∃ b,as[i]? = some b:=⟨as[i]'(by rw[hL4.len];exact hi2),af _⟩
    obtain⟨bt,hk1,hk2⟩:=hL4.each i b st hbi he
    have hk1:H4 b=some (.tup [.ref bt,.str st.2]):=hk1
    have hk2:H4 bt=some (.tup (st.1.map V.int)):=by have:=hk2;rw[show(kS st).1=kyI st.1 from rfl,hV]at this;exact this
    refine⟨_,rfl,_,rfl,p,_,_,_,rfl,rfl,SqL.of hL4.at_,qq (v:=V.ref b) (by omega) (by rw[aq,show((i:Int)).toNat=i by omega,hbi];rfl),?_⟩
    refine⟨b,_,rfl,SqT.of hk1,rfl,_,_,rfl,_,_,rfl,rfl,?_⟩
    refine⟨_,rfl,_,_,rfl,rfl,?_⟩
    refine⟨_,rfl,_,rfl,bt,_,rfl,.inr (SqT.of hk2),λq nq=>?_⟩
    have s5:=eE (o:=.lst (st.1.map V.int)) nq
    have hq5:=eG (H:=H4) (a:=q) (o:=.lst (st.1.map V.int))
    generalize upd H4 q _=H5 at s5 hq5 ⊢
    refine⟨_,_,l,st.1,rfl,Da.same (S4.trans s5) (Dt hN.dn.at_ hv),fD hq5,ok,hst.2.1,hst.2.2,λpm vm H6 s6 hpm xh Dm=>?_⟩
    have s46:=s5.trans s6
    have S6:=S4.trans s46
    have hN6:=hN4.same s46
    have hL6:=hL4.same s46
    have Bw:(mvs l st.1).length=vm.length:=by have:=Dm.length;rw[aa]at this;exact this.symm
    have yy:=s46 _ _ hk2
    have pmp:pm≠p:=bB (eN (s5 _ _ hL4.at_) hpm)
    have pmd:pm≠d:=bB (eN (s5 _ _ hN4.dn.at_) hpm)
    have FF:∀ {a xs},SqT K H6 a xs->SqT K (xj d p H6) a xs:=λ{a xs} h=>pN (p:=p) (H:=hid d H6) (by rw[fV (fz hL6.at_ hN6.dn.at_ (λz=>nomatch z))];exact hL6.at_) (v9 hN6.dn.at_ h)
    refine⟨pm,rfl,⟨_,SqL.of xh⟩,ik (K:=K) (a:=pm) (xs:=vm) (λj σ H7=>∃ (as' cs':List Addr) (us':List V) (x7 x8 x9:Option V),σ = [some v,some (.ref p0),some (.ref d),some (.ref p),some (.int ((i:Int)+1)),some (.ref bt),some (.str st.2),x7,x8,x9]/\
      eQ (hid d H) H7/\eQ (xj d p H6) H7/\StN P w K H7 d (fY st.1 st.2 ((mvs l st.1).take j) (go i)).1 cs' us'/\StL H7 p as' (fY st.1 st.2 ((mvs l st.1).take j) (go i)).2)
     ⟨as,cs,us,x7,x8,x9,rfl,S6,λb u h=>iF (p:=d) b u (iF (p:=p) b u h),hN6,hL6⟩ (λj σ H7 _ ⟨_,_,_,_,_,_,_,_,sm,_⟩=>SqL.of (sm _ _ (by rw[lM pmd pmp];exact xh))) ?_ ?_⟩
    ·rintro j y σ H7 N R B kN _ hj ⟨as',cs',us',y7,y8,y9,rfl,S7,sm,hN7,hL7⟩
     obtain⟨m,ad,p1,bb,hm,rfl,ht,dm,hbb,nbb,_⟩:=zi Dm hj
     obtain⟨a1,ea1,htm⟩:=BY dm
     cases ea1
     have bbp:bb≠p:=bB (eN (s5 _ _ hL4.at_) nbb)
     have bbd:bb≠d:=bB (eN (s5 _ _ hN4.dn.at_) nbb)
     have ht7:=fv sm (FF ht)
     have E7:=fv sm (FF htm)
     have Au:H7 bb=some (.lst (m.2.map V.int)):=sm _ _ (by rw[lM bbd bbp];exact hbb)
     have hb7:H7 bt=some (.tup (st.1.map V.int)):=sm _ _ (by rw[lM (fz yy hN6.dn.at_ (λz=>nomatch z)) (fz yy hL6.at_ (λz=>nomatch z))];exact yy)
     refine⟨ad,_,rfl,ht7,rfl,_,_,rfl,_,_,rfl,rfl,?_⟩
     refine⟨_,rfl,bb,_,rfl,.inl ⟨SqL.of Au,λt nt=>⟨_,rfl,by show 2<=sizeLine;decide,λc nc=>?_⟩⟩⟩
     have s8:=(eE (o:=.tup (m.2.map V.int)) nt).trans (eE (o:=.tup [.ref t,.str st.2]) nc)
     have hc8:=eG (H:=upd H7 t (.tup (m.2.map V.int))) (a:=c) (o:=.tup [.ref t,.str st.2])
     have ht8:=(eE (o:=.tup [.ref t,.str st.2]) nc) _ _ (eG (H:=H7) (a:=t) (o:=.tup (m.2.map V.int)))
     have hN8:=hN7.same s8
     have hL8:=hL7.same s8
     have S8:=S7.trans s8
     have sm8:=sm.trans s8
     have hb8:=s8 _ _ hb7
     have Aq:=fv s8 E7
     generalize upd (upd H7 t _) c _=H8 at s8 hc8 ht8 hN8 hL8 S8 sm8 hb8 Aq ⊢
     have BA:i7 H8 c (kS (m.2,st.2)):=⟨t,hc8,by rw[show(kS (m.2,st.2)).1=kyI m.2 from rfl,hV];exact ht8⟩
     have nu:fY st.1 st.2 ((mvs l st.1).take (j+1)) (go i)=je st.1 st.2 (fY st.1 st.2 ((mvs l st.1).take j) (go i)) m:=xX hm
     have sl:(fY st.1 st.2 ((mvs l st.1).take j) (go i)).2.length<=1000/\(fY st.1 st.2 ((mvs l st.1).take j) (go i)).1.length<=1000:=by
      have h1:=rQ st.1 st.2 (mvs l st.1) (go i) j
      have h2:=hb (i+1)
      rw[yA he]at h2
      exact⟨bz h1.1.length_le h2.1,bz h1.2.length_le h2.2⟩
     have old:¬(m.1.1=st.2/\(m.2,st.2)∉(fY st.1 st.2 ((mvs l st.1).take j) (go i)).1.map (·.1))->N [some v,some (V.ref p0),some (.ref d),some (.ref p),some (.int ((i:Int)+1)),some (.ref bt),some (.str st.2),some (.ref p1),some (.ref bb),some (.ref c)] H8:=λh=>kN _ _ (by
      have e:fY st.1 st.2 ((mvs l st.1).take (j+1)) (go i)=fY st.1 st.2 ((mvs l st.1).take j) (go i):=by
       rw[nu];unfold je;rw[aH h]
      rw[e]
      exact⟨as',cs',us',_,_,_,rfl,S8,sm8,hN8,hL8⟩)
     refine⟨_,rfl,p1,_,_,_,rfl,rfl,Aq,rfl,_,rfl,rfl,_,rfl,fP (λhw=>?_) (λhw=>?_)⟩
     ·have hw:m.1.1=st.2:=by simpa using hw
      refine⟨_,rfl,_,rfl,d,_,c,_,rfl,rfl,hN8.dn,BA,_,rfl,fP (λhn=>?_) (λhn=>?_)⟩
      ·have hn:(m.2,st.2)∉(fY st.1 st.2 ((mvs l st.1).take j) (go i)).1.map (·.1):=λz=>by
        rw[(hN8.mem (m.2,st.2)).mpr z]at hn;cases hn
       have l0:fY st.1 st.2 ((mvs l st.1).take (j+1)) (go i)=((fY st.1 st.2 ((mvs l st.1).take j) (go i)).1 ++ [((m.2,st.2),some ((st.1,st.2),some m.1))],(fY st.1 st.2 ((mvs l st.1).take j) (go i)).2 ++ [(m.2,st.2)]):=by
        rw[nu];unfold je;rw[aL ⟨hw,hn⟩]
       refine⟨_,rfl,_,rfl,by show 2<=sizeLine;decide,λc2 nc2=>⟨_,rfl,by show 2<=sizeLine;decide,λa2 na2=>?_⟩⟩
       have s9:=(eE (o:=.tup [.ref bt,.str st.2]) nc2).trans (eE (o:=.tup [.ref c2,.ref p1]) na2)
       have ha9:=eG (H:=upd H8 c2 (.tup [.ref bt,.str st.2])) (a:=a2) (o:=.tup [.ref c2,.ref p1])
       have hc9:=(eE (o:=.tup [.ref c2,.ref p1]) na2) _ _ (eG (H:=H8) (a:=c2) (o:=.tup [.ref bt,.str st.2]))
       have hN9:=hN8.same s9
       have hL9:=hL8.same s9
       have S9:=S8.trans s9
       have sm9:=sm8.trans s9
       have vz:=BA.same s9
       have hb9:=s9 _ _ hb8
       have BE:=fv s9 Aq
       generalize upd (upd H8 c2 _) a2 _=H9 at s9 ha9 hc9 hN9 hL9 S9 sm9 vz hb9 BE ⊢
       have bk9:yM K H9 (some ((st.1,st.2),some m.1)) (.ref a2):=⟨a2,c2,p1,rfl,ha9,⟨bt,hc9,by rw[show(kS (st.1,st.2)).1=kyI st.1 from rfl,hV];exact hb9⟩,BE⟩
       refine⟨_,rfl,_,rfl,d,_,c,_,rfl,rfl,hN9.dn,vz,jM (by rw[zl hN9.lc hN9.lv];omega),?_⟩
       have g1:=hN9.push (e:=((m.2,st.2),some ((st.1,st.2),some m.1))) hn vz bk9
       have pd:p≠d:=fz hL9.at_ hN9.dn.at_ (λz=>nomatch z)
       have hp9:(upd H9 d (nD P w d (putN (kvN (fY st.1 st.2 ((mvs l st.1).take j) (go i)).1 cs' us') (kS ((m.2,st.2):Sta)) c (.ref a2)))) p=some (.lst (as'.map V.ref)):=by rw[eL pd];exact hL9.at_
       refine⟨_,rfl,.inl ⟨rfl,_,SqL.of hp9⟩,_,rfl,p,_,_,rfl,rfl,hp9,jM (by rw[aa,hL9.len];omega),?_⟩
       have tp:∀ b ys,(upd H9 d (nD P w d (putN (kvN (fY st.1 st.2 ((mvs l st.1).take j) (go i)).1 cs' us') (kS ((m.2,st.2):Sta)) c (.ref a2)))) b=some (.tup ys)->(upd (upd H9 d (nD P w d (putN (kvN (fY st.1 st.2 ((mvs l st.1).take j) (go i)).1 cs' us') (kS ((m.2,st.2):Sta)) c (.ref a2)))) p (.lst (as'.map V.ref ++ [.ref c]))) b=some (.tup ys):=λb ys q=>by rw[eL (fz q hp9 (λz=>nomatch z))];exact q
       have tq:∀ b ys,H9 b=some (.tup ys)->(upd (upd H9 d (nD P w d (putN (kvN (fY st.1 st.2 ((mvs l st.1).take j) (go i)).1 cs' us') (kS ((m.2,st.2):Sta)) c (.ref a2)))) p (.lst (as'.map V.ref ++ [.ref c]))) b=some (.tup ys):=λb ys q=>tp b ys (by rw[eL (fz q hN9.dn.at_ (λz=>nomatch z))];exact q)
       refine kN _ _ ⟨as' ++ [c],cs' ++ [c],us' ++ [.ref a2],_,_,_,rfl,?_,sJ sm9,?_,?_⟩
       ·intro b o hb'
        have hbd:b≠d:=λz=>by rw[z,jI]at hb';cases hb'
        have hbp:b≠p:=λz=>by
         rw[z,fV (λz=>pd z),np]at hb';cases hb'
        rw[eL hbp,eL hbd];exact S9 _ _ hb'
       ·rw[l0];exact StN.list g1 hp9
       ·rw[l0];exact hL9.push tq eG (vz.ke tq)
      ·refine old λz=>?_
       have:(valN (kvN (fY st.1 st.2 ((mvs l st.1).take j) (go i)).1 cs' us') (kS (m.2,st.2))).isSome=true:=cY λy=>hn (by rw[Bool.not_eq_true]at y;rw[y];rfl)
       exact z.2 ((hN8.mem _).mp this)
     ·exact BD (old λz=>hw (by simp[z.1]))
    ·rintro σ H7 ⟨as',cs',us',y7,y8,y9,rfl,S7,sm,hN7,hL7⟩
     rw[<-Bw,bo,<-yA he]at hN7 hL7
     have xg:=(kK st.1 st.2 (mvs l st.1) (go i)).1.length_le
     rw[<-yA he]at xg
     refine kN1 _ _ ⟨i+1,as',cs',us',_,_,_,_,_,rfl,S7,hN7,hL7,by omega⟩ ?_
     show(1001-((i:Int)+1)).toNat<(1001-(i:Int)).toNat
     omega
   ·have hlt:¬(i:Int)<((as.map V.ref).length:Int):=by simpa using hlt
    rw[aa,hL4.len]at hlt
    exact kB1 _ _ ⟨_,rfl,k i p as cs us H4 (by omega) S4 np hL4 hN4⟩
  ·rintro σ H Q Q' hq ⟨x,e1,y,e2,p',ys,e3,h4,i',j',e5,e6,c,e7,q⟩
   exact⟨x,e1,y,e2,p',ys,e3,h4,i',j',e5,e6,c,e7,hq _ _ q⟩
end
def tV (P:Program)(w:World)(K:PySem.W.Frag):Sp:=λvs H Q _=>∃ (p d:Addr) (es:List EnS) (cs:List Addr) (us:List V) (ss:List Sta) (as:List Addr),vs = [.ref p,.ref d]/\StL H p as ss/\StN P w K H d es cs us/\
 (∀ s∈ss,isW s.2)/\ss.length<=1000/\es.length<=1000/\
 ∀ q as' cs' us' H',eQ (hid d H) H'->H q=none->StL H' q as' (chN ss es).2->StN P w K H' d (chN ss es).1 cs' us'->Q (.ref q) H'
abbrev jG:Stmt:=top 29
theorem iD:fk ["states","steps","found","standing","word","state"] ["states","steps"] (eS jG):=⟨rfl,rfl,rfl,by decide +kernel,rfl,by decide +kernel,by decide +kernel⟩
section
variable {P:Program}{w:World}{K:PySem.W.Frag}{mg:Str->Option Value}{base:Heap}{f od:Addr}{fd:FuncData}
theorem qM (F:Fn K mg "changed_over" jG ["states","steps"] f fd)(O:DB P w K mg od):eY P w K mg base CX0 1 f fd ["states","steps"] (tV P w K):=by
 refine F.F.ok iD (λvs H Q E h=>?_) (λcdv A outer s H vs Q E hr h=>?_)
 ·obtain⟨p,d,es,cs,us,ss,as,rfl,_⟩:=h;rfl
 ·obtain⟨p0,d,es,cs,us,ss,as0,rfl,hL,hN,hw,hsl,hel,k⟩:=h
  refine⟨_,(eJ (eW (i:=2) iD.nd rfl (Or.inl rfl) (gj eI))
 (eJ (gU aX rfl (fF (pv 0)) (g7 (n:=2) rfl (fc (eU (i:=3) iD.nd rfl (Or.inl rfl)) (fc (eU (i:=4) iD.nd rfl (Or.inl rfl)) gB)))
 (eJ (eW (i:=5) iD.nd rfl (Or.inl rfl) (fC (eD (pv 3) (eD (Gf O rfl (pv 4) (λ_ _=>rfl)) eI))))
 (eM (gA (fE (uh (lp hr) (pv 5) (pv 1)))
 (eJ (uY (lp hr) (pv 1) (pv 5) (fC (eD (fC (eD (pv 3) (eD (pv 4) eI))) (eD se eI))) rfl)
 (eM (gF (ki aM aT aS gD (pv 2) (eD (pv 5) eI))))) fu))))
 (eM (fj (pv 2))))),?_⟩
  refine⟨by show 0<=sizeLine;decide,λp np=>?_⟩
  have s1:=eE (o:=.lst []) np
  have hp1:=eG (H:=H) (a:=p) (o:=.lst [])
  have hN1:=hN.same s1
  have S1:eQ (hid d H) (upd H p (.lst [])):=iF.trans s1
  generalize upd H p _=H1 at s1 hp1 hN1 S1 ⊢
  have p0d:p0≠d:=fz hL.at_ hN.dn.at_ (λz=>nomatch z)
  have hp0:∀ {H7},eQ (hid d H) H7->H7 p0=some (.lst (as0.map V.ref)):=λ{H7} s=>s _ _ (by rw[fV p0d];exact hL.at_)
  refine⟨_,rfl,p0,rfl,⟨_,SqL.of (hp0 S1)⟩,nI (K:=K) (a:=p0) (xs:=as0.map V.ref) (λj σ H7=>∃ (as' cs':List Addr) (us':List V) (x3 x4 x5:Option V),σ = [some (.ref p0),some (.ref d),some (.ref p),x3,x4,x5]/\eQ (hid d H) H7/\StN P w K H7 d (chN (ss.take j) es).1 cs' us'/\StL H7 p as' (chN (ss.take j) es).2)
   ⟨[],cs,us,none,none,none,rfl,S1,hN1,⟨hp1,rfl,λi a s h=>by simp at h⟩⟩ (λj σ H7 _ ⟨_,_,_,_,_,_,_,h,_⟩=>SqL.of (hp0 h)) ?_ ?_⟩
  ·rintro j y σ H7 hj ⟨as',cs',us',x3,x4,x5,rfl,S7,hN7,hL7⟩
   have hjl:j<ss.length:=by
    have:=(ah.mp hj).1
    rwa [aa,hL.len]at this
   have he:ss[j]? = some ss[j]:=af hjl
   generalize ss[j]=st at he
   obtain⟨b,hb⟩:∃ b,as0[j]? = some b:=⟨as0[j]'(by rw[hL.len];exact hjl),af _⟩
   have ey:y=V.ref b:=by rw[aq,hb]at hj;simpa using hj.symm
   subst ey
   obtain⟨bt,hk1,hk2⟩:=(Ah hN.dn.at_ (hL.each j b st hb he)).same S7
   have hk1:H7 b=some (.tup [.ref bt,.str st.2]):=hk1
   have hws:=hw st (ay he)
   refine⟨b,_,rfl,SqT.of hk1,rfl,_,_,rfl,_,_,rfl,rfl,?_⟩
   refine⟨_,rfl,_,rfl,st.2,rfl,hws,by show 2<=sizeLine;decide,λc nc=>?_⟩
   have s8:=eE (o:=.tup [.ref bt,.str (ow st.2)]) nc
   have hc8:=eG (H:=H7) (a:=c) (o:=.tup [.ref bt,.str (ow st.2)])
   have hN8:=hN7.same s8
   have hL8:=hL7.same s8
   have S8:=S7.trans s8
   have hb8:=s8 _ _ hk2
   generalize upd H7 c _=H8 at s8 hc8 hN8 hL8 S8 hb8 ⊢
   have BA:i7 H8 c (kS (st.1,ow st.2)):=⟨bt,hc8,hb8⟩
   have nu:chN (ss.take (j+1)) es=gX (chN (ss.take j) es) st:=B4 he
   have sl:(chN (ss.take j) es).1.length<=2000/\(chN (ss.take j) es).2.length<=1000:=by
    have:=zF es (ss.take j) (es,[])
    have h2:(ss.take j).length<=1000:=by rw[bj];omega
    unfold chN
    simp only[dg]at this
    omega
   refine⟨_,rfl,_,rfl,d,_,c,_,rfl,rfl,hN8.dn,BA,_,rfl,fP (λhn=>?_) (λhn=>?_)⟩
   ·have hn:(st.1,ow st.2)∉(chN (ss.take j) es).1.map (·.1):=λz=>by
     rw[(hN8.mem (st.1,ow st.2)).mpr z]at hn;cases hn
    have l0:chN (ss.take (j+1)) es=((chN (ss.take j) es).1 ++ [((st.1,ow st.2),some (st,none))],(chN (ss.take j) es).2 ++ [(st.1,ow st.2)]):=by
     rw[nu];unfold gX;rw[aL hn]
    refine⟨_,rfl,_,rfl,by show 2<=sizeLine;decide,λc2 nc2=>⟨by show 2<=sizeLine;decide,λa2 na2=>?_⟩⟩
    have s9:=(eE (o:=.tup [.ref bt,.str st.2]) nc2).trans (eE (o:=.tup [.ref c2,.non]) na2)
    have ha9:=eG (H:=upd H8 c2 (.tup [.ref bt,.str st.2])) (a:=a2) (o:=.tup [.ref c2,.non])
    have hc9:=(eE (o:=.tup [.ref c2,.non]) na2) _ _ (eG (H:=H8) (a:=c2) (o:=.tup [.ref bt,.str st.2]))
    have hN9:=hN8.same s9
    have hL9:=hL8.same s9
    have S9:=S8.trans s9
    have vz:=BA.same s9
    have hb9:=s9 _ _ hb8
    generalize upd (upd H8 c2 _) a2 _=H9 at s9 ha9 hc9 hN9 hL9 S9 vz hb9 ⊢
    have bk9:yM K H9 (some (st,none)) (.ref a2):=⟨a2,c2,rfl,ha9,⟨bt,hc9,hb9⟩⟩
    refine⟨_,rfl,_,rfl,d,_,c,_,rfl,rfl,hN9.dn,vz,jM (by rw[zl hN9.lc hN9.lv];omega),?_⟩
    have g1:=hN9.push (e:=((st.1,ow st.2),some (st,none))) hn vz bk9
    have pd:p≠d:=fz hL9.at_ hN9.dn.at_ (λz=>nomatch z)
    have hp9:(upd H9 d (nD P w d (putN (kvN (chN (ss.take j) es).1 cs' us') (kS ((st.1,ow st.2):Sta)) c (.ref a2)))) p=some (.lst (as'.map V.ref)):=by rw[eL pd];exact hL9.at_
    refine⟨_,rfl,.inl ⟨rfl,_,SqL.of hp9⟩,_,rfl,p,_,_,rfl,rfl,hp9,jM (by rw[aa,hL9.len];omega),?_⟩
    have tq:∀ b ys,H9 b=some (.tup ys)->(upd (upd H9 d (nD P w d (putN (kvN (chN (ss.take j) es).1 cs' us') (kS ((st.1,ow st.2):Sta)) c (.ref a2)))) p (.lst (as'.map V.ref ++ [.ref c]))) b=some (.tup ys):=λb ys q=>by
     have q2:(upd H9 d (nD P w d (putN (kvN (chN (ss.take j) es).1 cs' us') (kS ((st.1,ow st.2):Sta)) c (.ref a2)))) b=some (.tup ys):=by rw[eL (fz q hN9.dn.at_ (λz=>nomatch z))];exact q
     rw[eL (fz q2 hp9 (λz=>nomatch z))];exact q2
    refine⟨as' ++ [c],cs' ++ [c],us' ++ [.ref a2],_,_,_,rfl,?_,?_,?_⟩
    ·intro b o hb'
     have hbd:b≠d:=λz=>by rw[z,jI]at hb';cases hb'
     have hbp:b≠p:=λz=>by
      rw[z,fV (λz=>pd z),np]at hb';cases hb'
     rw[eL hbp,eL hbd];exact S9 _ _ hb'
    ·rw[l0];exact StN.list g1 hp9
    ·rw[l0];exact hL9.push tq eG (vz.ke tq)
   ·have hy:(valN (kvN (chN (ss.take j) es).1 cs' us') (kS (st.1,ow st.2))).isSome=true:=cY λy=>hn (by rw[Bool.not_eq_true]at y;rw[y];rfl)
    have qA:chN (ss.take (j+1)) es=chN (ss.take j) es:=by
     rw[nu];unfold gX;rw[aH (λz=>z ((hN8.mem _).mp hy))]
    rw[qA]
    exact⟨as',cs',us',_,_,_,rfl,S8,hN8,hL8⟩
  ·rintro σ H7 ⟨as',cs',us',x3,x4,x5,rfl,S7,hN7,hL7⟩
   rw[aa,hL.len,bo]at hN7 hL7
   exact⟨_,rfl,k p as' cs' us' H7 S7 np hL7 hN7⟩
end
theorem BX {P:Program}{w:World}{K:PySem.W.Frag}{p l:Addr}{xs:List V}{g:TG}{tt:TT}{te tv:TE}{cap:List (Option Nat)}{σ:L2.St}{Q:VK}{H1:Hp}(Pv:Nat->Hp->Prop)(h0:Pv 0 (upd H1 l (nD P w l [])))(hl:∀ i H,i<=xs.length->Pv i H->SqL K H p xs)
  (hs:∀ i x H,xs[i]? = some x->Pv i H->g x (iG cap σ) H λσ2 H2=>tt σ2 H2 λb H3=>
    if b=true then te σ2 H3 λy H4=>tv σ2 H4 λv H5=>∃ (kvs:KvN) (k:SK) (b:Addr),y = .ref b/\DN P w H5 l kvs/\i7 H5 b k/\kvs.length<sizeLine/\Pv (i+1) (upd H5 l (nD P w l (putN kvs k b v)))
    else Pv (i+1) H3)
  (hd:∀ H,Pv xs.length H->Q (.ref l) H):Fy P w (Itl K p) g tt te tv cap σ Q l H1:=by
 refine⟨λi m H=>m=xs.length-i/\i<=xs.length/\Pv i H,⟨xs.length,by simp,aO _,h0⟩,?_⟩
 rintro i m H ⟨rfl,hi,p⟩
 have q:=hl i H hi p
 by_cases hlt:i<xs.length
 ·refine .inr ⟨⟨xs,xs[i],q,by simp[hlt]⟩,Pv (i+1),λH' p'=>⟨xs.length-(i+1),by omega,rfl,hlt,p'⟩,λx H' y=>?_⟩
  obtain⟨rfl,hy⟩:=y
  exact hs i x H' (hy xs q) p
 ·have:i=xs.length:=by omega
  subst this
  exact .inl ⟨⟨xs,q,av _⟩,hd H p⟩
def vI (n:Nat):V:=V.int n
def rO (P:Program)(w:World)(K:PySem.W.Frag):Sp:=λvs H Q _=>∃ (v u:V) (l:Ln) (tr:List Int) (i:Nat),vs = [v,u]/\Da K H (dL l) v/\Da K H (dI tr) u/\fb l/\tr≠ []/\tr.length<=900/\fT l tr/\(eT l tr i).length=i/\i<=300/\
 ∀ r t cd sd kvs cs us H',(rnd l tr r).2 = []->eQ H H'->H' t=some (.tup [.ref cd,.ref sd])->StN P w K H' sd (rnd l tr r).1 cs us->DN P w H' cd kvs->(∀ s,valN kvs (kS s)=(cnt l tr r s).map vI)->Q (.ref t) H'
def at7 (σ:L2.St)(_:Hp):Nat:=match (σ[7]? :Option (Option V))with
 |some (some (V.int i))=>(2000-i).toNat
 |_=>0
abbrev mh:Stmt:=top 30
theorem ie:fk ["line","train","start","states","state","steps","counts","many"] ["line","train"] (eS mh):=⟨rfl,rfl,rfl,by decide +kernel,rfl,by decide +kernel,by decide +kernel⟩
theorem pS:fX (eS mh) ["line","train","start","states","state","steps","counts","many"] {kind:=.function,names:=[(Str.ofString ".0",.local),(Str.ofString "state",.local)],isGenerator:=false,isCoroutine:=false,more:=[]} ["state"] 1 [none]:=⟨rfl,by decide +kernel,by decide +kernel,by decide +kernel,rfl,by decide +kernel,rfl,by decide +kernel⟩
section
variable {P:Program}{w:World}{K:PySem.W.Frag}{mg:Str->Option Value}{base:Heap}{f od:Addr}{fd:FuncData}
theorem ym {f1 f2:Addr}{fd1 fd2:FuncData}(F:Fn K mg "counted" mh ["line","train"] f fd)(B:Bm mg)(kT:Fn K mg "gone_on" oj ["line","states","steps"] f1 fd1)(qv:eY P w K mg base CX0 4 f1 fd1 ["line","states","steps"] (yV P w K))
  (ip:Fn K mg "changed_over" jG ["states","steps"] f2 fd2) (lF:eY P w K mg base CX0 1 f2 fd2 ["states","steps"] (tV P w K)):eY P w K mg base CX0 5 f fd ["line","train"] (rO P w K):=by
 refine F.F.ok ie (λvs H Q E h=>?_) (λcdv A outer s H vs Q E hr h=>?_)
 ·obtain⟨v,u,l,tr,i,rfl,_⟩:=h;rfl
 ·obtain⟨v,u,l,tr,iw,rfl,hv,hu,ok,hne,Di,T,hiw,GS,k⟩:=h
  obtain⟨a,rfl,ha⟩:=h9.mp hu
  obtain⟨_,htr,hsh⟩:=kd ok T hne hiw
  have fN:∀ t∈(eT l tr iw).map (·.1),∀ m∈mvs l t,m.2∈(eT l tr iw).map (·.1):=λt ht=>(hsh t ht).2
  have Wl:((eT l tr iw).map (·.1)).length<=300:=by rw[aa];omega
  have EI:=iu ok T hne iw
  have trW:∀ t∈(eT l tr iw).map (·.1),fT l t/\t≠ []/\t.length<=900:=λt ht=>by
   obtain⟨e,he,rfl⟩:=ak.mp ht
   have:=EI.tr e he
   exact⟨this.1,this.2.2,by rw[this.2.1];exact Di⟩
  have RR:=RO.rnd fN htr
  generalize (eT l tr iw).map (·.1)=W at fN Wl trW RR htr hsh
  refine⟨_,(eJ (eW (i:=2) ie.nd rfl (Or.inl rfl) (fL gy rfl B.tuple dA (eD (pv 1) eI)))
 (eJ (eW (i:=3) ie.nd rfl (Or.inl rfl) (gj (eD (fC (eD (pv 2) (eD fS eI))) (eD (fC (eD (pv 2) (eD fS eI))) eI))))
 (eJ (Eu (i:=5) (my hr) ie.nd rfl rfl (fF (pv 3)) rfl pS (.name (by decide)) (λ_ _ _ _=>(eU (i:=0) pS.nd rfl (Or.inl rfl))) (λ_ _ _ _=>g6) (λ_ _ _ _=>(pv 0)) (λ_ _ _ _=>se))
 (eJ (eW (i:=6) ie.nd rfl (Or.inl rfl) CK)
 (eJ (eW (i:=7) ie.nd rfl (Or.inl rfl) eK)
 (eJ (mj aX (wF (pv 3) (λ_=>rfl))
 (eJ (eW (i:=3) ie.nd rfl (Or.inl rfl) (eO qv (hr.mono (by decide)) rfl kT.m kT.F.kp kT.b .nil fg (eD (pv 0) (eD (pv 3) (eD (pv 5) eI)))))
 (eJ (gU aX rfl (fF (pv 3)) (eU (i:=4) ie.nd rfl (Or.inl rfl))
 (eM (uY (lp hr) (pv 6) (pv 4) (pv 7) rfl)))
 (eJ (eW (i:=3) ie.nd rfl (Or.inl rfl) (eO lF (hr.mono (by decide)) rfl ip.m ip.F.kp ip.b .nil fg (eD (pv 3) (eD (pv 5) eI))))
 (eM (yd (i:=7) ie.nd rfl (Or.inl rfl) eK yu))))))
 (eM (fj (fC (eD (pv 6) (eD (pv 5) eI))))))))))),?_⟩
  refine⟨_,rfl,a,_,rfl,.inl ⟨ha,λt0 nt0=>?_⟩⟩
  have s1:=eE (o:=.tup (tr.map V.int)) nt0
  have h1:=eG (H:=H) (a:=t0) (o:=.tup (tr.map V.int))
  generalize upd H t0 _=H1 at s1 h1 ⊢
  refine⟨_,rfl,by show 2<=sizeLine;decide,λc1 nc1=>⟨_,rfl,by show 2<=sizeLine;decide,λc2 nc2=>⟨by show 2<=sizeLine;decide,λp np=>?_⟩⟩⟩
  have s2:=(eE (o:=.tup [.ref t0,.str "on"]) nc1).trans ((eE (o:=.tup [.ref t0,.str "back"]) nc2).trans (eE (o:=.lst [.ref c1,.ref c2]) np))
  have hp2:=eG (H:=upd (upd H1 c1 (.tup [.ref t0,.str "on"])) c2 (.tup [.ref t0,.str "back"])) (a:=p) (o:=.lst [.ref c1,.ref c2])
  have hc2:=(eE (o:=.lst [.ref c1,.ref c2]) np) _ _ (eG (H:=upd H1 c1 (.tup [.ref t0,.str "on"])) (a:=c2) (o:=.tup [.ref t0,.str "back"]))
  have hc1:=((eE (o:=.tup [.ref t0,.str "back"]) nc2).trans (eE (o:=.lst [.ref c1,.ref c2]) np)) _ _ (eG (H:=H1) (a:=c1) (o:=.tup [.ref t0,.str "on"]))
  generalize upd (upd (upd H1 c1 _) c2 _) p _=H2 at s2 hp2 hc2 hc1 ⊢
  have ht2:=s2 _ _ h1
  have k1:i7 H2 c1 (kS (tr,onW)):=⟨t0,hc1,by rw[show(kS (tr,onW)).1=kyI tr from rfl,hV];exact ht2⟩
  have k2:i7 H2 c2 (kS (tr,gQ)):=⟨t0,hc2,by rw[show(kS (tr,gQ)).1=kyI tr from rfl,hV];exact ht2⟩
  refine⟨_,rfl,p,rfl,⟨_,SqL.of hp2⟩,λsd nsd=>?_⟩
  have S2:=s1.trans s2
  have hn:onW≠gQ:=by unfold onW gQ;decide +kernel
  refine BX (K:=K) (p:=p) (xs:=[.ref c1,.ref c2]) (λj G=>eQ H2 G/\StN P w K G sd ((r0 tr).1.take j) ([c1,c2].take j) ([V.non,V.non].take j))
   ⟨eE nsd,⟨⟨eG,λq hq=>(by cases hq)⟩,rfl,rfl,λi e v he=>(by simp at he)⟩⟩ (λj G _ h=>SqL.of (h.1 _ _ hp2)) (λj x G hx h=>?_) (λG h=>?_)
  ·have EH:H2 sd=none:=nsd
   match j,hx with
   | 0,hx=>
    cases hx
    refine⟨_,rfl,_,(kS (tr,onW)),c1,rfl,h.2.dn,k1.same h.1,by show 0<sizeLine;decide,eQ.upd h.1 nsd,?_⟩
    exact StN.push (e:=((tr,onW),none)) h.2 (by simp) (k1.same h.1) rfl
   | 1,hx=>
    cases hx
    refine⟨_,rfl,_,(kS (tr,gQ)),c2,rfl,h.2.dn,k2.same h.1,by show 1<sizeLine;decide,eQ.upd h.1 nsd,?_⟩
    exact StN.push (e:=((tr,gQ),none)) h.2 (by show(tr,gQ)∉ [(tr,onW)];simp;exact λz=>hn z.symm) (k2.same h.1) rfl
  obtain⟨S3,N3⟩:=h
  have N3:StN P w K G sd (r0 tr).1 [c1,c2] [V.non,V.non]:=N3
  have L3:StL G p [c1,c2] (r0 tr).2:=⟨S3 _ _ hp2,rfl,λi a s h1 h2=>by
   match i,h1,h2 with
   | 0,h1,h2=>cases h1;cases h2;exact k1.same S3
   | 1,h1,h2=>cases h1;cases h2;exact k2.same S3⟩
  have S03:=S2.trans S3
  have EH:H sd=none:=eQ.free S2 nsd
  clear hp2 hc1 hc2 k1 k2 s2 ht2
  refine λcd ncd=>?_
  have s4:=eE (o:=nD P w cd []) ncd
  have hcd:=eG (H:=G) (a:=cd) (o:=nD P w cd [])
  have scd:sd≠cd:=λz=>by rw[<-z,N3.dn.at_]at ncd;cases ncd
  have D4:DN P w (upd G cd (nD P w cd [])) cd []:=⟨hcd,λq hq=>(by cases hq)⟩
  have KJ:H cd=none:=eQ.free S03 ncd
  dsimp only[oE,AL,tC,oP]
  show rJ _ _ _ _ _
  refine nW (λσ H4=>∃ (r:Nat) (p':Addr) (as cs:List Addr) (us:List V) (kvs:KvN) (x4:Option V),σ = [some v,some (.ref a),some (.ref t0),some (.ref p'),x4,some (.ref sd),some (.ref cd),some (.int r)]/\eQ H H4/\StL H4 p' as (rnd l tr r).2/\StN P w K H4 sd (rnd l tr r).1 cs us/\DN P w H4 cd kvs/\(∀ s,valN kvs (kS s)=(cnt l tr r s).map vI)/\kvs.length<=r*1000/\((rnd l tr r).2≠ []->r<=(rnd l tr r).1.length)/\r<=1001)
   at7 ⟨0,p,[c1,c2],[c1,c2],[V.non,V.non],[],none,rfl,S03.trans s4,L3.same s4,N3.same s4,D4,λs=>rfl,aO _,λ_=>aO _,aO _⟩ ?_ ?_
  ·rintro σ H4 N1 R1 B1 kN1 _ kB1 ⟨r,p',as,cs,us,kvs,x4,rfl,S4,L4,N4,D4,yw,hkl,hr1,hr2⟩
   have R:=RR r
   refine⟨_,rfl,_,.inl ⟨_,SqL.of L4.at_,rfl⟩,fP (λqm=>?_) (λhe=>?_)⟩
   ·have qm:(rnd l tr r).2≠ []:=λz=>by
     have:=L4.len
     rw[z]at this
     have:as = []:=List.length_eq_zero_iff.mp this
     rw[this]at qm
     cases qm
    have hr3:=hr1 qm
    have Rl:=R.len
    have bnd:∀ i,(goS l ((rnd l tr r).1,(rnd l tr r).2) i).2.length<=1000/\(goS l ((rnd l tr r).1,(rnd l tr r).2) i).1.length<=1000:=λi=>by
     have:=(RO.go fN R i).len
     exact⟨by show(goS l (rnd l tr r) i).2.length<=1000;omega,by show(goS l (rnd l tr r) i).1.length<=1000;omega⟩
    refine⟨_,rfl,_,rfl,_,rfl,v,p',sd,l,_,cs,us,_,as,rfl,Da.same S4 hv,L4,N4,ok,λs hs=>trW s.1 (R.inW s (R.sub s hs)).1,bnd,λi q as' cs' us' H5 hi S5 nq L5 N5=>?_⟩
    have hi:(goS l (rnd l tr r) i).2.length=i:=hi
    have eF:goS l ((rnd l tr r).1,(rnd l tr r).2) i=goF l (rnd l tr r):=(Fi hi (by have:=(bnd i).1;have h2:(goS l ((rnd l tr r).1,(rnd l tr r).2) i).2.length=i:=hi;omega)).symm
    rw[eF]at L5 N5
    have R5:RO W (goF l (rnd l tr r)):=RO.go fN R 1000
    have Rl5:=R5.len
    have D5:DN P w H5 cd kvs:=(D4.hid N4.dn.at_ scd.symm).same S5
    have S05:eQ H H5:=(t6 S4 EH).trans S5
    have gp:(rnd l tr r).1.length<=(goF l (rnd l tr r)).1.length:=(ot l (rnd l tr r) 1000).length_le
    have er:rnd l tr (r+1)=chN (goF l (rnd l tr r)).2 (goF l (rnd l tr r)).1:=rfl
    have ec:∀ s,cnt l tr (r+1) s=open Classical in if s∈(goF l (rnd l tr r)).2 then some r else cnt l tr r s:=λs=>rfl
    generalize goF l (rnd l tr r)=gg at L5 N5 R5 Rl5 gp er ec
    refine⟨_,rfl,q,rfl,⟨_,SqL.of L5.at_⟩,ik (K:=K) (a:=q) (xs:=as'.map V.ref) (λj σ G=>∃ (qN:KvN) (x4:Option V),σ = [some v,some (.ref a),some (.ref t0),some (.ref q),x4,some (.ref sd),some (.ref cd),some (.int r)]/\eQ H G/\StL G q as' gg.2/\StN P w K G sd gg.1 cs' us'/\DN P w G cd qN/\(∀ s,(s∈gg.2.take j->valN qN (kS s)=some (vI r))/\(s∉gg.2.take j->valN qN (kS s)=valN kvs (kS s)))/\qN.length<=kvs.length+j)
     ⟨kvs,x4,rfl,S05,L5,N5,D5,λs=>⟨λz=>(by simp at z),λ_=>rfl⟩,av _⟩ (λj σ G _ ⟨_,_,_,_,h,_⟩=>SqL.of h.at_) ?_ ?_⟩
    ·rintro j y σ G N2 R2 B2 kN2 _ hj ⟨qN,x4',rfl,SG,LG,NG,DG,hv',hl'⟩
     have hjl:j<gg.2.length:=by
      have:=(ah.mp hj).1
      rwa [aa,LG.len]at this
     have he:gg.2[j]? = some gg.2[j]:=af hjl
     generalize gg.2[j]=st at he
     obtain⟨b,hb⟩:∃ b,as'[j]? = some b:=⟨as'[j]'(by rw[LG.len];exact hjl),af _⟩
     have ey:y=V.ref b:=by rw[aq,hb]at hj;simpa using hj.symm
     subst ey
     have key:=LG.each j b st hb he
     refine⟨_,rfl,_,rfl,_,rfl,cd,qN,b,kS st,rfl,rfl,DG,key,jM (by have:r*1000<=1001*1000:=Nat.mul_le_mul_right _ hr2;omega),?_⟩
     refine kN2 _ _ ⟨_,_,rfl,eQ.upd SG KJ,LG.other DG.at_,NG.other DG.at_ scd,DG.put key,λs'=>⟨λhm=>?_,λhm=>?_⟩,?_⟩
     ·rw[vY]
      by_cases e:s'=st
      ·rw[aL (by rw[e])];rfl
      ·rw[aH (λz=>e (vA z))]
       rw[aZ,he]at hm
       rcases az.mp hm with z |z
       ·exact(hv' s').1 z
       ·exact absurd (by simpa using z) e
     ·rw[aZ,he]at hm
      have e:s'≠st:=λz=>hm (aD _ (by rw[z];simp))
      rw[vY,aH (λz=>e (vA z))]
      exact(hv' s').2 λz=>hm (aK _ z)
     ·have:=rX qN (kS st) b (.int r)
      show(putN qN (kS st) b (.int r)).length<=kvs.length+(j+1)
      omega
    rintro σ G ⟨qN,x4',rfl,SG,LG,NG,DG,hv',hl'⟩
    rw[aa,LG.len]at hl'
    rw[aa,LG.len,bo]at hv'
    refine⟨_,rfl,_,rfl,q,sd,gg.1,cs',us',gg.2,as',rfl,LG,NG,λs hs=>(R5.inW s (R5.sub s hs)).2,by omega,by omega,λq2 as2 cs2 us2 H7 S7 nq2 L7 N7=>?_⟩
    refine⟨_,rfl,_,_,rfl,rfl,?_⟩
    rw[<-er]at L7 N7
    have gr:=B5 gg.2 gg.1
    rw[<-er]at gr
    refine kN1 _ _ ⟨r+1,q2,as2,cs2,us2,qN,_,rfl,(t6 SG EH).trans S7,L7,N7,(DG.hid NG.dn.at_ scd.symm).same S7,λs=>?_,by have:=Nat.succ_mul r 1000;omega,λhn'=>?_,by omega⟩ ?_
    ·rw[ec s]
     by_cases hm:s∈gg.2
     ·rw[aL hm,(hv' s).1 hm];rfl
     ·rw[aH hm,(hv' s).2 hm];exact yw s
    ·have:1<=(rnd l tr (r+1)).2.length:=by
      cases h:(rnd l tr (r+1)).2 with
      |nil=>exact absurd h hn'
      |cons x y=>simp
     omega
    ·show(2000-((r:Int)+1)).toNat<(2000-(r:Int)).toNat
     omega
   ·have he:(rnd l tr r).2 = []:=by
     have:=L4.len
     have h0:as = []:=by
      have:(as.map V.ref).isEmpty=true:=by simpa using he
      simpa using this
     rw[h0]at this
     exact List.length_eq_zero_iff.mp this.symm
    refine kB1 _ _ ⟨_,rfl,_,rfl,by show 2<=sizeLine;decide,λt nt=>?_⟩
    have s9:=eE (o:=.tup [.ref cd,.ref sd]) nt
    exact k r t cd sd kvs cs us _ he (S4.trans s9) eG (N4.same s9) (D4.same s9) yw
  ·rintro σ H Q Q' hq ⟨x,e1,c,h2,q⟩
   exact⟨x,e1,c,h2,hq _ _ q⟩
end
def wu (P:Program)(w:World)(K:PySem.W.Frag):Sp:=λvs H Q _=>∃ (d g:Addr) (es:List EnS) (cs:List Addr) (us:List V) (s:Sta),vs = [.ref d,.ref g]/\StN P w K H d es cs us/\i7 H g (kS s)/\s∈es.map (·.1)/\gM es/\(es.map (·.1)).Nodup/\es.length<=5000000/\
 ∀ q run H',eQ H H'->H q=none->lP K H' q run->jJ es s run->Q (.ref q) H'
section
variable {P:Program}{w:World}{K:PySem.W.Frag}{mg:Str->Option Value}{base:Heap}{f:Addr}{fd:FuncData}
theorem pG (F:Fn K mg "run_back_from" hX ["steps","goal"] f fd):eY P w K mg base CX0 1 f fd ["steps","goal"] (wu P w K):=by
 refine F.F.ok fA (λvs H Q E h=>?_) (λcdv A outer s H vs Q E hr h=>?_)
 ·obtain⟨d,g,es,cs,us,t,rfl,_⟩:=h;rfl
 ·obtain⟨d,g,es,cs,us,t,rfl,hs,hg,ht,bk,nd,hl,k⟩:=h
  refine⟨_,(eJ (eW (i:=2) fA.nd rfl (Or.inl rfl) (gj eI))
 (eJ (eW (i:=3) fA.nd rfl (Or.inl rfl) (pE (lp hr) (pv 0) (pv 1) (λ_ _=>rfl)))
 (eJ (mj aX (fE (qX (pv 3)))
 (eJ (oV (pv 3) (g7 (n:=2) rfl (fc (eU (i:=4) fA.nd rfl (Or.inl rfl)) (fc (eU (i:=5) fA.nd rfl (Or.inl rfl)) gB))))
 (eJ (gA (fE (qX (pv 5)))
 (eM (gF (ki aM aT aS gD (pv 2) (eD (pv 5) eI)))) fu)
 (eM (eW (i:=3) fA.nd rfl (Or.inl rfl) (pE (lp hr) (pv 0) (pv 4) (λ_ _=>rfl)))))))
 (eJ (gF (Ba aM PySem.F.slot_list_reverse PySem.F.type_list_reverse sA (pv 2)))
 (eM (fj (pv 2))))))),?_⟩
  refine⟨aO _,λp np=>?_⟩
  have s1:=eE (o:=.lst []) np
  have hp1:=eG (H:=H) (a:=p) (o:=.lst [])
  generalize upd H p _=H1 at s1 hp1 ⊢
  obtain⟨e0,he0,rfl⟩:=ak.mp ht
  obtain⟨j0,hj0,ej0⟩:=aU.mp he0
  have BI:es[j0]? = some e0:=by rw[af hj0,ej0]
  have uat:∀ j,j<es.length->∃ v,us[j]? = some v:=λj hj=>⟨us[j]'(by rw[hs.lv];exact hj),af _⟩
  obtain⟨v0,hv0⟩:=uat j0 hj0
  have hs1:=hs.same s1
  refine⟨_,rfl,_,rfl,d,_,g,_,v0,rfl,rfl,hs1.dn,hg.same s1,hs1.get nd BI hv0,?_⟩
  refine vW (λn σ H3=>∃ (e:EnS) (sv:V) (rr:List (Str×Int)) (vs:List V) (x4 x5:Option V),σ = [some (.ref d),some (.ref g),some (.ref p),some sv,x4,x5]/\es[n]? = some e/\us[n]? = some sv/\eQ H H3/\H3 p=some (.lst vs)/\Das K (hid p H3) (rr.map dM) vs/\
    (∀ k∈rr,PyData.strOk k.1=true)/\rr.length+n<=es.length/\∀ r,jJ es e.1 r->jJ es e0.1 (r++rr.reverse))
   j0 ⟨e0,v0,[],[],none,none,rfl,BI,hv0,s1,hp1,fQ.mpr rfl,(λk hk=>by cases hk),by simp;omega,λr hr=>by simpa using hr⟩ ?_ ?_
  ·rintro n σ H3 ⟨e,sv,rr,vs,x4,x5,rfl,hn,hsv,S3,hp3,D3,okr,ln,PT⟩
   have hs3:=hs.same S3
   have sv3:=hs3.each n e sv hn hsv
   have vl:vs.length=rr.length:=by have:=Dgs.length D3;rw[aa]at this;exact this
   refine⟨_,rfl,_,rfl,fP (λhb=>?_) (λhb=>?_)⟩
   ·obtain⟨t',o'⟩:=e
    cases o' with
    |none=>
     have z:sv = .non:=sv3
     rw[z]at hb
     exact absurd hb (by decide)
    |some tk=>
     obtain⟨t1,mk⟩:=tk
     obtain⟨i,e1,hi,he1,rfl⟩:=bk.back n t' t1 mk hn
     have hlt:=(ah.mp he1).1
     obtain⟨v1,hv1⟩:=uat i hlt
     cases mk with
     |none=>
      obtain⟨a,b,rfl,ha,hb1⟩:=sv3
      refine⟨_,rfl,a,_,rfl,SqT.of ha,rfl,_,_,rfl,_,_,rfl,rfl,?_⟩
      refine⟨_,rfl,_,rfl,BD ?_⟩
      refine⟨_,rfl,_,rfl,d,_,b,_,v1,rfl,rfl,hs3.dn,hb1,hs3.get nd he1 hv1,?_⟩
      exact⟨i,hi,e1,v1,rr,vs,_,_,rfl,he1,hv1,S3,hp3,D3,okr,by omega,λr hr=>PT r (.ch (ay hn) hr)⟩
     |some k1=>
      obtain⟨a,b,c,rfl,ha,hb1,hc⟩:=sv3
      refine⟨_,rfl,a,_,rfl,SqT.of ha,rfl,_,_,rfl,_,_,rfl,rfl,?_⟩
      refine⟨_,rfl,_,rfl,yr ?_⟩
      refine⟨_,rfl,.inl ⟨rfl,_,SqL.of hp3⟩,_,rfl,p,_,_,rfl,rfl,hp3,jM (by omega),?_⟩
      have S4:=eQ.upd (o:=.lst (vs ++ [V.ref c])) S3 np
      have hs4:=hs.same S4
      have hb4:i7 (upd H3 p (.lst (vs ++ [V.ref c]))) b (kS e1.1):=hb1.ke λx ys q=>by rw[eL (fz q hp3 (λz=>nomatch z))];exact q
      refine⟨_,rfl,_,rfl,d,_,b,_,v1,rfl,rfl,hs4.dn,hb4,hs4.get nd he1 hv1,?_⟩
      refine⟨i,hi,e1,v1,rr ++ [k1],vs ++ [V.ref c],_,_,rfl,he1,hv1,S4,eG,?_,λk' hk'=>?_,by rw[ai,aE];omega,λr hr=>?_⟩
      ·rw[mY,ax]
       exact Dgs.append D3 (Dgs.one (zD (pN hp3 hc)))
      ·rcases az.mp hk' with z |z
       ·exact okr k' z
       ·have z:k'=k1:=by simpa using z
        rw[z];exact bk.ok n t' e1.1 k1 hn
      ·have:=PT (r ++ [k1]) (.mv (ay hn) hr)
       rw[cj,cQ,List.reverse_nil,dO]
       rw[bY]at this
       exact this
   ·obtain⟨t',o'⟩:=e
    cases o' with
    |some tk=>
     obtain⟨t1,mk⟩:=tk
     cases mk with
     |none=>
      obtain⟨a,b,rfl,_⟩:=sv3
      exact absurd rfl hb
     |some k1=>
      obtain⟨a,b,c,rfl,_⟩:=sv3
      exact absurd rfl hb
    |none=>
     refine⟨_,rfl,.inl ⟨rfl,_,SqL.of hp3⟩,p,_,rfl,rfl,hp3,?_⟩
     refine⟨_,rfl,k p rr.reverse _ (eQ.upd S3 np) np ⟨⟨_,eG,?_⟩,λk' hk'=>okr k' (by simpa using hk')⟩ ?_⟩
     ·rw[mY,cu]
      exact Dgs.rev D3
     ·have:=PT [] (.nil (ay hn))
      simpa using this
  ·rintro σ H Q Q' hq ⟨x,e1,c,e2,q⟩
   exact⟨x,e1,c,e2,hq _ _ q⟩
end
def dTu (t:List Int):PyData:=.tuple (t.map .int)
theorem BS (a b:List Int):PyData.eqv (dTu a) (dTu b)=decide (a=b):=by
 unfold dTu
 rw[PyData.eqv,sS]
theorem Fs (ss:List (List Int))(t:List Int):((ss.map dTu).any λz=>PyData.eqv z (dTu t))=decide (t∈ss):=by
 rw[List.any_map,bR,dN,b6]
 constructor
 ·rintro⟨y,hy,e⟩
  have e:PyData.eqv (dTu y) (dTu t)=true:=e
  rw[BS,b6]at e
  exact e ▸ hy
 ·exact λh=>⟨t,h,by show PyData.eqv (dTu t) (dTu t)=true;rw[BS];exact bA rfl⟩
theorem Bo (ns:List Int):OkD (dTu ns):=⟨by simp only[dTu,PyData.canLay0];exact g8 (λ_=>rfl) ns,by
 simp only[dTu,PyData.depth]
 have:=gO (f:=PyData.int) (k:=0) (λ_=>by simp[PyData.depth]) ns
 omega⟩
theorem CS (ss:List (List Int)):Ce (ss.map dTu):=by
 refine⟨g8 (λt=>(Bo t).1) ss,?_⟩
 have:=gO (f:=dTu) (k:=1) (λt=>by
  simp only[dTu,PyData.depth]
  have:=gO (f:=PyData.int) (k:=0) (λ_=>by simp[PyData.depth]) t
  omega) ss
 omega
theorem DW {K:PySem.W.Frag}{H:Hp}{b:Addr}{t:List Int}(h:H b=some (.tup (t.map V.int))):Da K H (dTu t) (.ref b):=by
 refine gT.mpr ⟨b,_,rfl,SqT.of h,?_⟩
 clear h
 induction t with
 |nil=>exact fQ.mpr rfl
 |cons x r ih=>exact fy.mpr ⟨_,_,rfl,gS.mpr rfl,ih⟩
structure yI (H:Hp)(p:Addr)(bs:List Addr)(ts:List (List Int)):Prop where
 at_:H p=some (.lst (bs.map V.ref))
 len:bs.length=ts.length
 each:∀ (i:Nat) b t,bs[i]? = some b->ts[i]? = some t->H b=some (.tup (t.map V.int))
theorem yI.same {H H':Hp}{p:Addr}{bs:List Addr}{ts:List (List Int)}(h:yI H p bs ts)(s:eQ H H'):yI H' p bs ts:=⟨s _ _ h.at_,h.len,λi b t h1 h2=>s _ _ (h.each i b t h1 h2)⟩
theorem vZ {K:PySem.W.Frag}{H:Hp} :∀ {bs:List Addr}{ts:List (List Int)},bs.length=ts.length->(∀ (i:Nat) b t,bs[i]? = some b->ts[i]? = some t->H b=some (.tup (t.map V.int)))->Das K H (ts.map dTu) (bs.map V.ref)
 |[],[],_,_=>fQ.mpr rfl
 |[],_::_,h,_=>by simp at h
 |_::_,[],h,_=>by simp at h
 |b::bs,t::ts,h,e=>fy.mpr ⟨_,_,rfl,DW (e 0 b t rfl rfl),vZ (by simpa using h) λi b' t' h1 h2=>e (i+1) b' t' (by simpa using h1) (by simpa using h2)⟩
theorem yI.da {K:PySem.W.Frag}{H:Hp}{p:Addr}{bs:List Addr}{ts:List (List Int)}(h:yI H p bs ts):Da K H (.list (ts.map dTu)) (.ref p):=gR.mpr ⟨p,_,rfl,SqL.of h.at_,vZ h.len h.each⟩
def tU (K:PySem.W.Frag):Sp:=λvs H Q _=>∃ (p:Addr) (bs:List Addr) (ts:List (List Int)),vs = [.ref p]/\yI H p bs ts/\ts.length<=5000000/\∀ q bs' H',lG H H' q bs' ts->Q (.ref q) H'
section
variable {P:Program}{w:World}{K:PySem.W.Frag}{mg:Str->Option Value}{base:Heap}{f:Addr}{fd:FuncData}
theorem vf (F:Fn K mg "lists_of" iS ["standings"] f fd)(B:Bm mg):eY P w K mg base CX0 1 f fd ["standings"] (tU K):=by
 refine F.F.ok qC (λvs H Q E h=>?_) (λcdv A outer s H vs Q E hr h=>?_)
 ·obtain⟨p,bs,ts,rfl,_⟩:=h;rfl
 ·obtain⟨p,bs0,ts,rfl,hT,hl,k⟩:=h
  refine⟨_,(eM (fj (mq (fF (pv 0)) rfl ka (.name (by decide)) (λ_ _ _ _=>(eU (i:=0) ka.nd rfl (Or.inl rfl))) (λ_ _ _ _=>g6) (λ_ _ _ _=>(fL (kb (K:=K) rfl) rfl B.list dE (eD (pv 0) eI)))))),?_⟩
  refine⟨_,rfl,p,rfl,⟨_,SqL.of hT.at_⟩,λq nq=>?_⟩
  refine vy ts.length (λi acc H'=>∃ bs:List Addr,acc=bs.map V.ref/\bs.length=i/\eQ H H'/\H' q=some (.lst acc)/\(∀ (j:Nat) b t,bs[j]? = some b->ts[j]? = some t->H b=none/\b≠q/\H' b=some (.lst (t.map V.int)))/\bs.Nodup)
   ⟨[],rfl,rfl,eE nq,eG,λj b t h=>by simp at h,by simp⟩ (λi acc H' hi ⟨_,_,_,sm,_⟩=>⟨_,(bs0.map V.ref)[i]'(by rw[aa,hT.len];exact hi),SqL.of (sm _ _ hT.at_),af _⟩) (λacc H' ⟨_,_,_,sm,_⟩=>⟨_,SqL.of (sm _ _ hT.at_),by rw[aa,hT.len];exact av _⟩) ?_ ?_
  ·rintro i x acc H4 H5 hi ⟨bs,rfl,bl,sm,hq,ea,nd⟩ ⟨e5,hx⟩
   subst e5
   have hx:=hx _ (SqL.of (sm _ _ hT.at_))
   obtain⟨t,ht⟩:∃ t,ts[i]? = some t:=⟨ts[i],af hi⟩
   obtain⟨b,hb0⟩:∃ b,bs0[i]? = some b:=⟨bs0[i]'(by rw[hT.len];exact hi),af _⟩
   have ex:x=V.ref b:=by rw[aq,hb0]at hx;simpa using hx.symm
   subst ex
   have hb:=sm _ _ (hT.each i b t hb0 ht)
   refine iV ?_
   refine⟨_,rfl,b,_,rfl,.inr (SqT.of hb),λnb nnb=>?_⟩
   have s6:=eE (o:=.lst (t.map V.int)) nnb
   have nbq:nb≠q:=bB (eN hq nnb)
   refine⟨s6 _ _ hq,jM (by rw[aa];omega),bs ++ [nb],by rw[ax];rfl,by rw[ai,bl];rfl,eQ.upd (sm.trans s6) nq,eG,λj c u hc hu=>?_,?_⟩
   ·by_cases hj:j<bs.length
    ·rw[aj hj]at hc
     obtain⟨z1,z2,z3⟩:=ea j c u hc hu
     exact⟨z1,z2,by rw[eL z2];exact s6 _ _ z3⟩
    ·have hj2:j=bs.length:=by
      have:=(ah.mp hc).1
      rw[ai,aE]at this
      omega
     rw[hj2,aw (av _),aV]at hc
     cases hc
     rw[hj2,bl,ht]at hu
     cases hu
     exact⟨eQ.free sm nnb,nbq,by rw[eL nbq];exact eG⟩
   ·rw[bN]
    refine⟨nd,by simp,λx hx y hy=>?_⟩
    have hy:y=nb:=by simpa using hy
    subst hy
    obtain⟨j,hj,e⟩:=aU.mp hx
    obtain⟨_,_,z3⟩:=ea j x (ts[j]'(by omega)) (by rw[af hj,e]) (af _)
    exact eN z3 nnb
  ·rintro acc H' ⟨bs,rfl,bl,sm,hq,ea,nd⟩
   exact k q bs _ ⟨sm,nq,hq,bl,ea,nd⟩
end
theorem CA {t u:TS}{D:Ends}{σ:St}{H:Hp}(J:St->Hp->Prop)(first:∀ nx:St->Hp->Prop,(∀ σ' H',J σ' H'->nx σ' H')->t {D with nx:=nx} σ H)(rest:∀ σ' H',J σ' H'->u D σ' H'):oE t u D σ H:=
 first (u D) rest
abbrev R3:=List Int×Nat×Nat
def tu (H0 H:Hp)(r:R3)(v:V):Prop:=∃ ad a,v = .ref ad/\H ad=some (.tup [.ref a,vI r.2.1,vI r.2.2])/\H a=some (.lst (r.1.map V.int))/\H0 a=none
theorem tu.mono {H0 H H':Hp}(r:R3)(v:V)(s:eQ H H')(h:tu H0 H r v):tu H0 H' r v:=h.imp λ_ h=>h.imp λ_ h=>⟨h.1,s _ _ h.2.1,s _ _ h.2.2.1,h.2.2.2⟩
structure qt (H0 H:Hp)(q:Addr)(rows:List R3)(vs:List V):Prop where
 at_:H q=some (.lst vs)
 new:H0 q=none
 pw:Pw (tu H0 (hid q H)) rows vs
theorem qt.same {H0 H H':Hp}{q:Addr}{rows:List R3}{vs:List V}(h:qt H0 H q rows vs)(s:eQ H H'):qt H0 H' q rows vs:=⟨s _ _ h.at_,h.new,h.pw.imp λr v=>tu.mono r v (nH s)⟩
def cn (l:Ln)(tr:List Int)(r:Nat)(t:List Int)(w:Str):Nat:=(cnt l tr r (t,w)).getD 0
def vX (l:Ln)(tr:List Int)(r:Nat)(ts:List (List Int)):List R3:=ts.map λt=>(t,cn l tr r t onW,cn l tr r t gQ)
def lX (l:Ln)(tr:List Int)(r:Nat)(gs:List Int):Str:=if cn l tr r gs onW<=cn l tr r gs gQ then onW else gQ
structure Fx (K:PySem.W.Frag)(c2 c5:Addr)(l:Ln)(ns gs:List Int)(H:Hp)(Q:VK)(E:XK):Prop where
 bad:¬gOk l ns gs->∀ H',eQ H H'->∀ e,H' e=none->E (.ref c2) (some e) H'
 many:gOk l ns gs->(∃ i,300<(eT l ns i).length)->∀ H',eQ H H'->∀ e,H' e=none->E (.ref c5) (some e) H'
 no:gOk l ns gs->∀ i,(eT l ns i).length=i->i<=300->gs∉(eT l ns i).map (·.1)->∀ r q bs H',lG H H' q bs ((eT l ns i).map (·.1))->H' r=some (.tup [.str "none",.ref q])->H r=none->Q (.ref r) H'
 yes:gOk l ns gs->∀ i,(eT l ns i).length=i->i<=300->gs∈(eT l ns i).map (·.1)->∀ r t q1 run q2 us H',(rnd l ns r).2 = []->eQ H H'->lP K H' q1 run->H q1=none->jJ (rnd l ns r).1 (gs,lX l ns r gs) run->qt H H' q2 (vX l ns r ((eT l ns i).map (·.1))) us->q1≠q2->H' t=some (.tup [.str "run",.ref q1,.ref q2])->H t=none->Q (.ref t) H'
def p8 (K:PySem.W.Frag)(c2 c5:Addr):Sp:=λvs H Q E=>∃ (v u g:V) (l:Ln) (ns gs:List Int),vs = [v,u,g]/\Da K H (dL l) v/\Da K H (dI ns) u/\Da K H (dI gs) g/\fb l/\ns≠ []/\ns.length<=900/\fT l ns/\gs.length<=900/\Fx K c2 c5 l ns gs H Q E
abbrev mf:Stmt:=top 31
theorem jO:fk ["line","train","goal","standings","aim","counts","steps","word","ways"] ["line","train","goal"] (eS mf):=⟨rfl,rfl,rfl,by decide +kernel,rfl,by decide +kernel,by decide +kernel⟩
theorem qH:fX (eS mf) ["line","train","goal","standings","aim","counts","steps","word","ways"] {kind:=.function,names:=[(Str.ofString ".0",.local),(Str.ofString "standing",.local),(Str.ofString "list",.globalImplicit),(Str.ofString "counts",.free)],isGenerator:=false,isCoroutine:=false,more:=[]} ["standing","counts"] 1 [none,some 5]:=⟨rfl,by decide +kernel,by decide +kernel,by decide +kernel,rfl,by decide +kernel,rfl,by decide +kernel⟩
section
variable {P:Program}{w:World}{K:PySem.W.Frag}{mg:Str->Option Value}{base:Heap}{f:Addr}{fd:FuncData}{c2 c5:Addr}
theorem Af {f1 f2 f3 f4 f5:Addr}{fd1 fd2 fd3 fd4 fd5:FuncData}(F:Fn K mg "fewest" mf ["line","train","goal"] f fd)(B:Bm mg)
  (gC:Fn K mg "check_goal" jF ["line","train","goal"] f1 fd1) (i8:eY P w K mg base (CXr P w base) 3 f1 fd1 ["line","train","goal"] (uL K c2))
  (fx:Fn K mg "first_steps" iI ["line","train"] f2 fd2) (gP:eY P w K mg base (CXr P w base) 4 f2 fd2 ["line","train"] (pq K c5))
  (fO:Fn K mg "lists_of" iS ["standings"] f3 fd3) (fG:Fn K mg "run_back_from" hX ["steps","goal"] f4 fd4) (kU:Fn K mg "counted" mh ["line","train"] f5 fd5) (qw:eY P w K mg base CX0 5 f5 fd5 ["line","train"] (rO P w K)):
  eY P w K mg base (CXr P w base) 6 f fd ["line","train","goal"] (p8 K c2 c5):=by
 have lD:eY P w K mg base CX0 1 f3 fd3 ["standings"] (tU K):=vf fO B
 have kr:eY P w K mg base CX0 1 f4 fd4 ["steps","goal"] (wu P w K):=pG fG
 refine F.F.okX jO (λvs H Q E h=>?_) (λcdv A outer s H vs Q E hr h=>?_)
 ·obtain⟨v,u,g,l,ns,gs,rfl,_⟩:=h;rfl
 ·obtain⟨v,u,g,l,ns,gs,rfl,hv,hu,hg,ok,hne,hz,T,gl,k⟩:=h
  obtain⟨b,rfl,hb⟩:=h9.mp hg
  refine⟨_,(eJ (gF (eO i8 (hr.mono (by decide)) rfl gC.m gC.F.kp gC.b .nil i6 (eD (pv 0) (eD (pv 1) (eD (pv 2) eI)))))
 (eJ (eW (i:=3) jO.nd rfl (Or.inl rfl) (fL (vO rfl) rfl B.list dE (eD (eO gP (hr.mono (by decide)) rfl fx.m fx.F.kp fx.b .nil i6 (eD (pv 0) (eD (pv 1) eI))) eI)))
 (eJ (eW (i:=4) jO.nd rfl (Or.inl rfl) (fL gy rfl B.tuple dA (eD (pv 2) eI)))
 (eJ (gA (gN (kO hr.units) (pv 4) (pv 3) (by with_unfolding_all rfl))
 (eM (fj (fC (eD fS (eD (eO lD (hr.mono (by decide)) rfl fO.m fO.F.kp fO.b .nil fg (eD (pv 3) eI)) eI))))) fu)
 (eJ (oV (eO qw (hr.mono (by decide)) rfl kU.m kU.F.kp kU.b .nil fg (eD (pv 0) (eD (pv 1) eI))) (g7 (n:=2) rfl (fc (eU (i:=5) jO.nd rfl (Or.inr rfl)) (fc (eU (i:=6) jO.nd rfl (Or.inl rfl)) gB))))
 (eJ (eW (i:=7) jO.nd rfl (Or.inl rfl) (wJ (fE (ze (pE (lp hr) (pv 5) (fC (eD (pv 4) (eD fS eI))) (λ_ _=>rfl)) (pE (lp hr) (pv 5) (fC (eD (pv 4) (eD fS eI))) (λ_ _=>rfl)))) fS fS))
 (eJ (r8 (i:=8) jO.nd rfl rfl (fF (pv 3)) rfl qH (.name (by decide)) (λ_ _ _ _=>(eU (i:=0) qH.nd rfl (Or.inl rfl))) (λ_ _ _ _=>g6) (λ_ _ _ _=>(fC (eD (fL (kb (K:=K) rfl) rfl B.list dE (eD (pv 0) eI)) (eD (wI (P:=P) (w:=w) rfl rfl (lp hr) (pv 1) (fC (eD (pv 0) (eD fS eI))) (λ_ _=>rfl)) (eD (wI (P:=P) (w:=w) rfl rfl (lp hr) (pv 1) (fC (eD (pv 0) (eD fS eI))) (λ_ _=>rfl)) eI))))))
 (eM (fj (fC (eD fS (eD (eO kr (hr.mono (by decide)) rfl fG.m fG.F.kp fG.b .nil fg (eD (pv 6) (eD (fC (eD (pv 4) (eD (pv 7) eI))) eI))) (eD (pv 8) eI))))))))))))),?_⟩
  refine⟨_,rfl,_,rfl,_,rfl,_,_,_,l,ns,gs,rfl,hv,hu,hg,ok,gl,λgo H1 s1=>?_,λgo H1 s1 e he=>k.bad go H1 s1 e he⟩
  refine⟨_,rfl,_,rfl,_,_,l,ns,rfl,Da.same s1 hv,Da.same s1 hu,ok,hne,hz,T,λi d us H2 hi yv s2 nd hs2=>?_,λz H2 s2 e he=>k.many go z H2 (s1.trans s2) e he⟩
  have E2:=iu ok T hne i
  have S2:=s1.trans s2
  have kl:(((eT l ns i).zip us).map λp=>(kyI p.1.1,p.2)).length=(eT l ns i).length:=by rw[aa,cf,hs2.len];omega
  refine⟨d,_,rfl,hs2.at_,λp bs np bl be=>?_⟩
  have TL2:yI (upd H2 p (.lst (bs.map V.ref))) p bs ((eT l ns i).map (·.1)):=by
   refine⟨eG,by rw[bl,kl,aa],λj c t hc ht=>eE np _ _ ?_⟩
   rw[aq]at ht
   cases q:(eT l ns i)[j]? with
   |none=>rw[q]at ht;cases ht
   |some e=>
    rw[q]at ht
    cases ht
    have hj:j<us.length:=by rw[hs2.len];exact(ah.mp q).1
    have hz':((eT l ns i).zip us)[j]? = some (e,us[j]):=cX.mpr ⟨q,af hj⟩
    have:=be j c (kyI e.1,us[j]) hc (by rw[aq,hz'];rfl)
    rwa [hV]at this
  have s3:=eE (o:=.lst (bs.map V.ref)) np
  have S3:=S2.trans s3
  generalize upd H2 p _=H3 at s3 S3 TL2 ⊢
  refine⟨_,rfl,b,_,rfl,.inl ⟨S3.seq hb,λt nt=>?_⟩⟩
  have s4:=eE (o:=.tup (gs.map V.int)) nt
  have ht:=eG (H:=H3) (a:=t) (o:=.tup (gs.map V.int))
  have TL4:=TL2.same s4
  have S4:=S3.trans s4
  generalize upd H3 t _=H4 at s4 ht TL4 S4 ⊢
  refine⟨_,rfl,_,rfl,_,dTu gs,TL4.da,DW ht,CS _,Bo _,_,rfl,?_⟩
  rw[Fs]
  refine fP (λhn=>?_) (λhn=>?_)
  ·have hn:gs∉(eT l ns i).map (·.1):=by simpa using hn
   refine⟨_,rfl,p,bs,_,rfl,TL4,by rw[aa];omega,λq bs' H5 FR=>⟨by show 2<=sizeLine;decide,λr nr=>?_⟩⟩
   have s5:=eE (o:=.tup [.str "none",.ref q]) nr
   exact k.no go i hi yv hn r q bs' _ (lG.post s5 (FR.pre S4)) eG (eQ.free (S4.trans FR.same) nr)
  ·have hn:gs∈(eT l ns i).map (·.1):=by simpa using hn
   refine⟨_,rfl,_,rfl,v,u,l,ns,i,rfl,Da.same S4 hv,Da.same S4 hu,ok,hne,hz,T,hi,yv,λr t5 cd sd kvs cs us5 H5 he s5 ht5 N5 D5 yw=>?_⟩
   refine⟨t5,_,rfl,SqT.of ht5,rfl,_,_,rfl,_,_,rfl,rfl,?_⟩
   obtain⟨_,htr,hsh⟩:=kd ok T hne hi
   have fN:∀ t∈(eT l ns i).map (·.1),∀ m∈mvs l t,m.2∈(eT l ns i).map (·.1):=λt ht=>(hsh t ht).2
   have full:=RC.full ok (RC.of fN htr (by rw[aa];omega) r) he i
   have BN:=gM.rnd fN htr r
   have RN:=RO.rnd fN htr r
   have rl:=RN.len
   have both:∀ t∈(eT l ns i).map (·.1),∀ wd,isW wd->(t,wd)∈sts (rnd l ns r)/\valN kvs (kS (t,wd))=some (vI (cn l ns r t wd)):=λt ht wd hw=>by
    obtain⟨e,he',rfl⟩:=ak.mp ht
    obtain⟨h1,h2⟩:=full e he' wd hw
    refine⟨h1,?_⟩
    rw[yw]
    unfold cn
    obtain⟨n,hn'⟩:=cC.mp h2
    rw[hn'];rfl
   have S5:=S4.trans s5
   have TL5:=TL4.same s5
   have C9:=s5 _ _ ht
   have Br:∀ {G:Hp}{c b:Addr}{t:List Int}{wd:Str},G c=some (.tup [.ref b,.str wd])->G b=some (.tup (t.map V.int))->i7 G c (kS (t,wd)):=λ{G c b t wd} h1 h2=>⟨b,h1,by rw[show(kS (t,wd)).1=kyI t from rfl,hV];exact h2⟩
   have hWd:isW (lX l ns r gs):=by
    unfold lX
    split
    ·exact .inl rfl
    ·exact .inr rfl
   dsimp only
   refine CA (λσ G=>σ = [some v,some u,some (.ref b),some (.ref p),some (.ref t),some (.ref cd),some (.ref sd),some (.str (lX l ns r gs)),none]/\eQ H5 G) (λnx hJ=>?_) (λσ' G hj=>?_)
   ·refine⟨_,rfl,_,rfl,by show 2<=sizeLine;decide,λc1 nc1=>?_⟩
    have z1:=eE (o:=.tup [.ref t,.str "on"]) nc1
    have y1:=eG (H:=H5) (a:=c1) (o:=.tup [.ref t,.str "on"])
    generalize upd H5 c1 _=G1 at z1 y1 ⊢
    refine⟨cd,kvs,c1,kS (gs,onW),_,rfl,rfl,D5.same z1,Br y1 (z1 _ _ C9),(both gs hn onW (.inl rfl)).2,?_⟩
    refine⟨_,rfl,_,rfl,by show 2<=sizeLine;decide,λc2' nc2=>?_⟩
    have z2:=z1.trans (eE (o:=.tup [.ref t,.str "back"]) nc2)
    have y2:=eG (H:=G1) (a:=c2') (o:=.tup [.ref t,.str "back"])
    generalize upd G1 c2' _=G2 at z2 y2 ⊢
    refine⟨cd,kvs,c2',kS (gs,gQ),_,rfl,rfl,D5.same z2,Br y2 (z2 _ _ C9),(both gs hn gQ (.inr rfl)).2,?_⟩
    refine⟨_,_,rfl,rfl,_,rfl,fP (λh=>?_) (λh=>?_)⟩
    ·have h:(cn l ns r gs onW:Int)<=(cn l ns r gs gQ:Int):=by simpa using h
     refine hJ _ _ ⟨?_,z2⟩
     unfold lX
     rw[aL (by omega)]
     rfl
    ·have h:¬(cn l ns r gs onW:Int)<=(cn l ns r gs gQ:Int):=by simpa using h
     refine hJ _ _ ⟨?_,z2⟩
     unfold lX
     rw[aH (by omega)]
     rfl
   ·obtain⟨rfl,z5⟩:=hj
    have TL6:=TL5.same z5
    have D6:=D5.same z5
    have N6:=N5.same z5
    have ht6:=z5 _ _ C9
    have S6:=S5.trans z5
    clear yw D5 N5 TL5 TL4 C9
    refine⟨_,rfl,p,rfl,⟨_,SqL.of TL6.at_⟩,λq nq=>?_⟩
    refine Bx ((eT l ns i).map (·.1)).length (vX l ns r ((eT l ns i).map (·.1))) (tu H) (λr v=>tu.mono r v) nq (by simp[vX]) (jM (by rw[aa];omega)) (λj G' sm hj=>⟨_,(bs.map V.ref)[j]'(by rw[aa,TL6.len];exact hj),SqL.of (sm _ _ TL6.at_),af _⟩) (λG' sm=>⟨_,SqL.of (sm _ _ TL6.at_),by rw[aa,TL6.len];exact av _⟩) ?_ ?_
    ·rintro j x rw3 G6 G7 sm ⟨acc,hq⟩ ⟨rfl,hx⟩ hr3 P1 P0 kk
     have hx:=hx _ (SqL.of (sm _ _ TL6.at_))
     unfold vX at hr3
     rw[aq]at hr3
     cases hts:((eT l ns i).map (·.1))[j]? with
     |none=>rw[hts]at hr3;cases hr3
     |some tt=>
      rw[hts]at hr3
      cases hr3
      have htm:=ay hts
      have hjb:j<bs.length:=by rw[TL6.len];exact(ah.mp hts).1
      have hb0:bs[j]? = some bs[j]:=af hjb
      generalize bs[j]=bb at hb0
      have ex:x=V.ref bb:=by rw[aq,hb0]at hx;simpa using hx.symm
      subst ex
      have hbb:=sm _ _ (TL6.each j bb tt hb0 hts)
      refine iV ?_
      refine⟨_,rfl,bb,_,rfl,.inr (SqT.of hbb),λnb nnb=>?_⟩
      have w1:=eE (o:=.lst (tt.map V.int)) nnb
      have hnb:=eG (H:=G7) (a:=nb) (o:=.lst (tt.map V.int))
      generalize upd G7 nb _=G8 at w1 hnb ⊢
      refine⟨_,rfl,_,rfl,by show 2<=sizeLine;decide,λc1 nc1=>?_⟩
      have w2:=w1.trans (eE (o:=.tup [.ref bb,.str "on"]) nc1)
      have y1:=eG (H:=G8) (a:=c1) (o:=.tup [.ref bb,.str "on"])
      have GI:=eE (o:=.tup [.ref bb,.str "on"]) nc1 _ _ hnb
      generalize upd G8 c1 _=G9 at w2 y1 GI ⊢
      refine⟨cd,kvs,c1,kS (tt,onW),_,rfl,rfl,D6.same (sm.trans w2),Br y1 (w2 _ _ hbb),(both tt htm onW (.inl rfl)).2,?_⟩
      refine⟨_,rfl,_,rfl,by show 2<=sizeLine;decide,λc2' nc2=>?_⟩
      have w3:=w2.trans (eE (o:=.tup [.ref bb,.str "back"]) nc2)
      have y2:=eG (H:=G9) (a:=c2') (o:=.tup [.ref bb,.str "back"])
      have GH:=eE (o:=.tup [.ref bb,.str "back"]) nc2 _ _ GI
      generalize upd G9 c2' _=G10 at w3 y2 GH ⊢
      refine⟨cd,kvs,c2',kS (tt,gQ),_,rfl,rfl,D6.same (sm.trans w3),Br y2 (w3 _ _ hbb),(both tt htm gQ (.inr rfl)).2,?_⟩
      refine⟨by show 3<=sizeLine;decide,λnt nnt=>kk _ _ (w3.trans (eE nnt)) ?_⟩
      have nbq:nb≠q:=(eN hq nnb).symm
      have ntq:nt≠q:=(eN (w3 _ _ hq) nnt).symm
      exact⟨nt,nb,rfl,by rw[fV ntq,eG],by rw[fV nbq];exact eE nnt _ _ GH,eQ.free (S6.trans sm) nnb⟩
    ·intro vs8 G8 sm h8 D8
     refine⟨_,rfl,_,rfl,_,rfl,by show 2<=sizeLine;decide,λc3 nc3=>?_⟩
     have w1:=eE (o:=.tup [.ref t,.str (lX l ns r gs)]) nc3
     have y3:=eG (H:=G8) (a:=c3) (o:=.tup [.ref t,.str (lX l ns r gs)])
     generalize upd G8 c3 _=G9 at w1 y3 ⊢
     have w2:=sm.trans w1
     refine⟨sd,c3,_,cs,us5,(gs,lX l ns r gs),rfl,N6.same w2,Br y3 (w2 _ _ ht6),(both gs hn _ hWd).1,BN,RN.nd,by rw[aa]at rl;omega,λq1 run G10 w3 nq1 ra pn=>⟨_,rfl,by show 3<=sizeLine;decide,λt9 nt9=>?_⟩⟩
     have w4:=eE (o:=.tup [.str "run",.ref q1,.ref q]) nt9
     have S8:=S6.trans w2
     have R8:qt H G9 q (vX l ns r ((eT l ns i).map (·.1))) vs8:=(qt.mk h8 (eQ.free S6 nq) D8).same w1
     have hqq:q1≠q:=bB (eN R8.at_ nq1)
     exact k.yes go i hi yv hn r t9 q1 run q vs8 _ he ((S8.trans w3).trans w4) (ra.same w4) (eQ.free S8 nq1) pn ((R8.same w3).same w4) hqq eG (eQ.free (S8.trans w3) nt9)
end
def oT (K:PySem.W.Frag):Sp:=λvs H Q _=>∃ (r:V) (run:List (Str×Int)),vs = [r]/\Da K H (dR run) r/\run.length<=100000/\∀ H',eQ H H'->Q (.int (chg (run.map (·.1)))) H'
theorem ones (xs:List Nat):(xs.map λ_=>V.int 1)=(List.replicate xs.length (1:Int)).map V.int:=by
 induction xs with
 |nil=>rfl
 |cons x r ih=>simp only[aQ,bc,ck];rw[ih]
theorem v3:∀ n,(List.replicate n (1:Int)).sum=n
 | 0=>rfl
 |n+1=>by rw[ck,List.sum_cons,v3 n];omega
abbrev jQ:Stmt:=top 34
theorem rT:fk ["run","words"] ["run"] (eS jQ):=⟨rfl,rfl,rfl,by decide +kernel,rfl,by decide +kernel,by decide +kernel⟩
theorem m9:fX (eS jQ) ["run","words"] {kind:=.function,names:=[(Str.ofString ".0",.local),(Str.ofString "word",.local),(Str.ofString "end",.local)],isGenerator:=false,isCoroutine:=false,more:=[]} ["word","end"] 2 [none,none]:=⟨rfl,by decide +kernel,by decide +kernel,by decide +kernel,rfl,by decide +kernel,rfl,by decide +kernel⟩
theorem m8:fX (eS jQ) ["run","words"] {kind:=.function,names:=[(Str.ofString ".0",.local),(Str.ofString "ahead",.local),(Str.ofString "behind",.local)],isGenerator:=false,isCoroutine:=false,more:=[]} ["ahead","behind"] 2 [none,none]:=⟨rfl,by decide +kernel,by decide +kernel,by decide +kernel,rfl,by decide +kernel,rfl,by decide +kernel⟩
section
variable {P:Program}{w:World}{K:PySem.W.Frag}{mg:Str->Option Value}{base:Heap}{f:Addr}{fd:FuncData}
theorem sx (F:Fn K mg "changes" jQ ["run"] f fd)(B:Bm mg):eY P w K mg base CX0 1 f fd ["run"] (oT K):=by
 refine F.F.ok rT (λvs H Q E h=>?_) (λcdv A outer s H vs Q E hr h=>?_)
 ·obtain⟨r,run,rfl,_⟩:=h;rfl
 ·obtain⟨r,run,rfl,hr0,hz,k⟩:=h
  obtain⟨ar,vr,rfl,har,hvr⟩:=gR.mp hr0
  have hlr:vr.length=run.length:=by have:=Dgs.length hvr;rw[aa]at this;exact this
  refine⟨_,(eJ (r8 (i:=1) rT.nd rfl rfl (fF (pv 0)) rfl m9 (.tup (.cons (.name (by decide)) (.cons (.name (by decide)) .nil))) (λ_ _ _ _=>(g7 (n:=2) rfl (fc (eU (i:=0) m9.nd rfl (Or.inl rfl)) (fc (eU (i:=1) m9.nd rfl (Or.inl rfl)) gB)))) (λ_ _ _ _=>g6) (λ_ _ _ _=>(pv 0)))
 (eM (fj (fm (B6 rfl) rfl B.sum boot_sum (eD (mq (A3 rfl B.zip (eD (pv 1) (eD (ji jY (pv 1) (jH eK) j7) eI))) rfl m8 (.tup (.cons (.name (by decide)) (.cons (.name (by decide)) .nil))) (λ_ _ _ _=>(g7 (n:=2) rfl (fc (eU (i:=0) m8.nd rfl (Or.inl rfl)) (fc (eU (i:=1) m8.nd rfl (Or.inl rfl)) gB)))) (λ_ _ _ _=>(lj (gN Be (pv 0) (pv 1) (jd _)))) (λ_ _ _ _=>eK)) eI))))),?_⟩
  refine⟨_,rfl,ar,rfl,⟨_,har⟩,λp np=>w5 (pL har) run (λ_=>true) (λk=>V.str k.1) np hlr (jM (by omega)) ?_ ?_⟩
  ·intro i x d H' hx hd sm P1 P0 p1 p0
   obtain⟨k',hk',dk⟩:=yF hvr hx
   rw[hd]at hk';cases hk'
   obtain⟨ad,rfl,ht⟩:=BY dk
   refine⟨ad,_,rfl,fv sm ht,rfl,_,_,rfl,_,_,rfl,rfl,?_⟩
   refine Ea ?_
   exact⟨_,rfl,p1 rfl⟩
  rw[jv]
  have e1:(run.map λk=>V.str k.1)=(run.map (·.1)).map V.str:=by rw[bx];rfl
  rw[e1]
  generalize hws:run.map (·.1)=ws at k ⊢
  have hwl:ws.length=run.length:=by rw[<-hws,aa]
  have s1:=eE (o:=.lst (ws.map V.str)) np
  have hp:=eG (H:=H) (a:=p) (o:=.lst (ws.map V.str))
  generalize upd H p _=H1 at s1 hp ⊢
  refine⟨_,rfl,_,rfl,_,rfl,p,_,rfl,SqL.of hp,λt nt=>?_⟩
  rw[xw _ (by decide)]
  have s2:=eE (o:=.lst ((ws.map V.str).drop (1:Int).toNat)) nt
  have ht:=eG (H:=H1) (a:=t) (o:=.lst ((ws.map V.str).drop (1:Int).toNat))
  have hp2:=s2 _ _ hp
  generalize upd H1 t _=H2 at s2 ht hp2 ⊢
  have gx:∀ i,i<ws.length-1->∃ x y,ws[i]? = some x/\ws[i+1]? = some y/\(ws.map V.str)[i]? = some (V.str x)/\((ws.map V.str).drop (1:Int).toNat)[i]? = some (V.str y):=λi hi=>by
   have h1:i<ws.length:=by omega
   have h2:i+1<ws.length:=by omega
   refine⟨ws[i],ws[i+1],by simp,by simp,by rw[aq,af h1];rfl,?_⟩
   rw[dh,show(1:Int).toNat+i=i+1 by have:(1:Int).toNat=1:=rfl;omega,aq,af h2];rfl
  refine⟨p,t,rfl,⟨_,SqL.of hp2⟩,⟨_,SqL.of ht⟩,λq nq=>C5 (ws.length-1) (List.range (ws.length-1)) (chp ws) (λ_=>V.int 1) nq (by simp) (jM (by omega)) (λi H sm hi=>?_) (λH sm=>?_) ?_ ?_⟩
  ·obtain⟨x,y,_,_,g1,g2⟩:=gx i hi
   exact⟨_,_,_,_,SqL.of (sm _ _ hp2),SqL.of (sm _ _ ht),g1,g2⟩
  ·refine⟨_,_,SqL.of (sm _ _ hp2),SqL.of (sm _ _ ht),.inr ?_⟩
   rw[bG,aa]
   exact av _
  ·intro i x d H H' sm y hd P1 P0 p1 p0
   have hdi:d=i/\i<ws.length-1:=by
    have h1:=ah.mp hd
    obtain⟨h2,h3⟩:=h1
    rw[List.getElem_range]at h3
    rw[List.length_range]at h2
    exact⟨h3.symm,h2⟩
   obtain⟨rfl,hi⟩:=hdi
   obtain⟨wx,wy,w1,w2,g1,g2⟩:=gx d hi
   obtain⟨pt,npt,rfl,e⟩:=y
   have e:=e _ _ _ _ (SqL.of (sm _ _ hp2)) (SqL.of (sm _ _ ht)) g1 g2
   subst e
   have st:=eE (o:=.tup [V.str wx,V.str wy]) npt
   refine⟨pt,_,rfl,SqT.of eG,rfl,_,_,rfl,_,_,rfl,rfl,?_⟩
   have hc:chp ws d = !decide (V.str wx=V.str wy):=by
    unfold chp
    rw[w1,w2]
    congr 1
    by_cases h:wx=wy
    ·subst h;simp
    ·have h2:¬V.str wx=V.str wy:=λz=>h (V.str.inj z)
     have h3:¬some wx=some wy:=λz=>h (aW z)
     rw[bq h2,bq h3]
   refine⟨_,rfl,_,rfl,rfl,_,rfl,fP (λh=>?_) (λh=>?_)⟩
   ·exact p1 _ (hc.trans h) st
   ·exact p0 _ (hc.trans (by simpa using h)) st
  ·intro H3 s3 hq
   rw[ones]at hq
   refine⟨q,_,rfl,SqL.of hq,?_⟩
   rw[v3]
   exact k H3 (s1.trans (s2.trans s3))
end
def wg (K:PySem.W.Frag):Sp:=λvs H Q _=>∃ (v:V) (l:Int×List (Int×Int)) (c n:Int),vs = [v,.int c,.int n]/\Da K H (dL l) v/\fb l/\0<=n/\n<=40/\
 ∀ (p:Addr) (ns:List Int) (H':Hp),eQ H H'->H p=none->H' p=some (.lst (ns.map V.int))->ns≠ []->ns.length<=40->(ns.length:Int)<=max 1 n->fT l ns->Q (.ref p) H'
abbrev jo:Stmt:=top 47
theorem jA:fk ["_law_line_here","_law_cell","_law_length","_law_train_here","_law_k","_law_pieces","_law_some"] ["_law_line_here","_law_cell","_law_length"] (eS jo):=⟨rfl,rfl,rfl,by decide +kernel,rfl,by decide +kernel,by decide +kernel⟩
theorem nL:fX (eS jo) ["_law_line_here","_law_cell","_law_length","_law_train_here","_law_k","_law_pieces","_law_some"] {kind:=.function,names:=[(Str.ofString ".0",.local),(Str.ofString "_law_end",.local)],isGenerator:=false,isCoroutine:=false,more:=[]} ["_law_end"] 1 [none]:=⟨rfl,by decide +kernel,by decide +kernel,by decide +kernel,rfl,by decide +kernel,rfl,by decide +kernel⟩
theorem nK:fX (eS jo) ["_law_line_here","_law_cell","_law_length","_law_train_here","_law_k","_law_pieces","_law_some"] {kind:=.function,names:=[(Str.ofString ".0",.local),(Str.ofString "_law_end",.local),(Str.ofString "_law_pieces",.free)],isGenerator:=false,isCoroutine:=false,more:=[]} ["_law_end","_law_pieces"] 1 [none,some 5]:=⟨rfl,by decide +kernel,by decide +kernel,by decide +kernel,rfl,by decide +kernel,rfl,by decide +kernel⟩
section
variable {P:Program}{w:World}{K:PySem.W.Frag}{mg:Str->Option Value}{base:Heap}{f:Addr}{fd:FuncData}{D c1 c2 c3 c4 c5 c6 c7:Addr}
theorem vh {f1 f2 f3:Addr}{fd1 fd2 fd3:FuncData}(F:Fn K mg "_law_train" jo ["_law_line_here","_law_cell","_law_length"] f fd)(eR:Fn K mg "_law_mix" jq ["_law_cell","_law_k"] f1 fd1)(fe:Fn K mg "_law_other" iT ["_law_end"] f2 fd2)
  (fK:Fn K mg "_law_joined" iz ["_law_line_here","_law_end"] f3 fd3) (B:Bl mg):eY P w K mg base CX0 2 f fd ["_law_line_here","_law_cell","_law_length"] (wg K):=by
 have fM:eY P w K mg base CX0 1 f1 fd1 ["_law_cell","_law_k"] pZ:=ll eR B
 have ia:eY P w K mg base CX0 1 f2 fd2 ["_law_end"] jf:=kE fe
 have kG:eY P w K mg base CX0 1 f3 fd3 ["_law_line_here","_law_end"] (kJ K):=oM fK B
 refine F.F.ok jA (λvs H Q E h=>?_) (λcdv A outer s H vs Q E hr h=>?_)
 ·obtain⟨v,l,c,n,rfl,_⟩:=h;rfl
 ·obtain⟨v,l,c,n,rfl,hv,ok,h1,h40,k⟩:=h
  obtain⟨a,b,rfl,ht,us,hl,hq⟩:=j9 hv
  have o1:=ok.one
  refine⟨_,(eJ (eW (i:=3) jA.nd rfl (Or.inl rfl) (gj (eD (eX gE (eO fM (hr.mono (by decide)) rfl eR.m eR.F.kp eR.b .nil fg (eD (pv 1) (eD eK eI))) (eX iL eK (fh fJ (pv 0) eK (λ_ _=>rfl)))) eI)))
 (eJ (gU aX rfl (Ac rfl B.range (eD eK (eD (pv 2) eI))) (eU (i:=4) jA.nd rfl (Or.inl rfl))
 (eJ (eW (i:=5) jA.nd rfl (Or.inr rfl) (mq (fF (pv 3)) rfl nL (.name (by decide)) (λ_ _ _ _=>(eU (i:=0) nL.nd rfl (Or.inl rfl))) (λ_ _ _ _=>g6) (λ_ _ _ _=>(eX hE (pv 0) eK))))
 (eJ (r8 (i:=6) jA.nd rfl rfl (fF (eO kG (hr.mono (by decide)) rfl fK.m fK.F.kp fK.b .nil fg (eD (pv 0) (eD (eO ia (hr.mono (by decide)) rfl fe.m fe.F.kp fe.b .nil fg (eD (fh fo (pv 3) (nA kX eK) (λ_ _=>rfl)) eI)) eI)))) rfl nK (.name (by decide)) (λ_ _ _ _=>(eU (i:=0) nK.nd rfl (Or.inl rfl))) (λ_ _ _ _=>(lj (gN (sk (K:=K) rfl hr.units) (eX hE (pv 0) eK) (pv 1) (by with_unfolding_all rfl)))) (λ_ _ _ _=>(pv 0)))
 (eJ (gA (gN (ve hr.units) (pv 6) (gj eI) (jd _))
 (eM (fj (pv 3))) fu)
 (eM (gF (ki aM aT aS gD (pv 3) (eD (fh fo (pv 6) (eX gE (eO fM (hr.mono (by decide)) rfl eR.m eR.F.kp eR.b .nil fg (eD (pv 1) (eD (pv 4) eI))) (fm fq rfl B.len b5 (eD (pv 6) eI))) (λ_ _=>rfl)) eI))))))))
 (eM (fj (pv 3))))),?_⟩
  refine⟨_,rfl,c,0,rfl,by decide,by decide,λm m0 m1=>⟨_,rfl,a,_,_,_,rfl,rfl,ht,rfl,_,_,rfl,rfl,.inl ⟨by decide,by decide⟩,_,_,rfl,rfl,(by show(0:Int)<2*l.1;omega),by show 1<=sizeLine;decide,λt nt=>?_⟩⟩
  have e0:0<=m%(2*l.1):=bQ _ (by omega)
  have e1:m%(2*l.1)<2*l.1:=bK _ (by omega)
  refine⟨_,rfl,1,n,rfl,⟨by decide,by decide,by omega,by omega⟩,ox (λi σ H3=>∃ (ns:List Int) (x4 x5 x6:Option V),σ = [some (.ref a),some (.int c),some (.int n),some (.ref t),x4,x5,x6]/\eQ H H3/\H3 t=some (.lst (ns.map V.int))/\ns≠ []/\ns.length=i+1/\fT l ns)
   ⟨[m%(2*l.1)],none,none,none,rfl,eE nt,eG,by simp,rfl,⟨λe he=>(by rw[bh.mp he];exact⟨e0,e1⟩),by simp,λi x y hx hy=>by simp at hy⟩⟩ ?_ ?_⟩
  ·rintro i σ H3 hi ⟨ns,x4,x5,x6,rfl,S3,ht3,hne,nl,T⟩
   have hi':i+1<=39:=by
    have h:i<(n-1).toNat:=hi
    omega
   refine⟨_,rfl,t,rfl,⟨_,SqL.of ht3⟩,λpc npc=>jj ns (λ_=>true) (λe=>V.int (e/2)) npc (SqL.of ht3) (by rw[aa]) (by rw[aa];exact iN (by omega)) ?_ ?_⟩
   ·intro j x d H' hx hd sm P1 P0 k1 k0
    rw[aq,hd]at hx
    cases hx
    refine iV ?_
    exact⟨_,rfl,_,_,rfl,rfl,⟨by decide,by decide⟩,k1 rfl⟩
   rw[jv]
   have e1:(ns.map λe=>V.int (e/2))=(ns.map (· / 2)).map V.int:=by rw[bx];rfl
   rw[e1]
   have s4:eQ H3 (upd H3 pc (.lst ((ns.map (· / 2)).map V.int))):=eE npc
   refine⟨_,rfl,_,rfl,_,rfl,t,_,_,_,rfl,rfl,SqL.of (s4 _ _ ht3),rk hne,_,rfl,_,l,_,rfl,Da.same (S3.trans s4) hv,ok,λp H5 s5 hp hp2=>⟨p,rfl,⟨_,SqL.of hp2⟩,λq nq=>jj (jn l.2 (oth (ns.getLastD 0))) (λt=> !decide (t/2∈ns.map (· / 2))) (λt=>V.int t) nq (SqL.of hp2) (by rw[aa]) ?_ ?_ ?_⟩⟩
   ·rw[aa]
    refine iN ?_
    unfold jn
    rw[mR,ai]
    have:=oB ok (oth (ns.getLastD 0))
    omega
   ·intro j x d H' hx hd sm P1 P0 k1 k0
    rw[aq,hd]at hx
    cases hx
    have hD:Da K H' (.list ((ns.map (· / 2)).map .int)) (.ref pc):=Da.same (s5.trans sm) (fD eG)
    refine⟨_,rfl,_,_,rfl,rfl,⟨by decide,by decide⟩,_,rfl,_,.int (d/2),hD,gS.mpr rfl,sy _,pI _,_,rfl,?_⟩
    rw[xM]
    exact fP (λh=>⟨_,rfl,k1 h⟩) (λh=>k0 (by simpa using h))
   have efr:((jn l.2 (oth (ns.getLastD 0))).filter λt=> !decide (t/2∈ns.map (· / 2)))=fr l ns (oth (ns.getLastD 0)):=rfl
   rw[efr]
   have S6:eQ H3 (upd H5 q (.lst ((fr l ns (oth (ns.getLastD 0))).map V.int))):=(s4.trans s5).trans (eE nq)
   refine⟨_,rfl,aO _,λe ne=>?_⟩
   have s7:=eE (o:=.lst []) ne
   have hq7:=s7 _ _ (eG (H:=H5) (a:=q) (o:=.lst ((fr l ns (oth (ns.getLastD 0))).map V.int)))
   refine⟨dI (fr l ns (oth (ns.getLastD 0))),.list [],fD hq7,fD (ns:=[]) eG,iE _,CU,_,rfl,?_⟩
   have ee:PyData.eqv (dI (fr l ns (oth (ns.getLastD 0)))) (.list [])=((fr l ns (oth (ns.getLastD 0))).map PyData.int).isEmpty:=vE _
   rw[ee]
   refine fP (λ_=>?_) (λhem=>?_)
   ·exact⟨_,rfl,k t ns _ (S3.trans (S6.trans s7)) nt (s7 _ _ (S6 _ _ ht3)) hne (by omega) (by have h:i<(n-1).toNat:=hi;omega) T⟩
   ·have GF:0<(fr l ns (oth (ns.getLastD 0))).length:=by
     cases hh:fr l ns (oth (ns.getLastD 0))with
     |nil=>rw[hh]at hem;exact absurd rfl hem
     |cons x r=>simp
    refine⟨_,rfl,.inl ⟨rfl,_,SqL.of (s7 _ _ (S6 _ _ ht3))⟩,_,rfl,_,rfl,_,rfl,c,_,rfl,by show(0:Int)<=1+(i:Int);omega,by show 1+(i:Int)<=1000;omega,λm m0 m1=>?_⟩
    have r0:0<=m%((fr l ns (oth (ns.getLastD 0))).length:Int):=bQ _ (by omega)
    have r1:m%((fr l ns (oth (ns.getLastD 0))).length:Int)<((fr l ns (oth (ns.getLastD 0))).length:Int):=bK _ (by omega)
    obtain⟨x,_,BH,hat⟩:=qr r0 r1
    refine⟨_,rfl,q,_,rfl,.inl (SqL.of hq7),_,_,rfl,rfl,?_,q,_,_,V.int x,rfl,rfl,SqL.of hq7,?_,t,_,_,rfl,rfl,s7 _ _ (S6 _ _ ht3),?_,?_⟩
    ·show(0:Int)<(((fr l ns (oth (ns.getLastD 0))).map V.int).length:Int)
     rw[aa];omega
    ·show atI _ (m%(((fr l ns (oth (ns.getLastD 0))).map V.int).length:Int))=_
     rw[aa];exact hat
    ·rw[aa];exact iN (by omega)
    refine⟨ns ++ [x],_,_,_,rfl,eQ.upd (S3.trans (S6.trans s7)) nt,?_,by simp,by rw[ai,nl];rfl,T.snoc ok hne BH⟩
    rw[eG,ax];rfl
  rintro σ H3 ⟨ns,x4,x5,x6,rfl,S3,ht3,hne,nl,T⟩
  refine⟨_,rfl,k t ns _ S3 nt ht3 hne ?_ (by rw[nl];omega) T⟩
  have h:ns.length=(n-1).toNat+1:=nl
  omega
end
structure qR (H:Hp)(d:Addr)(es:List Ent):Prop where
 at_:H d=some (.dT (kvR (fi es)))
theorem qR.same {H H':Hp}{d:Addr}{es:List Ent}(h:qR H d es)(s:eQ H H'):qR H' d es:=⟨s _ _ h.at_⟩
theorem qR.mem {H:Hp}{d:Addr}{es:List Ent}(h:qR H d es)(t:List Int):(ky (kvR (fi es)) (kyI t)).isSome=decide (t∈es.map (·.1)):=by
 rw[rd,<-gG]
 cases q:gv (fi es) t with
 |none=>rw[bq (sD q)];rfl
 |some n=>rw[bA (ak.mpr ⟨_,iX q,rfl⟩)];rfl
theorem qR.val {H:Hp}{d:Addr}{es:List Ent}(h:qR H d es){t:List Int}(ht:t∈es.map (·.1)):∃ n,gv (fi es) t=some n/\ky (kvR (fi es)) (kyI t)=some (.int n):=by
 obtain⟨n,hn⟩:=pK (rows:=fi es) (t:=t) (by rw[gG];exact ht)
 exact⟨n,hn,by rw[rd,hn];rfl⟩
theorem Aa {H:Hp}{d p b:Addr}{es:List Ent}{as:List Addr}{t t':List Int}{k:Str×Int}{n:Int}(hs:qR H d es)(ho:qu H p as es)(hb:H b=some (.lst (t'.map V.int)))(bp:b≠p)(hn:t'∉es.map (·.1))(LC:n=qi (fi es) (t',some (t,k))):
  qR (upd (upd H d (.dT (putK (kvR (fi es)) (kyI t') (.int n)))) p (.lst (as.map V.ref ++ [V.ref b]))) d (es ++ [(t',some (t,k))])/\
  qu (upd (upd H d (.dT (putK (kvR (fi es)) (kyI t') (.int n)))) p (.lst (as.map V.ref ++ [V.ref b]))) p (as ++ [b]) (es ++ [(t',some (t,k))]):=by
 have hd:=hs.at_
 have hp:=ho.at_
 have dp:d≠p:=fz hd hp (by intro z;cases z)
 have hv:ky (kvR (fi es)) (kyI t')=none:=by
  have:=hs.mem t'
  rw[bq hn]at this
  exact Option.isNone_iff_eq_none.mp (by rw[<-Option.not_isSome,this];rfl)
 have e1:putK (kvR (fi es)) (kyI t') (.int n)=kvR (fi (es ++ [(t',some (t,k))])):=by
  rw[rY _ hv,jR,LC]
  unfold kvR
  rw[ax];rfl
 have hl:∀ c xs,c≠p->H c=some (.lst xs)->upd (upd H d (.dT (putK (kvR (fi es)) (kyI t') (.int n)))) p (.lst (as.map V.ref ++ [V.ref b])) c=some (.lst xs):=λc xs cp q=>by
  rw[eL cp,eL (fz q hd (by intro z;cases z))];exact q
 refine⟨⟨by rw[eL dp,eG,e1]⟩,⟨by rw[eG,ax];rfl,by rw[ai,ai,ho.len];rfl,λi c e hc he=>?_⟩⟩
 by_cases hi:i<es.length
 ·rw[aj hi]at he
  rw[aj (by rw[ho.len];exact hi)]at hc
  obtain⟨z1,z2⟩:=ho.each i c e hc he
  exact⟨z1,hl c _ z1 z2⟩
 ·have hi2:i=es.length:=by
   have:=(ah.mp he).1
   rw[ai,aE]at this
   omega
  rw[hi2,aw (av _),aV]at he
  rw[hi2,<-ho.len,aw (av _),aV]at hc
  cases he
  cases hc
  exact⟨bp,hl b _ bp hb⟩
def AR (K:PySem.W.Frag):Sp:=λvs H Q _=>∃ (v:V) (u:Addr) (l:Ln) (ns:List Int),vs = [v,.ref u]/\Da K H (dL l) v/\H u=some (.lst (ns.map V.int))/\fb l/\ns≠ []/\ns.length<=6/\fT l ns/\
 ∀ i t p d as H',(eT l ns i).length=i->eQ H H'->H' t=some (.tup [.ref p,.ref d])->qu H' p as (eT l ns i)->qR H' d (eT l ns i)->Q (.ref t) H'
def NI (σ:L2.St)(_:Hp):Nat:=match (σ[4]? :Option (Option V))with
 |some (some (V.int i))=>(4096001-i).toNat
 |_=>0
abbrev og:Stmt:=top 49
theorem jk:fk ["_law_line_here","_law_train_here","_law_order","_law_numbers","_law_at","_law_move","_law_behind"] ["_law_line_here","_law_train_here"] (eS og):=⟨rfl,rfl,rfl,by decide +kernel,rfl,by decide +kernel,by decide +kernel⟩
section
variable {P:Program}{w:World}{K:PySem.W.Frag}{mg:Str->Option Value}{base:Heap}{f:Addr}{fd:FuncData}
theorem yj {f1:Addr}{fd1:FuncData}(F:Fn K mg "_law_web" og ["_law_line_here","_law_train_here"] f fd)(B:Bm mg)(jz:Fn K mg "_law_moves" kf ["_law_line_here","_law_train_here"] f1 fd1)
  (nV:eY P w K mg base CX0 2 f1 fd1 ["_law_line_here","_law_train_here"] (md K)):eY P w K mg base CX0 3 f fd ["_law_line_here","_law_train_here"] (AR K):=by
 refine F.F.ok jk (λvs H Q E h=>?_) (λcdv A outer s H vs Q E hr h=>?_)
 ·obtain⟨v,u,l,ns,rfl,_⟩:=h;rfl
 ·obtain⟨v,u,l,ns,rfl,hv,hu,ok,hne,hz,T,k⟩:=h
  refine⟨_,(eJ (eW (i:=2) jk.nd rfl (Or.inl rfl) (gj (eD (pv 1) eI)))
 (eJ (eW (i:=3) jk.nd rfl (Or.inl rfl) (wK (my hr) (fL gy rfl B.tuple dA (eD (pv 1) eI)) eK))
 (eJ (eW (i:=4) jk.nd rfl (Or.inl rfl) eK)
 (eJ (mj aX (fE (sf (pv 4) (fm fq rfl B.len b5 (eD (pv 2) eI))))
 (eJ (gU aX rfl (fF (eO nV (hr.mono (by decide)) rfl jz.m jz.F.kp jz.b .nil fg (eD (pv 0) (eD (fh fo (pv 2) (pv 4) (λ_ _=>rfl)) eI)))) (g7 (n:=2) rfl (fc (eU (i:=5) jk.nd rfl (Or.inl rfl)) (fc (eU (i:=6) jk.nd rfl (Or.inl rfl)) gB)))
 (eM (gA (fE (qg (my hr) (fL gy rfl B.tuple dA (eD (pv 6) eI)) (pv 3)))
 (eJ (uZ (my hr) (pv 3) (fL gy rfl B.tuple dA (eD (pv 6) eI)) (eX gH (qW (my hr) (pv 3) (fL gy rfl B.tuple dA (eD (fh fo (pv 2) (pv 4) (λ_ _=>rfl)) eI)) (λ_ _=>rfl)) eK) rfl)
 (eM (gF (ki aM aT aS gD (pv 2) (eD (pv 6) eI))))) fu)))
 (eM (eW (i:=4) jk.nd rfl (Or.inl rfl) (eX gH (pv 4) eK)))))
 (eM (fj (fC (eD (pv 2) (eD (pv 3) eI))))))))),?_⟩
  refine⟨_,rfl,by show 1<=sizeLine;decide,λp np=>?_⟩
  have s1:=eE (o:=.lst [V.ref u]) np
  have hp1:=eG (H:=H) (a:=p) (o:=.lst [V.ref u])
  have hu1:=s1 _ _ hu
  have up:u≠p:=eN hu np
  generalize upd H p _=H1 at s1 hp1 hu1 ⊢
  refine λd nd=>⟨_,rfl,u,_,rfl,.inl ⟨SqL.of (eE nd _ _ hu1),λt0 nt0=>?_⟩⟩
  have nd0:=eQ.free s1 nd
  have s2:=eE (o:=.dT []) nd
  have s3:=eE (o:=.tup (ns.map V.int)) nt0
  refine⟨_,_,t0,kyI ns,rfl,rfl,by rw[hV];exact eG,s3 _ _ eG,?_⟩
  have hp3:=s3 _ _ (s2 _ _ hp1)
  have hu3:=s3 _ _ (s2 _ _ hu1)
  have S3:=s1.trans (s2.trans s3)
  have dp:p≠d:=eN hp1 nd
  have du:u≠d:=eN hu1 nd
  have S4:eQ H (upd (upd (upd H1 d (.dT [])) t0 (.tup (ns.map V.int))) d (.dT [(kyI ns,V.int 0)])):=eQ.upd S3 nd0
  have hp4:(upd (upd (upd H1 d (.dT [])) t0 (.tup (ns.map V.int))) d (.dT [(kyI ns,V.int 0)])) p=some (.lst [V.ref u]):=by rw[eL dp];exact hp3
  have hu4:(upd (upd (upd H1 d (.dT [])) t0 (.tup (ns.map V.int))) d (.dT [(kyI ns,V.int 0)])) u=some (.lst (ns.map V.int)):=by rw[eL du];exact hu3
  have hd4:=eG (H:=upd (upd H1 d (.dT [])) t0 (.tup (ns.map V.int))) (a:=d) (o:=.dT [(kyI ns,V.int 0)])
  generalize upd (upd (upd H1 d (.dT [])) t0 (.tup (ns.map V.int))) d (.dT [(kyI ns,V.int 0)])=H4 at S4 hp4 hu4 hd4 ⊢
  refine nW (λσ H4=>∃ (i:Nat) (as:List Addr) (x5 x6:Option V),σ = [some v,some (.ref u),some (.ref p),some (.ref d),some (.int i),x5,x6]/\eQ H H4/\qR H4 d (eT l ns i)/\qu H4 p as (eT l ns i)/\i<=(eT l ns i).length)
   NI ⟨0,[u],none,none,rfl,S4,⟨hd4⟩,⟨hp4,rfl,λi b e hb he=>?_⟩,aO _⟩ ?_ ?_
  ·match i,hb,he with
   | 0,hb,he=>cases hb;cases he;exact⟨up,hu4⟩
  ·rintro σ H4 N1 R1 B1 kN1 _ kB1 ⟨i,as,x5,x6,rfl,S4,hs4,ho4,hi⟩
   have E4:=iu ok T hne i
   have b4:=E4.len ok hz
   refine⟨_,rfl,_,rfl,p,_,rfl,.inl (SqL.of ho4.at_),_,_,rfl,rfl,_,rfl,fP (λhlt=>?_) (λhlt=>?_)⟩
   ·have hlt:(i:Int)<((as.map V.ref).length:Int):=by simpa using hlt
    rw[aa,ho4.len]at hlt
    have hi2:i<(eT l ns i).length:=by omega
    have he:(eT l ns i)[i]? = some ((eT l ns i)[i]):=by simp
    generalize (eT l ns i)[i]=e at he
    obtain⟨b,hb,bp,hbt⟩:=ho4.get he
    obtain⟨T1,T2,T3⟩:=E4.tr e (ay he)
    have em:e.1∈(eT l ns i).map (·.1):=ak.mpr ⟨e,ay he,rfl⟩
    refine⟨_,rfl,_,rfl,_,rfl,p,_,_,_,rfl,rfl,SqL.of ho4.at_,qq (v:=V.ref b) (by omega) (by rw[aq,show((i:Int)).toNat=i by omega,hb];rfl),_,_,l,e.1,rfl,Da.same S4 hv,fD hbt,ok,T3,by omega,λpm vm H6 s6 hpm xh Dm=>?_⟩
    have S6:=S4.trans s6
    have hs6:=hs4.same s6
    have ho6:=ho4.same s6
    have Bw:(mvs l e.1).length=vm.length:=by have:=Dm.length;rw[aa]at this;exact this.symm
    have pmp:pm≠p:=bB (eN ho4.at_ hpm)
    have pmd:pm≠d:=bB (eN hs4.at_ hpm)
    have b7:∀ j,(fR e.1 ((mvs l e.1).take j) (eT l ns i)).length<=4096000:=λj=>by
     have h1:=(nv (t:=e.1) (mvs l e.1) (eT l ns i) j).length_le
     rw[<-lY he]at h1
     have h2:=(iu ok T hne (i+1)).len ok hz
     omega
    refine⟨pm,rfl,⟨_,SqL.of xh⟩,ik (K:=K) (a:=pm) (xs:=vm) (λj σ H7=>∃ (as':List Addr) (x5 x6:Option V),σ = [some v,some (.ref u),some (.ref p),some (.ref d),some (.int i),x5,x6]/\
      eQ H H7/\eQ (xj d p H6) H7/\qR H7 d (fR e.1 ((mvs l e.1).take j) (eT l ns i))/\qu H7 p as' (fR e.1 ((mvs l e.1).take j) (eT l ns i)))
     ⟨as,x5,x6,rfl,S6,λb u h=>iF (p:=d) b u (iF (p:=p) b u h),hs6,ho6⟩ (λj σ H7 _ ⟨_,_,_,_,_,sm,_⟩=>SqL.of (sm _ _ (by rw[lM pmd pmp];exact xh))) ?_ ?_⟩
    ·rintro j y σ H7 N R B kN _ hj ⟨as',y5,y6,rfl,S7,sm,hs7,ho7⟩
     obtain⟨m,ad,p1,bb,hm,rfl,ht,dm,hbb,nbb,_⟩:=zi Dm hj
     have bbp:bb≠p:=bB (eN ho4.at_ nbb)
     have bbd:bb≠d:=bB (eN hs4.at_ nbb)
     have ht7:=fv sm (sL hs6.at_ ho6.at_ ht)
     have Au:H7 bb=some (.lst (m.2.map V.int)):=sm _ _ (by rw[lM bbd bbp];exact hbb)
     have b7j:=b7 j
     refine⟨ad,_,rfl,ht7,rfl,_,_,rfl,_,_,rfl,rfl,?_⟩
     refine⟨_,rfl,bb,_,rfl,.inl ⟨SqL.of Au,λst nst=>?_⟩⟩
     have s8:=eE (o:=.tup (m.2.map V.int)) nst
     have hst:=eG (H:=H7) (a:=st) (o:=.tup (m.2.map V.int))
     have hs8:=hs7.same s8
     have ho8:=ho7.same s8
     have S8:=S7.trans s8
     have sm8:=sm.trans s8
     have GQ:=s8 _ _ Au
     generalize upd H7 st _=H8 at s8 hst hs8 ho8 S8 sm8 GQ ⊢
     refine⟨_,rfl,d,_,rfl,pT.t (k:=kyI m.2) hs8.at_ (by rw[hV];exact hst),_,rfl,?_⟩
     rw[hs8.mem m.2]
     have nu:fR e.1 ((mvs l e.1).take (j+1)) (eT l ns i)=lU e.1 (fR e.1 ((mvs l e.1).take j) (eT l ns i)) m:=rP hm
     have pre:eT l ns i <+:fR e.1 ((mvs l e.1).take j) (eT l ns i):=nZ _ _ _
     refine fP (λhn=>?_) (λhn=>?_)
     ·have hn:m.2∉(fR e.1 ((mvs l e.1).take j) (eT l ns i)).map (·.1):=by simpa using hn
      have l0:fR e.1 ((mvs l e.1).take (j+1)) (eT l ns i)=fR e.1 ((mvs l e.1).take j) (eT l ns i) ++ [(m.2,some (e.1,m.1))]:=by
       rw[nu];unfold lU;rw[aH hn]
      have he7:(fR e.1 ((mvs l e.1).take j) (eT l ns i))[i]? = some e:=by
       obtain⟨r,hr⟩:=pre
       rw[<-hr,aj hi2];exact he
      have em7:e.1∈(fR e.1 ((mvs l e.1).take j) (eT l ns i)).map (·.1):=ak.mpr ⟨e,ay he7,rfl⟩
      generalize fR e.1 ((mvs l e.1).take j) (eT l ns i)=es at *
      obtain⟨b2,g1,g2,g3⟩:=ho8.get he7
      refine⟨_,rfl,_,rfl,_,rfl,p,_,_,_,rfl,rfl,SqL.of ho8.at_,qq (v:=V.ref b2) (by omega) (by rw[aq,show((i:Int)).toNat=i by omega,g1];rfl),b2,_,rfl,.inl ⟨SqL.of g3,λst2 KG=>?_⟩⟩
      have s9:=eE (o:=.tup (e.1.map V.int)) KG
      have GD:=eG (H:=H8) (a:=st2) (o:=.tup (e.1.map V.int))
      have hs9:=hs8.same s9
      have ho9:=ho8.same s9
      have S9:=S8.trans s9
      have sm9:=sm8.trans s9
      have Fh:=s9 _ _ GQ
      generalize upd H8 st2 _=H9 at s9 GD hs9 ho9 S9 sm9 Fh ⊢
      obtain⟨n,hl9,hn9⟩:=hs9.val em7
      refine⟨d,.int n,rfl,by rw[<-hn9];exact pT.t (k:=kyI e.1) hs9.at_ (by rw[hV];exact GD),_,_,rfl,rfl,_,rfl,_,rfl,bb,_,rfl,.inl ⟨SqL.of Fh,λst3 KD=>?_⟩⟩
      have s10:=eE (o:=.tup (m.2.map V.int)) KD
      have GC:=eG (H:=H9) (a:=st3) (o:=.tup (m.2.map V.int))
      have Dd:=hs9.same s10
      have BF:=ho9.same s10
      have S10:=S9.trans s10
      have FX:=sm9.trans s10
      have DQ:=s10 _ _ Fh
      generalize upd H9 st3 _=H10 at s10 GC Dd BF S10 FX DQ ⊢
      have dl:(kvR (fi es)).length<=4096000:=by unfold kvR;rw[aa,i4];omega
      refine⟨d,_,rfl,yL.t (k:=kyI m.2) Dd.at_ (by rw[hV];exact GC) (jM (by omega)),?_⟩
      obtain⟨q1,q2⟩:=Aa (t:=e.1) (k:=m.1) (n:=n+1) Dd BF DQ bbp hn (by show n+1=(gv (fi es) e.1).getD 0+1;rw[hl9];rfl)
      have pd:p≠d:=fz BF.at_ Dd.at_ (by intro z;cases z)
      have GG:upd H10 d (.dT (putK (kvR (fi es)) (kyI m.2) (.int (n+1)))) p=some (.lst (as'.map V.ref)):=by rw[eL pd];exact BF.at_
      refine⟨_,rfl,.inl ⟨rfl,_,SqL.of GG⟩,_,rfl,p,_,_,rfl,rfl,GG,jM (by rw[aa,BF.len];omega),?_⟩
      exact kN _ _ ⟨as' ++ [bb],_,_,rfl,eQ.upd (eQ.upd S10 nd0) np,sJ FX,by rw[l0];exact q1,by rw[l0];exact q2⟩
     ·have hn:m.2∈(fR e.1 ((mvs l e.1).take j) (eT l ns i)).map (·.1):=by simpa using hn
      have qA:fR e.1 ((mvs l e.1).take (j+1)) (eT l ns i)=fR e.1 ((mvs l e.1).take j) (eT l ns i):=by
       rw[nu];unfold lU;rw[aL hn]
      exact kN _ _ ⟨as',_,_,rfl,S8,sm8,by rw[qA];exact hs8,by rw[qA];exact ho8⟩
    ·rintro σ H7 ⟨as',y5,y6,rfl,S7,sm,hs7,ho7⟩
     rw[<-Bw,bo,<-lY he]at hs7 ho7
     have xg:=(nX l ns i).length_le
     refine⟨_,rfl,_,_,rfl,rfl,kN1 _ _ ⟨i+1,as',_,_,rfl,S7,hs7,ho7,by omega⟩ ?_⟩
     show(4096001-((i:Int)+1)).toNat<(4096001-(i:Int)).toNat
     omega
   ·have hlt:¬(i:Int)<((as.map V.ref).length:Int):=by simpa using hlt
    rw[aa,ho4.len]at hlt
    have e1:(eT l ns i).length=i:=by omega
    refine kB1 _ _ ⟨_,rfl,_,rfl,by show 2<=sizeLine;decide,λt nt=>?_⟩
    exact k i t p d as _ e1 (S4.trans (eE nt)) eG (ho4.same (eE nt)) (hs4.same (eE nt))
  ·rintro σ H Q Q' hq ⟨x,e1,y,e2,p',ys,e3,h4,i',j',e5,e6,c,e7,q⟩
   exact⟨x,e1,y,e2,p',ys,e3,h4,i',j',e5,e6,c,e7,hq _ _ q⟩
end
structure Xm (K:PySem.W.Frag)(mg:Str->Option Value)(c3:Addr):Prop where
 Cg:Xc K mg "NoMove" c3
def yX (K:PySem.W.Frag)(C:Addr):Sp:=λvs H Q E=>∃ (v u m:V) (l:Int×List (Int×Int)) (ns:List Int) (k:Str×Int),vs = [v,u,m]/\Da K H (dL l) v/\Da K H (dI ns) u/\Da K H (dM k) m/\PyData.strOk k.1=true/\fb l/\ns≠ []/\ns.length<=900/\
 (∀ b,fnd (mvs l ns) k=some b->rq H b Q)/\(fnd (mvs l ns) k=none->∀ H',eQ H H'->∀ e,H' e=none->E (.ref C) (some e) H')
def tS (K:PySem.W.Frag)(C:Addr):Sp:=λvs H Q E=>∃ (v u r:V) (l:Ln) (ns:List Int) (run:List (Str×Int)),vs = [v,u,r]/\Da K H (dL l) v/\Da K H (dI ns) u/\Da K H (dR run) r/\(∀ k∈run,PyData.strOk k.1=true)/\fb l/\ns≠ []/\ns.length<=900/\run.length<=100000/\
 (∀ ts,wkl l ns run=some ts->Cd ns run.length ts->∀ p bs H',lG H H' p bs ts->Q (.ref p) H')/\(wkl l ns run=none->∀ H',eQ H H'->∀ e,H' e=none->E (.ref C) (some e) H')
theorem w6 {bs:List Addr}{ts:List (List Int)}(hl:bs.length=ts.length)(hne:ts≠ []):∃ b,bs[bs.length-1]? = some b/\ts[bs.length-1]? = some (ts.getLastD [])/\atI (bs.map V.ref) (-1)=some (V.ref b):=by
 have h1:1<=ts.length:=by cases ts with |nil=>exact absurd rfl hne |cons x r=>simp
 have h2:bs.length-1<bs.length:=by omega
 refine⟨bs[bs.length-1],af h2,?_,?_⟩
 ·rw[bf,cy,hl,af (by omega)];rfl
 ·exact Dx (by rw[aa,aq,af h2];rfl)
abbrev uT:Stmt:=top 16
theorem uR:fk ["line","train","move","own","behind"] ["line","train","move"] (eS uT):=⟨rfl,rfl,rfl,by decide +kernel,rfl,by decide +kernel,by decide +kernel⟩
abbrev pB:Stmt:=top 33
theorem p9:fk ["line","train","run","trains","move"] ["line","train","run"] (eS pB):=⟨rfl,rfl,rfl,by decide +kernel,rfl,by decide +kernel,by decide +kernel⟩
section
variable {P:Program}{w:World}{K:PySem.W.Frag}{mg:Str->Option Value}{base:Heap}{f:Addr}{fd:FuncData}{c3:Addr}
theorem CQ {f1:Addr}{fd1:FuncData}(F:Fn K mg "done" uT ["line","train","move"] f fd)(XS:Xm K mg c3)(fW:Fn K mg "moves_of" jP ["line","train"] f1 fd1)
  (iB:eY P w K mg base CX0 3 f1 fd1 ["line","train"] (md K)):eY P w K mg base (CXr P w base) 4 f fd ["line","train","move"] (yX K c3):=by
 refine F.F.okX uR (λvs H Q E h=>?_) (λcdv A outer s H vs Q E hr h=>?_)
 ·obtain⟨v,u,m,l,ns,k,rfl,_⟩:=h;rfl
 ·obtain⟨v,u,m,l,ns,k,rfl,hv,hu,hm,hk,ok,hne,hz,k1,k2⟩:=h
  refine⟨_,(eJ (gU cW rfl (fF (eO iB (hr.mono (by decide)) rfl fW.m fW.F.kp fW.b .nil fg (eD (pv 0) (eD (pv 1) eI)))) (g7 (n:=2) rfl (fc (eU (i:=3) uR.nd rfl (Or.inl rfl)) (fc (eU (i:=4) uR.nd rfl (Or.inl rfl)) gB)))
 (eM (gA (gN (ve hr.units) (pv 3) (pv 2) (jd _))
 (eM (fj (pv 4))) fu)))
 (eM (kh jt rfl rfl XS.Cg.m XS.Cg.q bC (eD fS eI)))),?_⟩
  refine⟨_,rfl,_,rfl,v,u,l,ns,rfl,hv,hu,ok,hne,hz,λp vs H1 s1 hp hp1 D1=>?_⟩
  refine⟨p,rfl,⟨_,SqL.of hp1⟩,nI (K:=K) (a:=p) (xs:=vs) (λi σ H3=>∃ (x3 x4:Option V),σ = [some v,some u,some m,x3,x4]/\H3=H1/\∀ j,j<i->∀ n,(mvs l ns)[j]? = some n->n.1≠k)
   ⟨none,none,rfl,rfl,λj hj=>absurd hj (df j)⟩ (λi σ H3 _ ⟨_,_,_,e,_⟩=>e ▸ SqL.of hp1) ?_ ?_⟩
  ·rintro i y σ H3 hi ⟨x3,x4,rfl,rfl,no⟩
   obtain⟨n,ad,p1,b,hn,rfl,ht,dm,hb,nb,_⟩:=zi D1 hi
   refine⟨ad,_,rfl,ht,rfl,_,_,rfl,_,_,rfl,rfl,?_⟩
   refine⟨_,rfl,_,rfl,dM n.1,dM k,dm,Da.same s1 hm,DO (tR l ns n (ay hn)),DO hk,_,rfl,?_⟩
   rw[G0]
   refine fP (λe=>?_) (λe=>?_)
   ·have e:n.1=k:=by simpa using e
    exact⟨_,rfl,k1 _ (Dn hn e no) b H3 s1 nb hb⟩
   ·have e:n.1≠k:=by simpa using e
    refine⟨_,_,rfl,rfl,λj hj n' hn'=>?_⟩
    rcases cD.mp hj with z |z
    ·exact no j z n' hn'
    ·subst z;rw[hn]at hn';cases hn';exact e
  ·rintro σ H3 ⟨x3,x4,rfl,rfl,no⟩
   have hlen:(mvs l ns).length=vs.length:=by have:=D1.length;rw[aa]at this;exact this.symm
   refine⟨by decide,λe he=>k2 (BR λj hj=>no j (by omega)) H3 s1 e he⟩
theorem Ad {f1:Addr}{fd1:FuncData}(F:Fn K mg "walked" pB ["line","train","run"] f fd)(B:Bm mg)(qz:Fn K mg "done" uT ["line","train","move"] f1 fd1)
  (yK:eY P w K mg base (CXr P w base) 4 f1 fd1 ["line","train","move"] (yX K c3)):eY P w K mg base (CXr P w base) 5 f fd ["line","train","run"] (tS K c3):=by
 refine F.F.okX p9 (λvs H Q E h=>?_) (λcdv A outer s H vs Q E hr h=>?_)
 ·obtain⟨v,u,r,l,ns,run,rfl,_⟩:=h;rfl
 ·obtain⟨v,u,r,l,ns,run,rfl,hv,hu,hr0,hk,ok,hne,hz,hzr,k1,k2⟩:=h
  obtain⟨a,rfl,ha⟩:=h9.mp hu
  obtain⟨ar,vr,rfl,har,hvr⟩:=gR.mp hr0
  have hlr:vr.length=run.length:=by have:=Dgs.length hvr;rw[aa]at this;exact this
  refine⟨_,(eJ (eW (i:=3) p9.nd rfl (Or.inl rfl) (gj (eD (fL iA rfl B.list dE (eD (pv 1) eI)) eI)))
 (eJ (gU cW rfl (fF (pv 2)) (eU (i:=4) p9.nd rfl (Or.inl rfl))
 (eM (gF (ki aM aT aS gD (pv 3) (eD (eO yK (hr.mono (by decide)) rfl qz.m qz.F.kp qz.b .nil i6 (eD (pv 0) (eD (fh fo (pv 3) (nA kX eK) (λ_ _=>rfl)) (eD (pv 4) eI)))) eI)))))
 (eM (fj (pv 3))))),?_⟩
  refine⟨_,rfl,a,_,rfl,.inl ha,λb0 nb0=>⟨by show 1<=sizeLine;decide,λp np=>?_⟩⟩
  have s1:=eE (o:=.lst (ns.map V.int)) nb0
  have s2:=eE (o:=.lst [V.ref b0]) np
  have hb0:=s2 _ _ (eG (H:=H) (a:=b0) (o:=.lst (ns.map V.int)))
  have hp:=eG (H:=upd H b0 (.lst (ns.map V.int))) (a:=p) (o:=.lst [V.ref b0])
  have np0:H p=none:=eQ.free s1 np
  have hbp:b0≠p:=eN (eG (H:=H) (a:=b0) (o:=.lst (ns.map V.int))) np
  have s12:=s1.trans s2
  clear s1 s2
  generalize upd (upd H b0 _) p _=H1 at s12 hb0 hp ⊢
  refine⟨_,rfl,ar,rfl,⟨_,s12.seq har⟩,nI (K:=K) (a:=ar) (xs:=vr) (λi σ H3=>∃ (x4:Option V) (ts:List (List Int)) (bs:List Addr),σ = [some v,some (.ref a),some (.ref ar),some (.ref p),x4]/\wkl l ns (run.take i)=some ts/\Cd ns i ts/\lG H H3 p bs ts)
   ⟨none,[ns],[b0],rfl,rfl,⟨rfl,λt ht=>by have e:t=ns:=(by simpa using ht);rw[e];exact⟨hne,rfl⟩⟩,⟨s12,np0,hp,rfl,λi b t hb ht=>?_,by simp⟩⟩ (λi σ H3 _ ⟨_,_,_,_,_,_,F⟩=>F.same.seq har) ?_ ?_⟩
  ·match i,hb,ht with
   | 0,hb,ht=>cases hb;cases ht;exact⟨nb0,hbp,hb0⟩
  ·rintro i y σ H3 hi ⟨x4,ts,bs,rfl,hw,wo,FR⟩
   obtain⟨k,hki,dk⟩:=yF hvr hi
   have tne:ts≠ []:=λe=>by have:=wo.len;rw[e]at this;simp at this
   obtain⟨bl,g1,g2,g3⟩:=w6 FR.len tne
   obtain⟨e1,e2,e3⟩:=FR.each _ _ _ g1 g2
   obtain⟨t1,t2⟩:=wo.each _ (ay g2)
   have hil:i<run.length:=by have:=(ah.mp hi).1;omega
   refine⟨_,rfl,.inl ⟨rfl,_,SqL.of FR.at_⟩,_,rfl,_,rfl,_,rfl,p,_,_,_,rfl,rfl,SqL.of FR.at_,g3,_,rfl,_,_,_,l,_,k,rfl,Da.same FR.same hv,fD e3,Da.same FR.same dk,hk k (ay hki),ok,t1,by omega,λb hb=>?_,λhno H4 s4 e he=>?_⟩
   ·intro q H4 s4 nq hq
    have hp4:=s4 _ _ FR.at_
    refine⟨p,_,_,rfl,rfl,hp4,?_,?_⟩
    ·rw[aa,FR.len,wo.len]
     show i+1<16777216
     omega
    ·have qp:q≠p:=bB (eN FR.at_ nq)
     refine⟨_,ts ++ [b],bs ++ [q],rfl,by rw[vV hki,hw];show(fnd _ _).map _=_;rw[hb];rfl,wo.snoc hb,⟨eQ.upd (FR.same.trans s4) np0,np0,?_,by rw[ai,ai,FR.len];rfl,λj c t hc ht=>?_,?_⟩⟩
     ·rw[eG,ax];rfl
     ·by_cases hj:j<bs.length
      ·rw[aj hj]at hc
       rw[aj (by rw[<-FR.len];exact hj)]at ht
       obtain⟨z1,z2,z3⟩:=FR.each j c t hc ht
       exact⟨z1,z2,by rw[eL z2];exact s4 _ _ z3⟩
      ·have hj2:j=bs.length:=by
        have:=(ah.mp hc).1
        rw[ai,aE]at this
        omega
       rw[hj2,aw (av _),aV]at hc
       rw[hj2,FR.len,aw (av _),aV]at ht
       cases hc
       cases ht
       exact⟨eQ.free FR.same nq,qp,by rw[eL qp];exact hq⟩
     ·rw[bN]
      refine⟨FR.nd,by simp,λx hx y hy=>?_⟩
      have hy:y=q:=by simpa using hy
      subst hy
      obtain⟨j,hj,e⟩:=aU.mp hx
      obtain⟨_,_,z3⟩:=FR.each j x (ts[j]'(by rw[<-FR.len];exact hj)) (by rw[af hj,e]) (af _)
      exact eN z3 nq
   ·refine k2 (AD (i:=i+1) ?_) H4 (FR.same.trans s4) e he
    rw[vV hki,hw]
    show(fnd _ _).map _=_
    rw[hno];rfl
  rintro σ H3 ⟨x4,ts,bs,rfl,hw,wo,FR⟩
  rw[hlr,bo]at hw
  rw[hlr]at wo
  exact⟨_,rfl,k1 ts hw wo p bs H3 FR⟩
end
structure Xp (K:PySem.W.Frag)(mg:Str->Option Value)(c:Addr):Prop where
 zK:Xc K mg "NoPiece" c
theorem BC {n:Nat}{k:Int}(h0:0<=k)(h1:k<n):ixN n k=some k.toNat:=by
 unfold ixN
 rw[aL h0,aL h1]
def Hn (l:Ln)(H:Hp)(bs:List Addr):Prop:=∀ b∈bs,∃ t:List Int,H b=some (.lst (t.map V.int))/\t≠ []/\∀ e∈t,0<=e/\e<2*l.1
def yT (K:PySem.W.Frag):Sp:=λvs H Q _=>∃ (v:V) (p:Addr) (l:Ln) (bs:List Addr),vs = [v,.ref p]/\Da K H (dL l) v/\fb l/\H p=some (.lst (bs.map V.ref))/\Hn l H bs/\∀ v H',eQ H H'->Q v H'
def we (K:PySem.W.Frag)(c2 c5:Addr):Sp:=λvs H Q E=>∃ (v u:V) (l:Ln) (ns:List Int),vs = [v,u]/\Da K H (dL l) v/\Da K H (dI ns) u/\fb l/\ns≠ []/\ns.length<=900/\fT l ns/\xN K c2 c5 l ns (ns.reverse.map oth) H Q E
theorem xN.pre {K:PySem.W.Frag}{c2 c5:Addr}{l:Ln}{ns gs:List Int}{H H2:Hp}{Q:VK}{E:XK}(s2:eQ H H2)(k:xN K c2 c5 l ns gs H Q E):xN K c2 c5 l ns gs H2 Q E:=
 ⟨λz H' s=>k.bad z H' (s2.trans s),λz i H' s=>k.many z i H' (s2.trans s),λg i hi h3 hn r q bs H' F hr nr=>k.no g i hi h3 hn r q bs H' (F.pre s2) hr (eQ.free s2 nr),
  λg i hi h3 hn r q1 run q2 us H' s R n1 PT RN hne hr nr=>k.yes g i hi h3 hn r q1 run q2 us H' (s2.trans s) R (eQ.free s2 n1) PT (RN.pre s2) hne hr (eQ.free s2 nr)⟩
theorem CL {es:List Ent}(nd:(es.map (·.1)).Nodup)(bk:mP es){t:List Int}{run:List (Str×Int)}(h:lC es t run):∀ (j:Nat) e,es[j]? = some e->e.1=t->run.length<=j:=by
 induction h with
 |nil _=>exact λj e _ _=>aO _
 |@snoc t' t k r hm _ ih=>
  intro j e he ee
  have:=Dr nd (ay he) hm ee
  subst this
  obtain⟨i,e1,hi,he1,e2⟩:=bk.back j t' t k he
  have:=ih i e1 he1 e2
  rw[ai,aE]
  omega
structure Fv (K:PySem.W.Frag)(l:Ln)(n:Int)(H:Hp)(Q:VK):Prop where
 yes:∀ r q run H',eQ H H'->H' r=some (.tup [.str "run",.ref q])->lP K H' q run->(∃ ws,Go l [2*n] ws [oth (2*n)]/\ws.length=run.length)->(∀ ws,Go l [2*n] ws [oth (2*n)]->run.length<=ws.length)->run.length<=300->Q (.ref r) H'
 no:(¬∃ ws,Go l [2*n] ws [oth (2*n)])->∀ r x H',eQ H H'->H' r=some (.tup [.str "marking",x])->Q (.ref r) H'
def tT (K:PySem.W.Frag):Sp:=λvs H Q _=>∃ (v:V) (l:Ln) (n:Int),vs = [v,.int n]/\Da K H (dL l) v/\fb l/\0<=n/\n<l.1/\Fv K l n H Q
def yY (K:PySem.W.Frag):Sp:=λvs H Q _=>∃ (v u:V) (l:Ln) (ns:List Int),vs = [v,u]/\Da K H (dL l) v/\Da K H (dI ns) u/\fb l/\ns≠ []/\ns.length<=900/\fT l ns/\(∀ i,(eT l ns i).length<=300)/\
 ∀ i q bs H',(eT l ns i).length=i->lG H H' q bs ((eT l ns i).map (·.1))->Q (.ref q) H'
abbrev kB:Stmt:=top 36
theorem j4:fk ["line","standings","marking","standing","end"] ["line","standings"] (eS kB):=⟨rfl,rfl,rfl,by decide +kernel,rfl,by decide +kernel,by decide +kernel⟩
abbrev uS:Stmt:=top 38
theorem CB:fk ["line","train"] ["line","train"] (eS uS):=⟨rfl,rfl,rfl,by decide +kernel,rfl,by decide +kernel,by decide +kernel⟩
abbrev qU:Stmt:=top 37
theorem wz:fk ["line","piece","told"] ["line","piece"] (eS qU):=⟨rfl,rfl,rfl,by decide +kernel,rfl,by decide +kernel,by decide +kernel⟩
abbrev om:Stmt:=top 22
theorem xY:fk ["line","train"] ["line","train"] (eS om):=⟨rfl,rfl,rfl,by decide +kernel,rfl,by decide +kernel,by decide +kernel⟩
section
variable {P:Program}{w:World}{K:PySem.W.Frag}{mg:Str->Option Value}{base:Heap}{f:Addr}{fd:FuncData}{c2 c4 c5:Addr}
theorem tI {f1:Addr}{fd1:FuncData}(F:Fn K mg "marking_by" kB ["line","standings"] f fd)(B:Bm mg)(eZ:Fn K mg "other_end" hZ ["end"] f1 fd1):eY P w K mg base CX0 2 f fd ["line","standings"] (yT K):=by
 have ir:eY P w K mg base CX0 1 f1 fd1 ["end"] jf:=kD eZ
 refine F.F.ok j4 (λvs H Q E h=>?_) (λcdv A outer s H vs Q E hr h=>?_)
 ·obtain⟨v,p,l,bs,rfl,_⟩:=h;rfl
 ·obtain⟨v,p,l,bs,rfl,hv,ok,hp,hh,k⟩:=h
  obtain⟨al,bl,rfl,hlt,us,hll,hlq⟩:=j9 hv
  refine⟨_,(eJ (eW (i:=2) j4.nd rfl (Or.inl rfl) (eX EB (gj (eD eK (eD eK eI))) (fh fJ (pv 0) eK (λ_ _=>rfl))))
 (eJ (gU aX rfl (fF (pv 1)) (eU (i:=3) j4.nd rfl (Or.inl rfl))
 (eJ (eW (i:=4) j4.nd rfl (Or.inl rfl) (fh fo (pv 3) eK (λ_ _=>rfl)))
 (eJ (oV eK (A5 (pv 2) (pv 4) set_list))
 (eM (oV eK (A5 (pv 2) (eO ir (hr.mono (by decide)) rfl eZ.m eZ.F.kp eZ.b .nil fg (eD (pv 4) eI)) set_list))))))
 (eM (fj (pv 2))))),?_⟩
  have l1:=ok.one
  have l40:=ok.most
  refine⟨by show 2<=sizeLine;decide,λt nt=>?_⟩
  have s1:=eE (o:=.lst [V.int 0,V.int 1]) nt
  have ht:=eG (H:=H) (a:=t) (o:=.lst [V.int 0,V.int 1])
  generalize upd H t _=H1 at s1 ht ⊢
  refine⟨_,rfl,al,_,_,_,rfl,rfl,fv s1 hlt,rfl,t,l.1,_,rfl,rfl,ht,by omega,by omega,bz (m:=80) (by show 2*l.1.toNat<=80;omega) (by decide),λq nq=>?_⟩
  have nq0:=eQ.free s1 nq
  have s2:=s1.trans (eE (o:=.lst (List.replicate l.1.toNat [V.int 0,V.int 1]).flatten) nq)
  have hq:=eG (H:=H1) (a:=q) (o:=.lst (List.replicate l.1.toNat [V.int 0,V.int 1]).flatten)
  have ql:(List.replicate l.1.toNat [V.int 0,V.int 1]).flatten.length=2*l.1.toNat:=by rw[len_rep];show l.1.toNat*2=_;omega
  generalize (List.replicate l.1.toNat [V.int 0,V.int 1]).flatten=xs at s2 hq ql ⊢
  generalize upd H1 q _=H2 at s2 hq ⊢
  refine⟨_,rfl,p,rfl,⟨_,SqL.of (s2 _ _ hp)⟩,ik (K:=K) (a:=p) (xs:=bs.map V.ref) (λi σ H3=>∃ (xs:List V) (x3 x4:Option V),σ = [some (.ref al),some (.ref p),some (.ref q),x3,x4]/\eQ H H3/\H3 q=some (.lst xs)/\xs.length=2*l.1.toNat)
   ⟨xs,none,none,rfl,s2,hq,ql⟩ (λi σ H3 _ ⟨_,_,_,_,S3,_⟩=>SqL.of (S3 _ _ hp)) ?_ ?_⟩
  ·rintro i y σ H3 N R B' kN _ hi ⟨xs,x3,x4,rfl,S3,hq3,ql3⟩
   rw[aq]at hi
   obtain⟨b,hb,rfl⟩:∃ b,bs[i]? = some b/\y = .ref b:=by
    cases q:bs[i]? with
    |none=>rw[q]at hi;cases hi
    |some e=>rw[q]at hi;cases hi;exact⟨e,rfl,rfl⟩
   obtain⟨tt,h1,h2,h3⟩:=hh b (ay hb)
   obtain⟨e,rt,rfl⟩:∃ e rt,tt=e::rt:=by cases tt with |nil=>exact absurd rfl h2 |cons e rt=>exact⟨e,rt,rfl⟩
   have he:=h3 e (by simp)
   have ho:0<=oth e/\oth e<2*l.1:=by unfold oth;omega
   refine⟨_,rfl,b,_,_,_,rfl,rfl,SqL.of (S3 _ _ h1),qq (v:=V.int e) (by decide) rfl,?_⟩
   refine⟨_,rfl,_,rfl,q,xs,e,_,rfl,rfl,hq3,BC he.1 (by omega),?_⟩
   refine⟨_,rfl,_,rfl,e,rfl,q,_,_,_,rfl,rfl,eG,BC ho.1 (by rw[dQ];omega),?_⟩
   exact kN _ _ ⟨_,_,_,rfl,eQ.upd (eQ.upd S3 nq0) nq0,eG,by rw[dQ,dQ];exact ql3⟩
  ·rintro σ H3 ⟨xs,x3,x4,rfl,S3,_⟩
   exact⟨_,rfl,k _ _ S3⟩
theorem Bg {f1 f2 f3:Addr}{fd1 fd2 fd3:FuncData}(F:Fn K mg "turn" uS ["line","train"] f fd)(B:Bm mg)
  (ig:Fn K mg "least" oe ["line","train","goal"] f1 fd1) (kF:eY P w K mg base (CXr P w base) 5 f1 fd1 ["line","train","goal"] (pz K c2 c5))
  (g9:Fn K mg "turned" me ["train"] f2 fd2) (eZ:Fn K mg "other_end" hZ ["end"] f3 fd3):eY P w K mg base (CXr P w base) 6 f fd ["line","train"] (we K c2 c5):=by
 have mI:eY P w K mg base CX0 2 f2 fd2 ["train"] (rM K):=um g9 B.toBl eZ
 refine F.F.okX CB (λvs H Q E h=>?_) (λcdv A outer s H vs Q E hr h=>?_)
 ·obtain⟨v,u,l,ns,rfl,_⟩:=h;rfl
 ·obtain⟨v,u,l,ns,rfl,hv,hu,ok,hne,Di,T,k⟩:=h
  refine⟨_,(eM (fj (eO kF (hr.mono (by decide)) rfl ig.m ig.F.kp ig.b .nil i6 (eD (pv 0) (eD (pv 1) (eD (eO mI (hr.mono (by decide)) rfl g9.m g9.F.kp g9.b .nil fg (eD (pv 1) eI)) eI)))))),?_⟩
  refine⟨_,rfl,_,rfl,_,rfl,_,ns,rfl,hu,by omega,λr H2 s2 nr hr2=>?_⟩
  exact⟨_,_,_,l,ns,_,rfl,Da.same s2 hv,Da.same s2 hu,fD hr2,ok,hne,Di,T,by rw[aa,bu];exact Di,k.pre s2⟩
theorem yn {f1 f2:Addr}{fd1 fd2:FuncData}(F:Fn K mg "come_to" om ["line","train"] f fd)(B:Bm mg)(fx:Fn K mg "first_steps" iI ["line","train"] f1 fd1)(gP:eY P w K mg base (CXr P w base) 4 f1 fd1 ["line","train"] (pq K c5))
  (fO:Fn K mg "lists_of" iS ["standings"] f2 fd2):eY P w K mg base (CXr P w base) 5 f fd ["line","train"] (yY K):=by
 have lD:eY P w K mg base CX0 1 f2 fd2 ["standings"] (oS K):=qE fO B
 refine F.F.okX xY (λvs H Q E h=>?_) (λcdv A outer s H vs Q E hr h=>?_)
 ·obtain⟨v,u,l,ns,rfl,_⟩:=h;rfl
 ·obtain⟨v,u,l,ns,rfl,hv,hu,ok,hne,hz,T,few,k⟩:=h
  refine⟨_,(eM (fj (eO lD (hr.mono (by decide)) rfl fO.m fO.F.kp fO.b .nil fg (eD (eO gP (hr.mono (by decide)) rfl fx.m fx.F.kp fx.b .nil i6 (eD (pv 0) (eD (pv 1) eI))) eI)))),?_⟩
  refine⟨_,rfl,_,rfl,_,_,l,ns,rfl,hv,hu,ok,hne,hz,T,λi d us H2 hi yv s2 nd hs2=>?_,λ⟨i,hi⟩=>absurd (few i) (by omega)⟩
  exact⟨d,_,us,rfl,hs2,by omega,λq bs H3 FR=>k i q bs H3 hi (FR.pre s2)⟩
theorem Bh {f1 f2 f3:Addr}{fd1 fd2 fd3:FuncData}(F:Fn K mg "sides" qU ["line","piece"] f fd)(B:Bm mg)(XS:Xp K mg c4)
  (qy:Fn K mg "turn" uS ["line","train"] f1 fd1) (yJ:eY P w K mg base (CXr P w base) 6 f1 fd1 ["line","train"] (we K c2 c5))
  (ja:Fn K mg "marking_by" kB ["line","standings"] f2 fd2) (eZ:Fn K mg "other_end" hZ ["end"] f3 fd3):eY P w K mg base (CXr P w base) 7 f fd ["line","piece"] (tT K):=by
 have vT:eY P w K mg base CX0 2 f2 fd2 ["line","standings"] (yT K):=tI ja B eZ
 refine F.F.okX wz (λvs H Q E h=>?_) (λcdv A outer s H vs Q E hr h=>?_)
 ·obtain⟨v,l,n,rfl,_⟩:=h;rfl
 ·obtain⟨v,l,n,rfl,hv,ok,n0,n1,k⟩:=h
  obtain⟨al,bl,rfl,hlt,us,hll,hlq⟩:=j9 hv
  have x0:0<=2*n/\2*n<2*l.1:=by omega
  have T:=xS (l:=l) x0
  have hne:[2*n]≠ []:=by simp
  have ho:0<=oth (2*n)/\oth (2*n)<2*l.1:=by unfold oth;omega
  have it:gOk l [2*n] [oth (2*n)]:=⟨⟨by simp,xS ho⟩,rfl⟩
  refine⟨_,(eJ (gA (PW.pt (nz (fE (sf (pv 1) eK)) (ny (fE (DL (pv 1) (fh fJ (pv 0) eK (λ_ _=>rfl)))))))
 (eM (kh jt rfl rfl XS.zK.m XS.zK.q bC (eD fS eI))) fu)
 (eJ (eW (i:=2) wz.nd rfl (Or.inl rfl) (eO yJ (hr.mono (by decide)) rfl qy.m qy.F.kp qy.b .nil i6 (eD (pv 0) (eD (gj (eD (eX iL eK (pv 1)) eI)) eI))))
 (eJ (gA (gN uk (fh fJ (pv 2) eK (λ_ _=>rfl)) fS (jd _))
 (eM (fj (fC (eD fS (eD (fh fJ (pv 2) eK (λ_ _=>rfl)) eI))))) fu)
 (eM (fj (fC (eD fS (eD (eO vT (hr.mono (by decide)) rfl ja.m ja.F.kp ja.b .nil fg (eD (pv 0) (eD (fh fJ (pv 2) eK (λ_ _=>rfl)) eI))) eI)))))))),?_⟩
  refine⟨_,rfl,_,_,rfl,rfl,_,rfl,fP (λh0=>?_) (λh0=>?_)⟩
  ·have h0:n<0:=by simpa using h0
   omega
  refine⟨_,rfl,_,rfl,al,_,_,_,rfl,rfl,hlt,rfl,_,_,rfl,rfl,_,rfl,fP (λh1=>?_) (λh1=>?_)⟩
  ·have h1:l.1<=n:=by simpa using h1
   omega
  refine⟨_,rfl,_,rfl,_,_,rfl,rfl,.inl ⟨by decide,by decide⟩,by show 1<=sizeLine;decide,λt nt=>?_⟩
  have s1:=eE (o:=.lst [V.int (2*n)]) nt
  have ht:=eG (H:=H) (a:=t) (o:=.lst [V.int (2*n)])
  generalize upd H t _=H1 at s1 ht ⊢
  refine⟨_,_,l,[2*n],rfl,Da.same s1 hv,fD (ns:=[2*n]) ht,ok,hne,by simp,T,λz=>absurd it z,λ_ ⟨i,hi⟩=>absurd (CP ok x0 i) (by omega),λ_ i hi i3 hg r q bs H2 F2 hr2 nr2=>?_,λ_ i hi i3 hg r q1 run q2 us H2 s2 R nq1 PT RN hnq hr2 nr2=>?_⟩
  ·have s2:=F2.same
   refine⟨_,rfl,r,_,_,_,rfl,rfl,SqT.of hr2,rfl,rfl,_,rfl,fP (λh=>absurd h (by decide)) (λ_=>?_)⟩
   have hno:¬∃ ws,Go l [2*n] ws [oth (2*n)]:=λ⟨ws,g⟩=>hg (oY ok T hne hi g)
   refine⟨_,rfl,_,rfl,r,_,_,_,rfl,rfl,SqT.of hr2,rfl,_,q,l,bs,rfl,Da.same (s1.trans s2) hv,ok,F2.at_,λb hb=>?_,λx H3 s3=>⟨by show 2<=sizeLine;decide,λr4 nr4=>k.no hno r4 x _ ((s1.trans s2).trans (s3.trans (eE nr4))) eG⟩⟩
   obtain⟨j,hj,ej⟩:=aU.mp hb
   have hb0:bs[j]? = some b:=by rw[af hj,ej]
   have hjl:j<((eT l [2*n] i).map (·.1)).length:=by rw[<-F2.len];exact hj
   have ht0:((eT l [2*n] i).map (·.1))[j]? = some (((eT l [2*n] i).map (·.1))[j]):=af hjl
   obtain⟨e,he,ee⟩:=ak.mp (ay ht0)
   obtain⟨T1,_,n1'⟩:=(iu ok T hne i).tr e he
   refine⟨_,(F2.each j b _ hb0 ht0).2.2,by rw[<-ee];exact n1',by rw[<-ee];exact T1.ends⟩
  ·have EI:=iu ok T hne i
   have pl:=wL EI.nd (kI l [2*n] i) PT
   obtain⟨bw,WY,hbw⟩:=sh (mQ l [2*n] i) PT
   have LD:∀ ws,Go l [2*n] ws [oth (2*n)]->run.length<=ws.length:=λws g=>by
    obtain⟨m,hm,hle⟩:=xO ok T hne hi _ _ g.gd
    have pl:gv (fi (eT l [2*n] i)) [oth (2*n)]=some (run.length:Int):=pl
    rw[pl]at hm
    cases hm
    omega
   have r3:run.length<=300:=by
    obtain⟨e,he,ee⟩:=ak.mp hg
    obtain⟨j,hj,ej⟩:=aU.mp he
    have:=CL EI.nd (kI l [2*n] i) PT j e (by rw[af hj,ej]) ee
    omega
   refine⟨_,rfl,r,_,_,_,rfl,rfl,SqT.of hr2,rfl,rfl,_,rfl,fP (λ_=>?_) (λh=>absurd (by simp) h)⟩
   refine⟨_,rfl,r,_,_,_,rfl,rfl,SqT.of hr2,rfl,by show 2<=sizeLine;decide,λr5 nr5=>?_⟩
   exact k.yes r5 q1 run _ ((s1.trans s2).trans (eE nr5)) eG (R.same (eE nr5)) ⟨_,WY.goL hbw,by simp⟩ LD r3
end
theorem DX {l:Ln}{tr:List Int}{r i:Nat}(ok:fb l)(T:fT l tr)(hne:tr≠ [])(hi:(eT l tr i).length=i)(i3:i<=300)(he:(rnd l tr r).2 = []){t:List Int}(ht:t∈(eT l tr i).map (·.1)){w:Str}(hw:isW w):cnt l tr r (t,w)=some (cn l tr r t w):=by
 obtain⟨_,htr,hsh⟩:=kd ok T hne hi
 obtain⟨e,he',rfl⟩:=ak.mp ht
 obtain⟨_,h2⟩:=RC.full ok (RC.of (λt ht=>(hsh t ht).2) htr (by rw[aa];omega) r) he i e he' w hw
 obtain⟨n,hn⟩:=cC.mp h2
 unfold cn
 rw[hn];rfl
theorem vU {l:Ln}{tr:List Int}{r i:Nat}(ok:fb l)(T:fT l tr)(hne:tr≠ [])(hi:(eT l tr i).length=i)(i3:i<=300)(he:(rnd l tr r).2 = []){t:List Int}(ht:t∈(eT l tr i).map (·.1)):isW (lX l tr r t)/\∃ a b,cnt l tr r (t,lX l tr r t)=some a/\cnt l tr r (t,ow (lX l tr r t))=some b/\a<=b:=by
 have c1:=DX ok T hne hi i3 he ht (w:=onW) (.inl rfl)
 have c2:=DX ok T hne hi i3 he ht (w:=gQ) (.inr rfl)
 have hnb:¬Str.ofString "back" = Str.ofString "on" :=by decide +kernel
 have o1:ow onW=gQ:=by unfold ow onW gQ;rw[aL rfl]
 have o2:ow gQ=onW:=by unfold ow onW gQ;rw[aH hnb]
 unfold lX
 by_cases z:cn l tr r t onW<=cn l tr r t gQ
 ·rw[aL z,o1]
  exact⟨.inl rfl,_,_,c1,c2,z⟩
 ·rw[aH z,o2]
  exact⟨.inr rfl,_,_,c2,c1,by omega⟩
def uM (K:PySem.W.Frag):Sp:=λvs H Q _=>∃ (v u g:V) (l:Ln) (s t:List Int),vs = [v,u,g]/\Da K H (dL l) v/\Da K H (dI s) u/\Da K H (dI t) g/\fb l/\s≠ []/\s.length<=900/\fT l s/\(∃ ws,Go l s ws t)/\(∀ i,(eT l s i).length<=300)/\
 ∀ (q:Addr) (n c:Nat) (H':Hp),eQ H H'->H q=none->H' q=some (.lst [.int (n:Int),.int (c:Int)])->jm l s t n c->Q (.ref q) H'
abbrev kL:Stmt:=top 50
theorem oU:fk ["_law_line_here","_law_train_here","_law_goal","_law_some","_law_more"] ["_law_line_here","_law_train_here","_law_goal"] (eS kL):=⟨rfl,rfl,rfl,by decide +kernel,rfl,by decide +kernel,by decide +kernel⟩
section
variable {P:Program}{w:World}{K:PySem.W.Frag}{mg:Str->Option Value}{base:Heap}{f:Addr}{fd:FuncData}{c2 c5:Addr}
theorem yk {f1 f2 f3:Addr}{fd1 fd2 fd3:FuncData}(F:Fn K mg "_law_far" kL ["_law_line_here","_law_train_here","_law_goal"] f fd)(B:Bm mg)
  (ig:Fn K mg "least" oe ["line","train","goal"] f1 fd1) (kF:eY P w K mg base (CXr P w base) 5 f1 fd1 ["line","train","goal"] (pz K c2 c5))
  (iY:Fn K mg "fewest" mf ["line","train","goal"] f2 fd2) (mJ:eY P w K mg base (CXr P w base) 6 f2 fd2 ["line","train","goal"] (p8 K c2 c5))
  (gL:Fn K mg "changes" jQ ["run"] f3 fd3):eY P w K mg base CX0 7 f fd ["_law_line_here","_law_train_here","_law_goal"] (uM K):=by
 have oD:eY P w K mg base CX0 1 f3 fd3 ["run"] (oT K):=sx gL B
 refine F.F.ok oU (λvs H Q E h=>?_) (λcdv A outer s H vs Q E hr h=>?_)
 ·obtain⟨v,u,g,l,s,t,rfl,_⟩:=h;rfl
 ·obtain⟨v,u,g,l,tr,gs,rfl,hv,hu,hg,ok,hne,hz,T,⟨ws0,go0⟩,few,k⟩:=h
  obtain⟨T1,l1,n1⟩:=go0.ok ok T hne
  have go:gOk l tr gs:=⟨⟨n1,T1⟩,l1⟩
  refine⟨_,(eJ (eW (i:=3) oU.nd rfl (Or.inl rfl) (eO kF (hr.mono (by decide)) rfl ig.m ig.F.kp ig.b .nil ju (eD (pv 0) (eD (pv 1) (eD (pv 2) eI)))))
 (eJ (eW (i:=4) oU.nd rfl (Or.inl rfl) (eO mJ (hr.mono (by decide)) rfl iY.m iY.F.kp iY.b .nil ju (eD (pv 0) (eD (pv 1) (eD (pv 2) eI)))))
 (eJ (gA (PW.pt (nz (gN Be (fh fJ (pv 3) eK (λ_ _=>rfl)) fS (jd _)) (ny (gN Be (fh fJ (pv 4) eK (λ_ _=>rfl)) fS (jd _)))))
 (eM (fj se)) fu)
 (eM (fj (gj (eD (fm fq rfl B.len b5 (eD (fh fJ (pv 3) eK (λ_ _=>rfl)) eI)) (eD (eO oD (hr.mono (by decide)) rfl gL.m gL.F.kp gL.b .nil fg (eD (fh fJ (pv 4) eK (λ_ _=>rfl)) eI)) eI)))))))),nm λR1 hR1=>?_⟩
  refine⟨_,rfl,_,rfl,_,rfl,_,_,_,l,tr,gs,rfl,hv,hu,hg,ok,hne,hz,T,by omega,?_⟩
  refine⟨λz=>absurd go z,λ_ ⟨j,hj⟩=>absurd (few j) (by omega),λ_ i hi _ hn=>absurd (oY ok T hne hi go0) hn,λ_ i hi i3 hin r1 q1 run q2 us H1 s1 ra nq1 pt RN _ hr1 _=>hR1 _ _ _ (nm λR2 hR2=>?_)⟩
  refine⟨_,rfl,_,rfl,_,rfl,_,_,_,l,tr,gs,rfl,Da.same s1 hv,Da.same s1 hu,Da.same s1 hg,ok,hne,hz,T,by omega,?_⟩
  refine⟨λz=>absurd go z,λ_ ⟨j,hj⟩=>absurd (few j) (by omega),λ_ i hi _ hn=>absurd (oY ok T hne hi go0) hn,λ_ i' hi' _ _ rr r2 p1 uV p2 us2 H2 hrn s2 rb _ pn _ _ hr2 _=>hR2 _ _ _ (nm λR3 hR3=>?_)⟩
  obtain⟨hW,a,b,ca,cb,le⟩:=vU ok T hne hi i3 hrn hin
  have F2:=jm.of ok T hne hi i3 hrn pt hW pn ca cb le
  obtain⟨vr,hq1,D1⟩:=ra.ex
  obtain⟨vr2,hp1,D2⟩:=rb.ex
  have vl:vr.length=run.length:=by have:=Dgs.length D1;rw[aa]at this;exact this
  obtain⟨_,htr,hsh⟩:=kd ok T hne hi
  have r6:uV.length<=600:=pn.len (λt ht=>(hsh t ht).2) htr (by rw[aa];omega)
  refine⟨_,rfl,r1,_,_,_,rfl,rfl,SqT.of (s2 _ _ hr1),rfl,rfl,_,rfl,fP (λh=>absurd h (by simp)) (λ_=>?_)⟩
  refine⟨_,rfl,r2,_,_,_,rfl,rfl,SqT.of hr2,rfl,rfl,_,rfl,fP (λh=>absurd h (by simp)) (λ_=>hR3 _ _ _ ?_)⟩
  refine⟨_,rfl,r1,_,_,_,rfl,rfl,SqT.of (s2 _ _ hr1),rfl,q1,_,rfl,.inl (SqL.of (s2 _ _ hq1)),?_⟩
  refine⟨_,rfl,r2,_,_,_,rfl,rfl,SqT.of hr2,rfl,_,uV,rfl,gR.mpr ⟨p1,vr2,rfl,SqL.of hp1,Das.same iF D2⟩,by omega,λH3 s3=>⟨by show 2<=sizeLine;decide,λq nq=>?_⟩⟩
  have S3:=s1.trans (s2.trans s3)
  refine k q run.length (hU (uV.map (·.1))) _ (S3.trans (eE nq)) (eQ.free S3 nq) ?_ F2
  rw[eG,vM,vl]
end
def nxt (k:Str×Int)(t:List Int):List Int:=if k.1=Str.ofString "on" then t.drop 1 ++ [k.2]else oth k.2::t.dropLast
def nxs (ns:List Int)(run:List (Str×Int)):List Int:=run.foldl (λt k=>nxt k t) ns
def bk:List Int->List (Str×Int)->List (Str×Int)
 |_,[]=>[]
 |ns,k::r=>und k ns::bk (nxt k ns) r
theorem vP (k:Str×Int):∀ (run:List (Str×Int)) (ns:List Int),bk ns (run ++ [k])=bk ns run ++ [und k (nxs ns run)]
 |[],ns=>rfl
 |h::r,ns=>by
  show und h ns::bk (nxt h ns) (r ++ [k])=und h ns::(bk (nxt h ns) r ++ [und k (nxs (nxt h ns) r)])
  rw[vP k r]
theorem vQ:∀ (run:List (Str×Int)) (ns:List Int),(bk ns run).length=run.length
 |[],ns=>rfl
 |h::r,ns=>by show(bk (nxt h ns) r).length+1=r.length+1;rw[vQ r]
theorem wU (k:Str×Int)(run:List (Str×Int))(ns:List Int):nxs ns (run ++ [k])=nxt k (nxs ns run):=by
 unfold nxs;rw[bJ];rfl
theorem CW {k:Str×Int}{t:List Int}(h:t≠ []):(nxt k t).length=t.length/\nxt k t≠ []:=by
 have h1:1<=t.length:=by cases t with |nil=>exact absurd rfl h |cons x r=>simp
 have e:(nxt k t).length=t.length:=by
  unfold nxt
  split
  ·rw[ai,bG,aE];omega
  ·rw[bc,cB];omega
 exact⟨e,λz=>by rw[z]at e;simp at e;omega⟩
theorem Ec (k:Str×Int)(t:List Int):PyData.strOk (und k t).1=true:=by
 unfold und
 split
 ·exact rK (.inr rfl)
 ·exact rK (.inl rfl)
theorem EG {l:Ln}{b:List Int}{m:Mv}(hm:m∈mvs l b):nxt m.1 b=m.2:=by
 have hw:¬(Str.ofString "back")=Str.ofString "on" :=by decide +kernel
 rcases az.mp hm with z |z
 ·obtain⟨e,he,rfl⟩:=ak.mp z
  unfold nxt
  rw[aL (show(onM b e).1.1=Str.ofString "on" from rfl)];rfl
 ·obtain⟨e,he,rfl⟩:=ak.mp z
  unfold nxt
  rw[aH (show ¬(jw b e).1.1=Str.ofString "on" from hw)];rfl
theorem jN.nxs {l:Ln}{ns:List Int}{run:List (Str×Int)}{b:List Int}(h:jN l ns run b):nxs ns run=b:=by
 induction h with
 |nil=>rfl
 |snoc h hm ih=>rw[wU,ih,EG hm]
theorem jN.bk {l:Ln}{ns:List Int}(ok:fb l)(T:fT l ns)(hne:ns≠ []){run:List (Str×Int)}{b:List Int}(h:jN l ns run b):∀ ts,zI l ns run ts b->oQ ts run=(bk ns run).reverse:=by
 induction h with
 |nil=>intro ts _;rfl
 |@snoc run b m h hm ih=>
  intro ts R
  obtain⟨t0,R0⟩:=h.trail ok T hne
  have e:ts=t0 ++ [m.2]:=by
   have e1:=R.go
   have e0:=R0.go
   unfold wkl at e1 e0
   rw[bJ,e0]at e1
   have e1:(fnd (mvs l (t0.getLastD [])) m.1).map (λb=>t0 ++ [b])=some ts:=e1
   rw[R0.last,rh hm]at e1
   cases e1;rfl
  rw[e,pV R0.len R0.last,ih t0 R0,vP,cj,jN.nxs h];rfl
def wm (K:PySem.W.Frag):Sp:=λvs H Q _=>∃ (u r:V) (ns:List Int) (run:List (Str×Int)),vs = [u,r]/\Da K H (dI ns) u/\Da K H (dR run) r/\ns≠ []/\ns.length<=900/\run.length<=1000/\
 ∀ q H',eQ H H'->H q=none->lP K H' q (bk ns run).reverse->Q (.ref q) H'
abbrev mT:Stmt:=top 51
theorem iR:fk ["_law_train_here","_law_run","_law_undone","_law_here","_law_word","_law_end"] ["_law_train_here","_law_run"] (eS mT):=⟨rfl,rfl,rfl,by decide +kernel,rfl,by decide +kernel,by decide +kernel⟩
section
variable {P:Program}{w:World}{K:PySem.W.Frag}{mg:Str->Option Value}{base:Heap}{f:Addr}{fd:FuncData}
theorem wR {f1:Addr}{fd1:FuncData}(F:Fn K mg "_law_back" mT ["_law_train_here","_law_run"] f fd)(B:Bm mg)(fe:Fn K mg "_law_other" iT ["_law_end"] f1 fd1):eY P w K mg base CX0 2 f fd ["_law_train_here","_law_run"] (wm K):=by
 have ia:eY P w K mg base CX0 1 f1 fd1 ["_law_end"] jf:=kE fe
 refine F.F.ok iR (λvs H Q E h=>?_) (λcdv A outer s H vs Q E hr h=>?_)
 ·obtain⟨u,r,ns,run,rfl,_⟩:=h;rfl
 ·obtain⟨u,r,ns,run,rfl,hu,hr0,hne,hz,hzr,k⟩:=h
  obtain⟨a,rfl,ha⟩:=h9.mp hu
  obtain⟨ar,vr,rfl,har,hvr⟩:=gR.mp hr0
  have hlr:vr.length=run.length:=by have:=Dgs.length hvr;rw[aa]at this;exact this
  refine⟨_,(eJ (eW (i:=2) iR.nd rfl (Or.inl rfl) (gj eI))
 (eJ (eW (i:=3) iR.nd rfl (Or.inl rfl) (fL iA rfl B.list dE (eD (pv 0) eI)))
 (eJ (gU aX rfl (fF (pv 1)) (g7 (n:=2) rfl (fc (eU (i:=4) iR.nd rfl (Or.inl rfl)) (fc (eU (i:=5) iR.nd rfl (Or.inl rfl)) gB)))
 (eM (gA (gN uk (pv 4) fS (jd _))
 (eJ (gF (ki aM aT aS gD (pv 2) (eD (fC (eD fS (eD (eO ia (hr.mono (by decide)) rfl fe.m fe.F.kp fe.b .nil fg (eD (fh fo (pv 3) eK (λ_ _=>rfl)) eI)) eI))) eI)))
 (eM (eW (i:=3) iR.nd rfl (Or.inl rfl) (eX kj (ji jY (pv 3) (jH eK) j7) (gj (eD (pv 5) eI)))))) (eJ (gF (ki aM aT aS gD (pv 2) (eD (fC (eD fS (eD (fh fo (pv 3) (nA kX eK) (λ_ _=>rfl)) eI))) eI)))
 (eM (eW (i:=3) iR.nd rfl (Or.inl rfl) (eX kj (gj (eD (eO ia (hr.mono (by decide)) rfl fe.m fe.F.kp fe.b .nil fg (eD (pv 5) eI)) eI)) (ji jY (pv 3) j7 (jH (nA kX eK))))))))))
 (eM (fj (wH (pv 2) (nA kX eK))))))),?_⟩
  refine⟨aO _,λq nq=>?_⟩
  have s1:=eE (o:=.lst []) nq
  have hq:=eG (H:=H) (a:=q) (o:=.lst [])
  generalize upd H q _=H1 at s1 hq ⊢
  refine⟨_,rfl,a,_,rfl,.inl (s1.seq ha),λb0 nb0=>?_⟩
  have s2:=eE (o:=.lst (ns.map V.int)) nb0
  have hb0:=eG (H:=H1) (a:=b0) (o:=.lst (ns.map V.int))
  have hq2:=s2 _ _ hq
  have hbq:b0≠q:=bB (eN hq nb0)
  have S2:=s1.trans s2
  clear s1 s2
  generalize upd H1 b0 _=H2 at S2 hb0 hq2 ⊢
  refine⟨_,rfl,ar,rfl,⟨_,S2.seq har⟩,ik (K:=K) (a:=ar) (xs:=vr) (λi σ H3=>∃ (h:Addr) (x4 x5:Option V),σ = [some (.ref a),some (.ref ar),some (.ref q),some (.ref h),x4,x5]/\eQ H H3/\h≠q/\H3 h=some (.lst ((nxs ns (run.take i)).map V.int))/\lP K H3 q (bk ns (run.take i))/\(nxs ns (run.take i)).length=ns.length/\nxs ns (run.take i)≠ [])
   ⟨b0,none,none,rfl,S2,hbq,hb0,⟨⟨[],hq2,fQ.mpr rfl⟩,λk hk=>by simp[bk]at hk⟩,rfl,hne⟩ (λi σ H3 _ ⟨_,_,_,_,S3,_⟩=>S3.seq har) ?_ ?_⟩
  ·rintro i y σ H3 N R B kN _ hi ⟨h,x4,x5,rfl,S3,hhq,hh,R3,tl,tne⟩
   obtain⟨kq,hki,dk⟩:=yF hvr hi
   obtain⟨ad,rfl,hA⟩:=BY (Da.same S3 dk)
   have hil:i<run.length:=by have:=(ah.mp hi).1;omega
   have tk:run.take (i+1)=run.take i ++ [kq]:=by rw[aZ,hki];rfl
   rw[tk,vP,wU]at kN
   have ul:(bk ns (run.take i)).length=i:=by rw[vQ,bj];omega
   generalize nxs ns (run.take i)=t at hh tl tne kN
   generalize bk ns (run.take i)=us at R3 kN ul
   obtain⟨⟨vq,hq3,dq⟩,okq⟩:=id R3
   have lq:vq.length<=1000:=by
    have h1:=Dgs.length dq
    rw[aa]at h1
    omega
   have fin:∀ (kk:Str×Int) (tp:Addr) (G:Hp),und kq t=kk->eQ H3 G->G tp=some (.tup [.str kk.1,.int kk.2])->eQ H (upd G q (.lst (vq ++ [.ref tp])))/\lP K (upd G q (.lst (vq ++ [.ref tp]))) q (us ++ [und kq t])/\upd G q (.lst (vq ++ [.ref tp])) h=some (.lst (t.map V.int)):=by
    intro kk tp G h2 sG hG
    refine⟨eQ.upd (S3.trans sG) nq,⟨⟨_,eG,?_⟩,λk hk=>?_⟩,by rw[eL hhq];exact sG _ _ hh⟩
    ·rw[mY,ax]
     refine Dgs.append (Das.same (nH sG) dq) (Dgs.one ?_)
     rw[h2]
     exact GO (sG _ _ hq3) (zD (SqT.of hG))
    ·rcases az.mp hk with z |z
     ·exact okq k z
     ·have z:k=und kq t:=by simpa using z
      rw[z];exact Ec _ _
   obtain⟨n1,n2⟩:=CW (k:=kq) tne
   refine⟨ad,_,rfl,hA,rfl,_,_,rfl,_,_,rfl,rfl,?_⟩
   refine⟨_,rfl,rfl,_,rfl,fP (λz=>?_) (λz=>?_)⟩
   ·have z:kq.1=Str.ofString "on" :=V.str.inj (of_decide_eq_true z)
    refine⟨_,rfl,.inl ⟨rfl,_,SqL.of hq3⟩,_,rfl,h,_,_,_,rfl,rfl,SqL.of hh,mG tne,_,rfl,by show 2<=sizeLine;decide,λtp ntp=>?_⟩
    have s4:=eE (o:=.tup [.str "back",.int (oth (t.headD 0))]) ntp
    refine⟨q,_,_,rfl,rfl,s4 _ _ hq3,iN (by omega),?_⟩
    obtain⟨f1,f2,f3⟩:=fin (Str.ofString "back",oth (t.headD 0)) tp _ (by unfold und;rw[aL z]) s4 eG
    generalize upd (upd H3 tp _) q _=G at f1 f2 f3 ⊢
    refine⟨_,rfl,_,rfl,h,_,rfl,SqL.of f3,λp2 m2=>?_⟩
    refine⟨_,rfl,by show 1<=sizeLine;decide,λp3 m3=>?_⟩
    rw[pQ]at m3 ⊢
    refine⟨p2,p3,_,_,rfl,rfl,by rw[eL (eN eG m3),eG],eG,?_,λp4 m4=>?_⟩
    ·refine bI (fH ?_)
     rw[aa,bG]
     show t.length-1+1<=1000
     omega
    have S5:eQ G _:=(eE m2).trans ((eE m3).trans (eE (o:=.lst ((t.drop 1).map V.int ++ [.int kq.2])) m4))
    have hq4:=f2.ex
    refine kN _ _ ⟨p4,_,_,rfl,f1.trans S5,?_,?_,f2.same S5,n1.trans tl,n2⟩
    ·obtain⟨_,g,_⟩:=hq4
     exact bB (eN (((eE m2).trans (eE m3)) _ _ g) m4)
    ·rw[eG]
     unfold nxt
     rw[aL z,ax];rfl
   ·have z:¬kq.1=Str.ofString "on" :=λe=>z (bA (bX V.str e))
    refine⟨_,rfl,.inl ⟨rfl,_,SqL.of hq3⟩,_,rfl,_,rfl,h,_,_,_,rfl,rfl,SqL.of hh,TL.rk tne,by show 2<=sizeLine;decide,λtp ntp=>?_⟩
    have s4:=eE (o:=.tup [.str "on",.int (t.getLastD 0)]) ntp
    refine⟨q,_,_,rfl,rfl,s4 _ _ hq3,iN (by omega),?_⟩
    obtain⟨f1,f2,f3⟩:=fin (Str.ofString "on",t.getLastD 0) tp _ (by unfold und;rw[aH z]) s4 eG
    generalize upd (upd H3 tp _) q _=G at f1 f2 f3 ⊢
    refine⟨_,rfl,kq.2,rfl,by show 1<=sizeLine;decide,λp2 m2=>?_⟩
    refine⟨_,rfl,_,rfl,_,rfl,h,_,rfl,SqL.of ((eE m2) _ _ f3),λp3 m3=>?_⟩
    have ec:lI (t.map V.int) none (some (-1))=t.dropLast.map V.int:=sT t
    refine⟨p2,p3,_,_,rfl,rfl,by rw[eL (eN eG m3),eG],eG,?_,λp4 m4=>?_⟩
    ·refine bI (fH ?_)
     show 1+(lI (t.map V.int) none (some (-1))).length<=1000
     rw[ec,aa,cB]
     omega
    have S5:eQ G _:=(eE m2).trans ((eE m3).trans (eE (o:=.lst ([V.int (oth kq.2)]++lI (t.map V.int) none (some (-1)))) m4))
    have hq4:=f2.ex
    refine kN _ _ ⟨p4,_,_,rfl,f1.trans S5,?_,?_,f2.same S5,n1.trans tl,n2⟩
    ·obtain⟨_,g,_⟩:=hq4
     exact bB (eN (((eE m2).trans (eE m3)) _ _ g) m4)
    ·rw[eG]
     show some (HO.lst ([V.int (oth kq.2)]++lI (t.map V.int) none (some (-1))))=_
     unfold nxt
     rw[aH z,ec];rfl
  ·rintro σ H3 ⟨h,x4,x5,rfl,S3,hhq,hh,R3,tl,tne⟩
   rw[hlr,bo]at R3
   obtain⟨⟨vq,hq3,dq⟩,okq⟩:=R3
   refine⟨_,rfl,_,rfl,_,rfl,q,vq,rfl,rfl,SqL.of hq3,λp np=>?_⟩
   refine k p _ (S3.trans (eE np)) (eQ.free S3 np) ⟨⟨_,eG,?_⟩,λk hk=>okq k (ez.mp hk)⟩
   rw[mY,cu]
   exact Dgs.rev (Das.same (AU iF (by rw[fV (bB (eN hq3 np))];exact np)) dq)
end
theorem tO {l:Ln}{s:List Int}{run:List (Str×Int)}{bs:List (List Int)}(W:Way l s run bs):∀ j,j<=run.length->∃ b,bs[j]? = some b/\jN l s (run.take j) b
 | 0,_=>⟨s,W.first,.nil⟩
 |j+1,hj=>by
  obtain⟨b,hb,g⟩:=tO W j (by omega)
  have h1:j+1<bs.length:=by rw[W.len];omega
  have h2:run[j]? = some run[j]:=af (by omega)
  have hm:=W.step j _ _ _ h2 hb (af h1)
  refine⟨_,af h1,?_⟩
  rw[aZ,h2]
  exact g.snoc hm
theorem rD {l:Ln}{s t:List Int}{run:List (Str×Int)}{bs:List (List Int)}(W:Way l s run bs)(hb:bs[run.length]? = some t):jN l s run t:=by
 obtain⟨b,h1,g⟩:=tO W run.length (av _)
 rw[hb]at h1
 cases h1
 rwa [bo]at g
theorem B8:∀ (run:List (Str×Int)) (ns:List Int),(bk ns run).map (·.1)=(run.map (·.1)).map ow
 |[],ns=>rfl
 |h::r,ns=>by
  show(und h ns).1::(bk (nxt h ns) r).map (·.1)=ow h.1::(r.map (·.1)).map ow
  rw[B8 r]
  congr 1
  unfold und ow
  split<;>rfl
theorem Fp {l:Ln}(ok:fb l){s t:List Int}{run:List (Str×Int)}(h:jN l s run t):chg ((bk s run).reverse.map (·.1))=chg (run.map (·.1)):=by
 rw[vM,vM,cu,sX,B8,nJ]
 intro w hw
 obtain⟨k,hk,rfl⟩:=ak.mp hw
 exact(h.words ok k hk).1
theorem Dw {l:Ln}{s t:List Int}(ok:fb l)(T:fT l s)(hne:s≠ []){run:List (Str×Int)}(h:jN l s run t):∃ ts,wkl l t (bk s run).reverse=some ts/\ts.getLastD []=s/\ts≠ []:=by
 obtain⟨ts,R⟩:=h.trail ok T hne
 have e:=jN.bk ok T hne h ts R
 have h1:1<=ts.length:=by have:=R.len;omega
 refine⟨ts.reverse,by rw[<-e];exact R.back,?_,λz=>by rw[List.reverse_eq_nil_iff]at z;rw[z]at h1;simp at h1⟩
 have h0:ts[0]? = some s:=by
  have g:=R.go
  have aux:∀ (run:List (Str×Int)) (a r:List (List Int)),a[0]? = some s->run.foldl (stp l) (some a)=some r->r[0]? = some s:=by
   intro run
   induction run with
   |nil=>intro a r ha hr;cases hr;exact ha
   |cons k r ih=>
    intro a r' ha hr
    rw[cL]at hr
    cases q:stp l (some a) k with
    |none=>rw[q,rL]at hr;cases hr
    |some a'=>
     rw[q]at hr
     refine ih a' r' ?_ hr
     have q:(fnd (mvs l (a.getLastD [])) k).map (λb=>a ++ [b])=some a':=q
     obtain⟨b,_,rfl⟩:=cH.mp q
     have:0<a.length:=(ah.mp ha).1
     rw[aj this];exact ha
  exact aux run [s] ts rfl g
 rw[bf,List.getLast?_reverse,List.head?_eq_getElem?,h0];rfl
def wj (K:PySem.W.Frag):Sp:=λvs H Q _=>∃ (v u g:V) (l:Ln) (s t:List Int),vs = [v,u,g]/\Da K H (dL l) v/\Da K H (dI s) u/\Da K H (dI t) g/\fb l/\s≠ []/\s.length<=900/\fT l s/\(∃ ws,Go l s ws t)/\(∀ i,(eT l s i).length<=300)/\
 ∀ (H':Hp),eQ H H'->Q (.bl true) H'
abbrev iZ:Stmt:=top 52
theorem jC:fk ["_law_line_here","_law_train_here","_law_goal","_law_run","_law_back_here"] ["_law_line_here","_law_train_here","_law_goal"] (eS iZ):=⟨rfl,rfl,rfl,by decide +kernel,rfl,by decide +kernel,by decide +kernel⟩
section
variable {P:Program}{w:World}{K:PySem.W.Frag}{mg:Str->Option Value}{base:Heap}{f:Addr}{fd:FuncData}{c2 c5 c3:Addr}
theorem pH {f1 f2 f3 f4 f5:Addr}{fd1 fd2 fd3 fd4 fd5:FuncData}(F:Fn K mg "_law_leads_back" iZ ["_law_line_here","_law_train_here","_law_goal"] f fd)(B:Bm mg)
  (ig:Fn K mg "least" oe ["line","train","goal"] f1 fd1) (kF:eY P w K mg base (CXr P w base) 5 f1 fd1 ["line","train","goal"] (pz K c2 c5))
  (iY:Fn K mg "fewest" mf ["line","train","goal"] f2 fd2) (mJ:eY P w K mg base (CXr P w base) 6 f2 fd2 ["line","train","goal"] (p8 K c2 c5))
  (gL:Fn K mg "changes" jQ ["run"] f3 fd3)
  (jX:Fn K mg "_law_back" mT ["_law_train_here","_law_run"] f4 fd4) (o6:eY P w K mg base CX0 2 f4 fd4 ["_law_train_here","_law_run"] (wm K))
  (mK:Fn K mg "walked" pB ["line","train","run"] f5 fd5) (tw:eY P w K mg base (CXr P w base) 5 f5 fd5 ["line","train","run"] (tS K c3)):eY P w K mg base CX0 7 f fd ["_law_line_here","_law_train_here","_law_goal"] (wj K):=by
 have oD:eY P w K mg base CX0 1 f3 fd3 ["run"] (oT K):=sx gL B
 refine F.F.ok jC (λvs H Q E h=>?_) (λcdv A outer s H vs Q E hr h=>?_)
 ·obtain⟨v,u,g,l,s,t,rfl,_⟩:=h;rfl
 ·obtain⟨v,u,g,l,tr,gs,rfl,hv,hu,hg,ok,hne,hz,T,⟨ws0,go0⟩,few,k⟩:=h
  obtain⟨T1,l1,n1⟩:=go0.ok ok T hne
  have go:gOk l tr gs:=⟨⟨n1,T1⟩,l1⟩
  refine⟨_,(eJ (gU aX rfl (fF (gj (eD (fh fJ (eO kF (hr.mono (by decide)) rfl ig.m ig.F.kp ig.b .nil ju (eD (pv 0) (eD (pv 1) (eD (pv 2) eI)))) eK (λ_ _=>rfl)) (eD (fh fJ (eO mJ (hr.mono (by decide)) rfl iY.m iY.F.kp iY.b .nil ju (eD (pv 0) (eD (pv 1) (eD (pv 2) eI)))) eK (λ_ _=>rfl)) eI)))) (eU (i:=3) jC.nd rfl (Or.inl rfl))
 (eJ (eW (i:=4) jC.nd rfl (Or.inl rfl) (eO o6 (hr.mono (by decide)) rfl jX.m jX.F.kp jX.b .nil fg (eD (pv 1) (eD (pv 3) eI))))
 (eM (gA (fE (ze (fm fq rfl B.len b5 (eD (pv 3) eI)) eK))
 (eM (gA (PW.pt (nz (gN (yh hr.units) (fh fo (eO tw (hr.mono (by decide)) rfl mK.m mK.F.kp mK.b .nil ju (eD (pv 0) (eD (pv 2) (eD (pv 4) eI)))) (nA kX eK) (λ_ _=>rfl)) (pv 1) (jd _)) (ny (fE (ye (eO oD (hr.mono (by decide)) rfl gL.m gL.F.kp gL.b .nil fg (eD (pv 4) eI)) (eO oD (hr.mono (by decide)) rfl gL.m gL.F.kp gL.b .nil fg (eD (pv 3) eI)))))))
 (eM (fj oK)) fu)) fu))))
 (eM (fj oK))),nm λR1 hR1=>?_⟩
  refine⟨_,rfl,_,rfl,_,rfl,_,_,_,l,tr,gs,rfl,hv,hu,hg,ok,hne,hz,T,by omega,?_⟩
  refine⟨λz=>absurd go z,λ_ ⟨j,hj⟩=>absurd (few j) (by omega),λ_ i hi _ hn=>absurd (oY ok T hne hi go0) hn,λ_ i hi i3 hin r1 q1 run q2 us H1 s1 ra nq1 pt RN _ hr1 _=>?_⟩
  refine⟨r1,_,_,_,rfl,rfl,SqT.of hr1,rfl,?_⟩
  refine⟨_,rfl,_,rfl,_,rfl,_,_,_,l,tr,gs,rfl,Da.same s1 hv,Da.same s1 hu,Da.same s1 hg,ok,hne,hz,T,by omega,?_⟩
  refine⟨λz=>absurd go z,λ_ ⟨j,hj⟩=>absurd (few j) (by omega),λ_ i hi _ hn=>absurd (oY ok T hne hi go0) hn,λ_ i' hi' _ _ rr r2 p1 uV p2 us2 H2 hrn s2 rb _ pn _ _ hr2 _=>?_⟩
  obtain⟨hW,a,b,ca,cb,le⟩:=vU ok T hne hi i3 hrn hin
  have F2:=jm.of ok T hne hi i3 hrn pt hW pn ca cb le
  obtain⟨_,htr,hsh⟩:=kd ok T hne hi
  have r6:uV.length<=600:=pn.len (λt ht=>(hsh t ht).2) htr (by rw[aa];omega)
  obtain⟨bs2,W2,e2⟩:=pn.way (λt ht=>(hsh t ht).2) htr (by rw[aa];omega)
  obtain⟨bs1,W1,e1⟩:=sh (mQ l tr i) pt
  have r5:run.length<=600:=by
   have:=F2.b _ (W2.goL e2)
   rw[aa]at this
   omega
  have st1:=rD W1 e1
  have st2:=rD W2 e2
  refine⟨r2,_,_,_,rfl,rfl,SqT.of hr2,rfl,by show 2<=sizeLine;decide,λpl npl=>?_⟩
  have s3:=eE (o:=.lst [V.ref q1,V.ref p1]) npl
  have hpl:=eG (H:=H2) (a:=pl) (o:=.lst [V.ref q1,V.ref p1])
  have each:∀ (i:Nat) y,([V.ref q1,V.ref p1]:List V)[i]? = some y->∃ q rn,y = .ref q/\lP K (upd H2 pl (.lst [V.ref q1,V.ref p1])) q rn/\jN l tr rn gs/\rn.length<=600:=by
   intro i y hy
   match i,hy with
   | 0,hy=>cases hy;exact⟨q1,run,rfl,ra.same (s2.trans s3),st1,r5⟩
   | 1,hy=>cases hy;exact⟨p1,uV,rfl,rb.same s3,st2,r6⟩
  have S3:=s1.trans (s2.trans s3)
  generalize upd H2 pl _=H3 at S3 hpl each ⊢
  clear s1 s2 s3
  refine⟨pl,rfl,⟨_,SqL.of hpl⟩,ik (K:=K) (a:=pl) (xs:=[V.ref q1,V.ref p1]) (λi σ H4=>∃ (x3 x4:Option V),σ = [some v,some u,some g,x3,x4]/\eQ H3 H4)
   ⟨none,none,rfl,eQ.refl _⟩ (λi σ H4 _ ⟨_,_,_,s4⟩=>SqL.of (s4 _ _ hpl)) ?_ ?_⟩
  ·rintro i y σ H4 N R B' kN kR hi ⟨x3,x4,rfl,S4⟩
   obtain⟨q,rn,rfl,RA,st,rl⟩:=each i y hi
   have S:=S3.trans S4
   refine⟨_,rfl,_,rfl,_,_,tr,rn,rfl,Da.same S hu,(RA.same S4).da,hne,hz,by omega,λq' H5 s5 nq' R5=>?_⟩
   have S5:=S4.trans s5
   obtain⟨vr,hq5,D5⟩:=(RA.same S5).ex
   have vl:vr.length=rn.length:=by have:=Dgs.length D5;rw[aa]at this;exact this
   obtain⟨ts,wk,la,tne⟩:=Dw ok T hne st
   refine⟨_,rfl,q,_,rfl,.inl (SqL.of hq5),_,_,rfl,rfl,_,rfl,fP (λz=>?_) (λz=>kN _ _ ⟨_,_,rfl,S5⟩)⟩
   refine⟨_,rfl,_,rfl,_,rfl,_,_,_,l,gs,_,rfl,Da.same (S3.trans S5) hv,Da.same (S3.trans S5) hg,R5.da,R5.ok,ok,n1,by omega,by rw[bu,vQ];omega,λts' wk' wo p bs H6 FR=>?_,λz=>by rw[wk]at z;cases z⟩
   rw[wk]at wk'
   cases wk'
   obtain⟨bl,g1,g2,g3⟩:=w6 FR.len tne
   obtain⟨x1,x2,x3⟩:=FR.each _ _ _ g1 g2
   rw[la]at x3
   refine⟨_,rfl,p,_,_,_,rfl,rfl,SqL.of FR.at_,g3,_,rfl,dI tr,dI tr,fD x3,Da.same (S3.trans (S5.trans FR.same)) hu,iE _,iE _,_,rfl,?_⟩
   rw[ux,bA rfl]
   refine fP (λz=>absurd z (by decide)) (λ_=>?_)
   refine⟨_,rfl,_,_,rfl,(R5.same FR.same).da,by rw[bu,vQ];omega,λH7 s7=>?_⟩
   refine⟨_,rfl,_,_,rfl,(RA.same (S5.trans (FR.same.trans s7))).da,by omega,λH8 s8=>?_⟩
   refine⟨_,_,rfl,rfl,_,rfl,fP (λz=>?_) (λz=>kN _ _ ⟨_,_,rfl,S5.trans (FR.same.trans (s7.trans s8))⟩)⟩
   rw[Fp ok st]at z
   simp at z
  ·rintro σ H4 ⟨x3,x4,rfl,S4⟩
   exact hR1 _ _ _ (k _ (S3.trans S4))
end
theorem yB {m:Int}{js js':List (Int×Int)}(G:ib (m,js))(p:js'.Perm js):ib (m,js'):=
 ⟨G.one,G.most,by show js'.length<=24;rw[p.length_eq];exact G.len,λq hq=>G.ok q (p.mem_iff.mp hq),p.nodup_iff.mpr G.nd⟩
theorem yN {l l':Ln}(G:ib l)(G':ib l')(h:∀ p∈l.2,p∈l'.2):∀ e x,x∈jn l.2 e->x∈jn l'.2 e:=λe x hx=>(lS G'.gI).mpr (h _ ((lS G.gI).mp hx))
def wc (K:PySem.W.Frag):Sp:=λvs H Q _=>∃ (v:V) (l:Ln) (n:Int),vs = [v,.int n]/\Da K H (dL l) v/\ib l/\
 ∀ v' l' H',eQ H H'->Da K H' (dL l') v'->ib l'->l'.1=l.1->(∀ p∈l.2,p∈l'.2)->Q v' H'
abbrev lK:Stmt:=top 54
theorem kA:fk ["_law_line_here","_law_number","_law_one","_law_other_here","_law_joint","_law_at"] ["_law_line_here","_law_number"] (eS lK):=⟨rfl,rfl,rfl,by decide +kernel,rfl,by decide +kernel,by decide +kernel⟩
section
variable {P:Program}{w:World}{K:PySem.W.Frag}{mg:Str->Option Value}{base:Heap}{f:Addr}{fd:FuncData}
theorem vg (F:Fn K mg "_law_wider" lK ["_law_line_here","_law_number"] f fd)(B:Bm mg):eY P w K mg base CX0 1 f fd ["_law_line_here","_law_number"] (wc K):=by
 refine F.F.ok kA (λvs H Q E h=>?_) (λcdv A outer s H vs Q E hr h=>?_)
 ·obtain⟨v,l,n,rfl,_⟩:=h;rfl
 ·obtain⟨v,⟨m,js⟩,n,rfl,hv,G,k⟩:=h
  obtain⟨a,b,rfl,hT,vs,hS,hD⟩:=j9 hv
  have hT:SqT K H a [.int m,.ref b]:=hT
  have hm:1<=m:=G.one
  have hl:js.length<=24:=G.len
  have vl:vs.length=js.length:=by have:=Dgs.length hD;rw[aa]at this;exact this
  have pos:(0:Int)<2*m:=by omega
  refine⟨_,(eJ (Es (i:=2) (j:=3) rfl kA.nd rfl rfl (by decide) rfl rfl (eD (eX gE (pv 1) (eX iL eK (fh fJ (pv 0) eK (λ_ _=>rfl)))) (eD (eX gE (eX hE (pv 1) eK) (eX iL eK (fh fJ (pv 0) eK (λ_ _=>rfl)))) eI)) (by rfl))
 (eJ (eW (i:=4) kA.nd rfl (Or.inl rfl) (fC (eD (fm (mF rfl) rfl B.min boot_min (eD (pv 2) (eD (pv 3) eI))) (eD (fm (kQ rfl) rfl B.max boot_max (eD (pv 2) (eD (pv 3) eI))) eI))))
 (eJ (gA (PW.pt (nz (fE (mU (eX hE (pv 2) eK) (eX hE (pv 3) eK))) (nz (gN (yi hr.units) (pv 4) (fh fJ (pv 0) eK (λ_ _=>rfl)) (by with_unfolding_all rfl)) (ny (fE (sg (fm fq rfl B.len b5 (eD (fh fJ (pv 0) eK (λ_ _=>rfl)) eI)) eK))))))
 (eM (fj (pv 0))) fu)
 (eJ (eW (i:=5) kA.nd rfl (Or.inl rfl) (eX gE (eX hE (pv 1) eK) (eX gH (fm fq rfl B.len b5 (eD (fh fJ (pv 0) eK (λ_ _=>rfl)) eI)) eK)))
 (eM (fj (fC (eD (fh fJ (pv 0) eK (λ_ _=>rfl)) (eD (eX kj (eX kj (ji jY (fh fJ (pv 0) eK (λ_ _=>rfl)) j7 (jH (pv 5))) (gj (eD (pv 4) eI))) (ji jY (fh fJ (pv 0) eK (λ_ _=>rfl)) (jH (pv 5)) j7)) eI))))))))),?_⟩
  refine⟨_,rfl,_,rfl,a,_,_,_,rfl,rfl,hT,rfl,_,_,rfl,rfl,.inl ⟨by decide,by decide⟩,_,_,rfl,rfl,pos,_,rfl,_,_,rfl,rfl,⟨by decide,by decide⟩,_,rfl,a,_,_,_,rfl,rfl,hT,rfl,_,_,rfl,rfl,.inl ⟨by decide,by decide⟩,_,_,rfl,rfl,pos,?_⟩
  have o0:0<=n%(2*m):=bQ _ (by omega)
  have o1:n%(2*m)<2*m:=bK _ pos
  have r0:0<=n/32%(2*m):=bQ _ (by omega)
  have r1:n/32%(2*m)<2*m:=bK _ pos
  refine⟨_,_,rfl,?_⟩
  dsimp only
  generalize n%(2*m)=one at o0 o1 ⊢
  generalize n/32%(2*m)=oh at r0 r1 ⊢
  refine⟨_,rfl,_,rfl,_,_,rfl,_,rfl,_,rfl,_,_,rfl,by show 2<=sizeLine;decide,λp1 n1=>?_⟩
  rw[sC,qj]
  have s1:=eE (o:=.tup [.int (min one oh),.int (max one oh)]) n1
  have hp1:=eG (H:=H) (a:=p1) (o:=.tup [.int (min one oh),.int (max one oh)])
  generalize upd H p1 _=H1 at s1 hp1 ⊢
  have hv1:=Da.same s1 hv
  have hS1:=s1.seq hS
  have hT1:=fv s1 hT
  have hD1:=Das.same s1 hD
  have keep:Q (.ref a) H1:=k _ (m,js) _ s1 hv1 G rfl λp hp=>hp
  refine⟨_,rfl,_,_,rfl,rfl,⟨by decide,by decide⟩,_,rfl,_,_,rfl,rfl,⟨by decide,by decide⟩,_,_,rfl,rfl,_,rfl,?_⟩
  refine fP (λ_=>yr ⟨_,rfl,keep⟩) (λhne=>?_)
  refine⟨_,rfl,_,rfl,a,_,_,_,rfl,rfl,hT1,rfl,_,_,gR.mpr ⟨b,vs,rfl,hS1,hD1⟩,gT.mpr ⟨p1,_,rfl,SqT.of hp1,Dgs.two (gS.mpr rfl) (gS.mpr rfl)⟩,Bj js,DM (_,_),_,rfl,?_⟩
  refine fP (λ_=>yr ⟨_,rfl,keep⟩) (λhni=>?_)
  refine⟨_,rfl,a,_,_,_,rfl,rfl,hT1,rfl,b,_,rfl,.inl hS1,_,_,rfl,rfl,_,rfl,fP (λ_=>⟨_,rfl,keep⟩) (λhlt=>?_)⟩
  have hlt:(vs.length:Int)<=23:=by simpa using hlt
  have IJ:(0:Int)<(vs.length:Int)+1:=by omega
  refine⟨_,rfl,_,_,rfl,rfl,⟨by decide,by decide⟩,_,rfl,a,_,_,_,rfl,rfl,hT1,rfl,b,_,rfl,.inl hS1,_,_,rfl,rfl,_,_,rfl,rfl,IJ,?_⟩
  have a0:0<=n/1024%((vs.length:Int)+1):=bQ _ (by omega)
  dsimp only[oP]
  generalize n/1024%((vs.length:Int)+1)=at_ at a0 ⊢
  refine⟨_,rfl,a,_,_,_,rfl,rfl,hT1,rfl,_,rfl,a,_,_,_,rfl,rfl,hT1,rfl,_,rfl,_,rfl,b,_,rfl,hS1,λp2 m2=>?_⟩
  rw[BZ _ a0]at *
  refine⟨_,rfl,by show 1<=sizeLine;decide,λp3 m3=>?_⟩
  refine⟨p2,p3,_,_,rfl,rfl,by rw[eL (eN eG m3),eG],eG,?_,λp4 m4=>?_⟩
  ·refine bI (fH ?_)
   rw[bj]
   show _+1<=1000
   omega
  have s4:=(eE m2).trans ((eE m3).trans (eE (o:=.lst (vs.take at_.toNat ++ [V.ref p1])) m4))
  have hp4:=eG (H:=upd (upd H1 p2 (.lst (vs.take at_.toNat))) p3 (.lst [V.ref p1])) (a:=p4) (o:=.lst (vs.take at_.toNat ++ [V.ref p1]))
  generalize upd (upd (upd H1 p2 _) p3 _) p4 _=H4 at s4 hp4 ⊢
  refine⟨_,rfl,a,_,_,_,rfl,rfl,fv s4 hT1,rfl,_,rfl,_,rfl,b,_,rfl,s4.seq hS1,λp5 m5=>?_⟩
  rw[xw _ a0]
  refine⟨p4,p5,_,_,rfl,rfl,by rw[eL (eN hp4 m5)];exact hp4,eG,?_,λp6 m6=>?_⟩
  ·refine bI (fH ?_)
   rw[ai,bj,bG]
   show _+1+_<=1000
   omega
  refine⟨by show 2<=sizeLine;decide,λp7 m7=>?_⟩
  have Fc:(min one oh,max one oh)∉js:=λz=>by
   have e:=D0 js (min one oh,max one oh)
   unfold dP at e
   dsimp only at e
   unfold dP at hni
   rw[e]at hni
   simp[z]at hni
  have qm:one/2≠oh/2:=by simpa using hne
  have G':=sP G qm o0 o1 r0 r1 Fc (by omega)
  have pm:(js.take at_.toNat++(min one oh,max one oh)::js.drop at_.toNat).Perm (js ++ [(min one oh,max one oh)]):=(sa _ _ _).trans (List.perm_append_comm (l₁:=[_]) (l₂:=js))
  have s7:=((eE m5).trans (eE (o:=.lst (vs.take at_.toNat ++ [V.ref p1]++vs.drop at_.toNat)) m6)).trans (eE (o:=.tup [.int m,.ref p6]) m7)
  refine k _ (m,js.take at_.toNat++(min one oh,max one oh)::js.drop at_.toNat) _ (s1.trans (s4.trans s7)) ?_ (yB G' pm) rfl λp hp=>pm.mem_iff.mpr (az.mpr (.inl hp))
  refine mD eG (gR.mpr ⟨p6,vs.take at_.toNat ++ [V.ref p1]++vs.drop at_.toNat,rfl,SqL.of (by rw[eL (eN eG m7),eG]),?_⟩)
  have hD7:=Das.same (s4.trans s7) hD1
  have dp:Da K _ (dP (min one oh,max one oh)) (V.ref p1):=gT.mpr ⟨p1,_,rfl,SqT.of ((s4.trans s7) _ _ hp1),Dgs.two (gS.mpr rfl) (gS.mpr rfl)⟩
  have e1:(js.take at_.toNat++(min one oh,max one oh)::js.drop at_.toNat).map dP=((js.map dP).take at_.toNat ++ [dP (min one oh,max one oh)])++(js.map dP).drop at_.toNat:=by
   rw[ax,aQ,List.map_take,cO,bY];rfl
  show Dgs _ _ ((js.take at_.toNat++(min one oh,max one oh)::js.drop at_.toNat).map dP) _
  rw[e1]
  exact Dgs.append (Dgs.append (Dgs.take _ hD7) (Dgs.one dp)) (Dgs.drop _ hD7)
end
theorem Ct {l l':Ln}{s:List Int}(T:fT l s)(el:l'.1=l.1)(hj:∀ e x,x∈jn l.2 e->x∈jn l'.2 e):fT l' s:=⟨λe he=>by rw[el];exact T.ends e he,T.nd,λi x y hx hy=>hj _ _ (T.ch i x y hx hy)⟩
def wb (K:PySem.W.Frag):Sp:=λvs H Q _=>∃ (v v' u g:V) (hp op:Addr) (l l':Ln) (s t:List Int) (n c:Nat) (ts:List (List Int)),vs = [v,v',u,g,.ref hp,.ref op]/\Da K H (dL l) v/\Da K H (dL l') v'/\Da K H (dI s) u/\Da K H (dI t) g/\
 H hp=some (.lst [.int (n:Int),.int (c:Int)])/\Da K H (dLI ts) (.ref op)/\ib l/\ib l'/\l'.1=l.1/\(∀ p∈l.2,p∈l'.2)/\s≠ []/\s.length<=900/\fT l s/\fT l' s/\(∀ i,(eT l' s i).length<=300)/\jm l s t n c/\(∀ x∈ts,∃ ws,Go l s ws x)/\ts.length<=1000/\
 ∀ (H':Hp),eQ H H'->Q (.bl true) H'
abbrev iU:Stmt:=top 55
theorem iC:fk ["_law_line_here","_law_wide","_law_train_here","_law_goal","_law_here","_law_order","_law_there","_law_found","_law_old","_law_new"] ["_law_line_here","_law_wide","_law_train_here","_law_goal","_law_here","_law_order"] (eS iU):=⟨rfl,rfl,rfl,by decide +kernel,rfl,by decide +kernel,by decide +kernel⟩
theorem lO:fX (eS iU) ["_law_line_here","_law_wide","_law_train_here","_law_goal","_law_here","_law_order","_law_there","_law_found","_law_old","_law_new"] {kind:=.function,names:=[(Str.ofString ".0",.local),(Str.ofString "_law_standing",.local),(Str.ofString "_law_found",.free)],isGenerator:=false,isCoroutine:=false,more:=[]} ["_law_standing","_law_found"] 1 [none,some 7]:=⟨rfl,by decide +kernel,by decide +kernel,by decide +kernel,rfl,by decide +kernel,rfl,by decide +kernel⟩
section
variable {P:Program}{w:World}{K:PySem.W.Frag}{mg:Str->Option Value}{base:Heap}{f:Addr}{fd:FuncData}
theorem qL {f1 f2 f3:Addr}{fd1 fd2 fd3:FuncData}(F:Fn K mg "_law_no_worse" iU ["_law_line_here","_law_wide","_law_train_here","_law_goal","_law_here","_law_order"] f fd)(B:Bm mg)
  (ft:Fn K mg "_law_far" kL ["_law_line_here","_law_train_here","_law_goal"] f1 fd1) (gY:eY P w K mg base CX0 7 f1 fd1 ["_law_line_here","_law_train_here","_law_goal"] (uM K))
  (kW:Fn K mg "come_to" om ["line","train"] f2 fd2) (qx:eY P w K mg base (CXr P w base) 5 f2 fd2 ["line","train"] (yY K))
  (kH:Fn K mg "sides" qU ["line","piece"] f3 fd3) (rz:eY P w K mg base (CXr P w base) 7 f3 fd3 ["line","piece"] (tT K)):eY P w K mg base CX0 8 f fd ["_law_line_here","_law_wide","_law_train_here","_law_goal","_law_here","_law_order"] (wb K):=by
 refine F.F.ok iC (λvs H Q E h=>?_) (λcdv A outer s H vs Q E hr h=>?_)
 ·obtain⟨v,v',u,g,hp,op,l,l',s,t,n,c,ts,rfl,_⟩:=h;rfl
 ·obtain⟨v,v',u,g,hp,op,l,l',s,t,n,c,ts,rfl,hv,hv',hu,hg,hh,ho,G,G',el,hJ,hne,hz,T,T',few,F2,hts,tl,k⟩:=h
  have hj:=yN G G' hJ
  obtain⟨ws0,go0,_⟩:=F2.a
  obtain⟨a,rfl,ha⟩:=h9.mp hu
  obtain⟨op',vo,eo,hSo,hDo⟩:=gR.mp ho
  cases eo
  have vol:vo.length=ts.length:=by have:=Dgs.length hDo;rw[aa]at this;exact this
  have hd:s.headD 0∈s:=by cases s with |nil=>exact absurd rfl hne |cons x r=>exact aC
  have he:=T.ends _ hd
  refine⟨_,(eJ (eW (i:=6) iC.nd rfl (Or.inl rfl) (eO gY (hr.mono (by decide)) rfl ft.m ft.F.kp ft.b .nil fg (eD (pv 1) (eD (pv 2) (eD (pv 3) eI)))))
 (eJ (gA (PW.pt (nz (fE (Bc (pv 6))) (nz (fE (sg (fh fo (pv 6) eK (λ_ _=>rfl)) (fh fo (pv 4) eK (λ_ _=>rfl)))) (ny (fE (sg (fh fo (pv 6) eK (λ_ _=>rfl)) (fh fo (pv 4) eK (λ_ _=>rfl))))))))
 (eM (fj oK)) fu)
 (eJ (eW (i:=7) iC.nd rfl (Or.inr rfl) (eO qx (hr.mono (by decide)) rfl kW.m kW.F.kp kW.b .nil ju (eD (pv 1) (eD (pv 2) eI))))
 (eJ (gA (qe (rZ (fm (B7 rfl) rfl B.all boot_all (eD (mq (fF (pv 5)) rfl lO (.name (by decide)) (λ_ _ _ _=>(eU (i:=0) lO.nd rfl (Or.inl rfl))) (λ_ _ _ _=>g6) (λ_ _ _ _=>(pF (CO (K:=K) rfl hr.units) (pv 0) (pv 1) (by with_unfolding_all rfl)))) eI))))
 (eM (fj oK)) fu)
 (eJ (eW (i:=8) iC.nd rfl (Or.inl rfl) (eO rz (hr.mono (by decide)) rfl kH.m kH.F.kp kH.b .nil ju (eD (pv 0) (eD (eX hE (fh fo (pv 2) eK (λ_ _=>rfl)) eK) eI))))
 (eJ (eW (i:=9) iC.nd rfl (Or.inl rfl) (eO rz (hr.mono (by decide)) rfl kH.m kH.F.kp kH.b .nil ju (eD (pv 1) (eD (eX hE (fh fo (pv 2) eK (λ_ _=>rfl)) eK) eI))))
 (eJ (gA (gN uk (fh fJ (pv 9) eK (λ_ _=>rfl)) fS (jd _))
 (eM (fj (pF uk (fh fJ (pv 8) eK (λ_ _=>rfl)) fS (jd _)))) fu)
 (eM (fj (Gg (pF uk (fh fJ (pv 8) eK (λ_ _=>rfl)) fS (jd _)) (Ey (Ez (ze (fm fq rfl B.len b5 (eD (fh fJ (pv 9) eK (λ_ _=>rfl)) eI)) (fm fq rfl B.len b5 (eD (fh fJ (pv 8) eK (λ_ _=>rfl)) eI))))))))))))))),nm λR1 hR1=>?_⟩
  refine⟨_,rfl,_,rfl,_,rfl,_,_,_,l',s,t,rfl,hv',hu,hg,G'.gI,hne,hz,T',⟨_,go0.wide hj⟩,few,λq n' c' H1 s1 nq hq F'=>hR1 _ _ _ (nm λR2 hR2=>?_)⟩
  obtain⟨x1,x2⟩:=F2.wide hj F'
  refine⟨_,rfl,_,rfl,fP (λz=>absurd z (by simp)) (λ_=>?_)⟩
  refine⟨_,rfl,q,_,_,_,rfl,rfl,SqL.of hq,rfl,_,rfl,hp,_,_,_,rfl,rfl,SqL.of (s1 _ _ hh),rfl,_,_,rfl,rfl,_,rfl,fP (λz=>absurd z (by simp;omega)) (λ_=>?_)⟩
  refine⟨_,rfl,q,_,_,_,rfl,rfl,SqL.of hq,rfl,_,rfl,hp,_,_,_,rfl,rfl,SqL.of (s1 _ _ hh),rfl,_,_,rfl,rfl,_,rfl,fP (λz=>absurd z (by simp;omega)) (λ_=>hR2 _ _ _ (nm λR3 hR3=>?_))⟩
  refine⟨_,rfl,_,rfl,_,_,l',s,rfl,Da.same s1 hv',Da.same s1 hu,G'.gI,hne,hz,T',few,λi q2 bs H2 hi FR=>hR3 _ _ _ (nm λR4 hR4=>?_)⟩
  have S2:=s1.trans FR.same
  have dF:Da K H2 (dLI ((eT l' s i).map (·.1))) (.ref q2):=gR.mpr ⟨q2,_,rfl,SqL.of FR.at_,uX FR.len λi b t hb ht=>(FR.each i b t hb ht).2.2⟩
  refine⟨_,rfl,op,rfl,⟨_,S2.seq hSo⟩,λpl npl=>jj ts (λ_=>true) (λx=>V.bl (decide (x∈(eT l' s i).map (·.1)))) npl (S2.seq hSo) vol (by rw[vol];exact iN (by omega)) ?_ ?_⟩
  ·intro j x d H' hx hd sm P1 P0 k1 k0
   refine iV ?_
   obtain⟨x',hx',dx⟩:=Dgs.get' (Das.same S2 hDo) (i:=j) (d:=dI d) (by rw[aq,hd];rfl)
   rw[hx]at hx'
   cases hx'
   refine⟨_,rfl,_,rfl,_,dI d,Da.same sm dF,Da.same sm dx,zg _,iE _,?_⟩
   show P1 (V.bl ((((eT l' s i).map (·.1)).map dI).any λz=>PyData.eqv z (dI d))) _
   rw[Ft]
   exact k1 rfl
  rw[jv]
  have al:((ts.map λx=>decide (x∈(eT l' s i).map (·.1))).all id)=true:=by
   rw[List.all_eq_true]
   intro y hy
   obtain⟨x,hx,rfl⟩:=ak.mp hy
   obtain⟨ws,gx⟩:=hts x hx
   exact bA (oY G'.gI T' hne hi (gx.wide hj))
  have s3:=eE (o:=.lst (ts.map λx=>V.bl (decide (x∈(eT l' s i).map (·.1))))) npl
  refine⟨pl,ts.map λx=>decide (x∈(eT l' s i).map (·.1)),rfl,SqL.of (by rw[eG,bx];rfl),?_⟩
  rw[al]
  have S3:=S2.trans s3
  generalize upd H2 pl _=H3 at S3 ⊢
  refine⟨_,rfl,fP (λz=>absurd z (by decide)) (λ_=>hR4 _ _ _ (nm λR5 hR5=>?_))⟩
  have n0:0<=s.headD 0/2:=by omega
  have n1:s.headD 0/2<l.1:=by omega
  refine⟨_,rfl,_,rfl,a,_,_,_,rfl,rfl,S3.seq ha,mG hne,_,_,rfl,rfl,⟨by decide,by decide⟩,_,l,_,rfl,Da.same S3 hv,G.gI,n0,n1,⟨λr q run H4 s4 hr4 RA ex mn _=>hR5 _ _ _ (nm λR6 hR6=>?_),λno r x H4 s4 hr4=>hR5 _ _ _ (nm λR6 hR6=>?_)⟩⟩
  ·have S4:=S3.trans s4
   refine⟨_,rfl,_,rfl,a,_,_,_,rfl,rfl,S4.seq ha,mG hne,_,_,rfl,rfl,⟨by decide,by decide⟩,_,l',_,rfl,Da.same S4 hv',G'.gI,n0,by rw[el];exact n1,⟨λr' q' run' H5 s5 hr5 RA' ex' mn' _=>hR6 _ _ _ (nm λR7 hR7=>?_),λno=>absurd ex λ⟨ws,z,_⟩=>no ⟨ws,z.wide hj⟩⟩⟩
   obtain⟨v1,y1,D1⟩:=(RA.same s5).ex
   obtain⟨v2,y2,D2⟩:=RA'.ex
   have z1:v1.length=run.length:=by have:=Dgs.length D1;rw[aa]at this;exact this
   have z2:v2.length=run'.length:=by have:=Dgs.length D2;rw[aa]at this;exact this
   obtain⟨ws,gw,ew⟩:=ex
   have le:=mn' _ (gw.wide hj)
   refine⟨_,rfl,r',_,_,_,rfl,rfl,SqT.of hr5,rfl,rfl,_,rfl,fP (λh=>absurd h (by decide +kernel)) (λ_=>hR7 _ _ _ ?_)⟩
   refine⟨_,rfl,r,_,_,_,rfl,rfl,SqT.of (s5 _ _ hr4),rfl,rfl,_,rfl,fP (λh=>absurd h (by decide +kernel)) (λ_=>?_)⟩
   refine⟨_,rfl,r',_,_,_,rfl,rfl,SqT.of hr5,rfl,q',_,rfl,.inl (SqL.of y2),_,rfl,r,_,_,_,rfl,rfl,SqT.of (s5 _ _ hr4),rfl,q,_,rfl,.inl (SqL.of y1),_,_,rfl,rfl,?_⟩
   have e:decide ((v2.length:Int)<=(v1.length:Int))=true:=bA (by omega)
   show Q (V.bl (decide ((v2.length:Int)<=(v1.length:Int)))) H5
   rw[e]
   exact k _ (S4.trans s5)
  ·have S4:=S3.trans s4
   refine⟨_,rfl,_,rfl,a,_,_,_,rfl,rfl,S4.seq ha,mG hne,_,_,rfl,rfl,⟨by decide,by decide⟩,_,l',_,rfl,Da.same S4 hv',G'.gI,n0,by rw[el];exact n1,⟨λr' q' run' H5 s5 hr5 RA' ex' mn' _=>hR6 _ _ _ (nm λR7 hR7=>?_),λno' r' x' H5 s5 hr5=>hR6 _ _ _ (nm λR7 hR7=>?_)⟩⟩
   ·refine⟨_,rfl,r',_,_,_,rfl,rfl,SqT.of hr5,rfl,rfl,_,rfl,fP (λh=>absurd h (by decide +kernel)) (λ_=>hR7 _ _ _ ?_)⟩
    exact⟨_,rfl,r,_,_,_,rfl,rfl,SqT.of (s5 _ _ hr4),rfl,rfl,_,rfl,fP (λ_=>k _ (S4.trans s5)) (λh=>absurd (by decide +kernel) h)⟩
   ·refine⟨_,rfl,r',_,_,_,rfl,rfl,SqT.of hr5,rfl,rfl,_,rfl,fP (λ_=>?_) (λh=>absurd (by decide +kernel) h)⟩
    refine⟨_,rfl,r,_,_,_,rfl,rfl,SqT.of (s5 _ _ hr4),rfl,rfl,?_⟩
    exact k _ (S4.trans s5)
end
theorem A1 {K:PySem.W.Frag}{H:Hp} :∀ {ds:List (Int×Int)}{vs:List V},Pw (λd v=>Da K H (dP d) v) ds vs->Das K H (ds.map dP) vs
 |[],[],_=>fQ.mpr rfl
 |d::ds,v::vs,h=>Dgs.append (ds:=[dP d]) (vs:=[v]) (Dgs.one h.1) (A1 h.2)
theorem Ee {m:Int}{nm es s:List Int}{js js':List (Int×Int)}(G:ib (m,js))(R:Ren m nm es)(hp:js'.Perm (js.map (rj es)))(T:fT (m,js) s):fT (m,js') (s.map (rho es)):=by
 have en:∀ e∈s,0<=e/\e<2*m:=T.ends
 refine⟨λe he=>?_,?_,λi x y hx hy=>?_⟩
 ·obtain⟨a,ha,rfl⟩:=ak.mp he
  exact R.xZ (en a ha).1 (en a ha).2
 ·have h:=T.nd
  rw[List.Nodup,ef]at h
  rw[bx,List.Nodup,ef]
  refine List.Pairwise.imp_of_mem (λ{a b} ha hb h=>?_) h
  have a1:=en a ha
  have b1:=en b hb
  show rho es a/2≠rho es b/2
  rw[R.oJ a1.1 a1.2,R.oJ b1.1 b1.2]
  exact λz=>h (R.vp (by omega) (by omega) (by omega) (by omega) z)
 ·rw[aq]at hx hy
  obtain⟨a,ha,rfl⟩:=cH.mp hx
  obtain⟨b,hb,rfl⟩:=cH.mp hy
  have a1:=en a (ay ha)
  rw[<-R.oth a1.1 a1.2]
  exact BB G R hp (T.ch i a b ha hb)
def yR (K:PySem.W.Frag):Sp:=λvs H Q _=>∃ (v u g:V) (c:Int) (hp:Addr) (l:Ln) (s t:List Int) (n d i:Nat),vs = [v,u,g,.int c,.ref hp]/\Da K H (dL l) v/\Da K H (dI s) u/\Da K H (dI t) g/\H hp=some (.lst [.int (n:Int),.int (d:Int)])/\ib l/\s≠ []/\s.length<=900/\fT l s/\(eT l s i).length=i/\i<=300/\jm l s t n d/\
 ∀ (H':Hp),eQ H H'->Q (.bl true) H'
abbrev gi:Stmt:=top 53
theorem fU:fk ["_law_line_here","_law_train_here","_law_goal","_law_cell","_law_here","_law_names","_law_ends","_law_piece","_law_flip","_law_joints"] ["_law_line_here","_law_train_here","_law_goal","_law_cell","_law_here"] (eS gi):=⟨rfl,rfl,rfl,by decide +kernel,rfl,by decide +kernel,by decide +kernel⟩
theorem iM:fX (eS gi) ["_law_line_here","_law_train_here","_law_goal","_law_cell","_law_here","_law_names","_law_ends","_law_piece","_law_flip","_law_joints"] {kind:=.function,names:=[(Str.ofString ".0",.local),(Str.ofString "_law_a",.local),(Str.ofString "_law_b",.local),(Str.ofString "min",.globalImplicit),(Str.ofString "max",.globalImplicit),(Str.ofString "_law_ends",.free)],isGenerator:=false,isCoroutine:=false,more:=[]} ["_law_a","_law_b","_law_ends"] 2 [none,none,some 6]:=⟨rfl,by decide +kernel,by decide +kernel,by decide +kernel,rfl,by decide +kernel,rfl,by decide +kernel⟩
theorem jL:fX (eS gi) ["_law_line_here","_law_train_here","_law_goal","_law_cell","_law_here","_law_names","_law_ends","_law_piece","_law_flip","_law_joints"] {kind:=.function,names:=[(Str.ofString ".0",.local),(Str.ofString "_law_end",.local),(Str.ofString "_law_ends",.free)],isGenerator:=false,isCoroutine:=false,more:=[]} ["_law_end","_law_ends"] 1 [none,some 6]:=⟨rfl,by decide +kernel,by decide +kernel,by decide +kernel,rfl,by decide +kernel,rfl,by decide +kernel⟩
theorem jK:fX (eS gi) ["_law_line_here","_law_train_here","_law_goal","_law_cell","_law_here","_law_names","_law_ends","_law_piece","_law_flip","_law_joints"] {kind:=.function,names:=[(Str.ofString ".0",.local),(Str.ofString "_law_end",.local),(Str.ofString "_law_ends",.free)],isGenerator:=false,isCoroutine:=false,more:=[]} ["_law_end","_law_ends"] 1 [none,some 6]:=⟨rfl,by decide +kernel,by decide +kernel,by decide +kernel,rfl,by decide +kernel,rfl,by decide +kernel⟩
section
variable {P:Program}{w:World}{K:PySem.W.Frag}{mg:Str->Option Value}{base:Heap}{f:Addr}{fd:FuncData}
theorem oF {f1 f2 f3:Addr}{fd1 fd2 fd3:FuncData}(F:Fn K mg "_law_same_renamed" gi ["_law_line_here","_law_train_here","_law_goal","_law_cell","_law_here"] f fd)
  (eR:Fn K mg "_law_mix" jq ["_law_cell","_law_k"] f1 fd1) (fB:Fn K mg "_law_turned_row" ij ["_law_number","_law_many"] f2 fd2) (B:Bl mg)
  (ft:Fn K mg "_law_far" kL ["_law_line_here","_law_train_here","_law_goal"] f3 fd3) (gY:eY P w K mg base CX0 7 f3 fd3 ["_law_line_here","_law_train_here","_law_goal"] (uM K)):eY P w K mg base CX0 8 f fd ["_law_line_here","_law_train_here","_law_goal","_law_cell","_law_here"] (yR K):=by
 have fM:eY P w K mg base CX0 1 f1 fd1 ["_law_cell","_law_k"] pZ:=ll eR B
 have jU:eY P w K mg base CX0 1 f2 fd2 ["_law_number","_law_many"] (xW K):=lL fB B
 refine F.F.ok fU (λvs H Q E h=>?_) (λcdv A outer s H vs Q E hr h=>?_)
 ·obtain⟨v,u,g,c,hp,l,s,t,n,d,i,rfl,_⟩:=h;rfl
 ·obtain⟨v,u,g,c,hp,⟨m,js⟩,s,t,nn,d,iw,rfl,hv,hu,hg,hh,G,hne,hz,T,hi,i3,F2,k⟩:=h
  have h1:1<=m:=G.one
  have h14:m<=14:=G.most
  have h40:m<=40:=by omega
  have hjl:js.length<=24:=G.len
  obtain⟨a,b,rfl,hT,us,hl,hq⟩:=j9 hv
  have hT:SqT K H a [.int m,.ref b]:=hT
  have hq:Das K H (js.map dP) us:=hq
  have hul:us.length=js.length:=by rw[Dgs.length hq,aa]
  refine⟨_,(eJ (eW (i:=5) fU.nd rfl (Or.inl rfl) (eO jU (hr.mono (by decide)) rfl fB.m fB.F.kp fB.b .nil fg (eD (eO fM (hr.mono (by decide)) rfl eR.m eR.F.kp eR.b .nil fg (eD (pv 3) (eD eK eI))) (eD (fh fJ (pv 0) eK (λ_ _=>rfl)) eI))))
 (eJ (eW (i:=6) fU.nd rfl (Or.inr rfl) (gj eI))
 (eJ (gU aX rfl (mm rfl B.range (eD (fh fJ (pv 0) eK (λ_ _=>rfl)) eI)) (eU (i:=7) fU.nd rfl (Or.inl rfl))
 (eJ (eW (i:=8) fU.nd rfl (Or.inl rfl) (eX gE (eO fM (hr.mono (by decide)) rfl eR.m eR.F.kp eR.b .nil fg (eD (pv 3) (eD (eX gH eK (pv 7)) eI))) eK))
 (eM (eW (i:=6) fU.nd rfl (Or.inr rfl) (eX kj (pv 6) (gj (eD (eX gH (eX iL eK (fh fo (pv 5) (pv 7) (λ_ _=>rfl))) (pv 8)) (eD (eX vd (eX gH (eX iL eK (fh fo (pv 5) (pv 7) (λ_ _=>rfl))) eK) (pv 8)) eI))))))))
 (eJ (r8 (i:=9) fU.nd rfl rfl (fF (wH (fh fJ (pv 0) eK (λ_ _=>rfl)) (nA kX eK))) rfl iM (.tup (.cons (.name (by decide)) (.cons (.name (by decide)) .nil))) (λ_ _ _ _=>(g7 (n:=2) rfl (fc (eU (i:=0) iM.nd rfl (Or.inl rfl)) (fc (eU (i:=1) iM.nd rfl (Or.inl rfl)) gB)))) (λ_ _ _ _=>g6) (λ_ _ _ _=>(fC (eD (fm (mF rfl) rfl B.min boot_min (eD (fh (mw (K:=K) rfl) (pv 2) (pv 0) (λ_ _=>rfl)) (eD (fh (mw (K:=K) rfl) (pv 2) (pv 1) (λ_ _=>rfl)) eI))) (eD (fm (kQ rfl) rfl B.max boot_max (eD (fh (mw (K:=K) rfl) (pv 2) (pv 0) (λ_ _=>rfl)) (eD (fh (mw (K:=K) rfl) (pv 2) (pv 1) (λ_ _=>rfl)) eI))) eI)))))
 (eM (fj (pF (ve hr.units) (eO gY (hr.mono (by decide)) rfl ft.m ft.F.kp ft.b .nil fg (eD (fC (eD (fh fJ (pv 0) eK (λ_ _=>rfl)) (eD (pv 9) eI))) (eD (mq (fF (pv 1)) rfl jK (.name (by decide)) (λ_ _ _ _=>(eU (i:=0) jK.nd rfl (Or.inl rfl))) (λ_ _ _ _=>g6) (λ_ _ _ _=>(fh (mw (K:=K) rfl) (pv 1) (pv 0) (λ_ _=>rfl)))) (eD (mq (fF (pv 2)) rfl jL (.name (by decide)) (λ_ _ _ _=>(eU (i:=0) jL.nd rfl (Or.inl rfl))) (λ_ _ _ _=>g6) (λ_ _ _ _=>(fh (mw (K:=K) rfl) (pv 1) (pv 0) (λ_ _=>rfl)))) eI)))) (pv 4) (jd _)))))))),nm3 λR1 hR1=>?_⟩
  refine⟨_,rfl,c,0,rfl,by decide,by decide,λn n0 n1=>⟨_,rfl,a,_,_,_,rfl,rfl,hT,rfl,n,m,rfl,by omega,h40,λpn nm H1 s1 hn1 hn2 EK nb nnd=>?_⟩⟩
  refine⟨aO _,λq0 nq0=>?_⟩
  refine⟨_,rfl,a,_,_,_,rfl,rfl,fv (s1.trans (eE nq0)) hT,rfl,m,rfl,by omega,by omega,oZ (λi σ H3=>∃ (q:Addr) (es:List Int) (x6 x7:Option V),σ = [some (.ref a),some u,some g,some (.int c),some (.ref hp),some (.ref pn),some (.ref q),x6,x7,none]/\eQ H1 H3/\H3 q=some (.lst (es.map V.int))/\es.length=2*i/\(∀ j,j<i->∃ f:Int,(f=0\/f=1)/\es[2*j]? = some (2*nm.getD j 0+f)/\es[2*j+1]? = some (2*nm.getD j 0+1-f)))
   ⟨q0,[],none,none,rfl,eE nq0,eG,rfl,λj hj=>absurd hj (df j)⟩ ?_ ?_⟩
  ·rintro i σ H3 N R B kN _ hi ⟨q,es,x6,x7,rfl,S3,hq3,qP,eb⟩
   have i0:(0:Int)+(i:Nat)=(i:Int):=by omega
   rw[i0]
   obtain⟨nx,hnx,BH,hat⟩:=qr (ns:=nm) (i:=(i:Int)) (by omega) (by omega)
   have nbx:=nb nx BH
   have hSn:SqL K H3 pn (nm.map V.int):=SqL.of (S3 _ _ hn2)
   refine⟨_,rfl,_,rfl,_,_,rfl,rfl,c,_,rfl,by show(0:Int)<=1+i;omega,by show 1+(i:Int)<=1000;omega,λn n0 n1=>⟨_,_,rfl,rfl,(by show(0:Int)<_;decide),?_⟩⟩
   refine⟨_,rfl,_,rfl,_,rfl,pn,_,_,_,rfl,rfl,hSn,hat,_,_,rfl,rfl,.inl ⟨by decide,by decide⟩,_,rfl,_,_,rfl,rfl,_,rfl,_,rfl,pn,_,_,_,rfl,rfl,hSn,hat,_,_,rfl,rfl,.inl ⟨by decide,by decide⟩,_,_,rfl,rfl,_,rfl,_,_,rfl,rfl,by show 2<=sizeLine;decide,λq1 nq1=>?_⟩
   refine⟨q,q1,_,_,rfl,rfl,by rw[eL (eN hq3 nq1)];exact hq3,eG,?_,λq2 nq2=>?_⟩
   ·refine bI (iN ?_)
    rw[aa,qP]
    show 2*i+2<=1000
    omega
   refine kN _ _ ⟨q2,es ++ [2*nx+n%2,2*nx+1-n%2],_,_,rfl,S3.trans ((eE nq1).trans (eE nq2)),?_,?_,?_⟩
   ·rw[eG,ax];rfl
   ·rw[ai,qP];show 2*i+2=_;omega
   ·intro j hj
    have BG:nm.getD i 0=nx:=by rw[aG,show i=((i:Int)).toNat by omega,hnx];rfl
    rcases cD.mp hj with z |z
    ·obtain⟨f,hf,e1,e2⟩:=eb j z
     exact⟨f,hf,by rw[aj (by omega)];exact e1,by rw[aj (by omega)];exact e2⟩
    ·subst z
     refine⟨n%2,by omega,?_,?_⟩
     ·rw[aw (by omega),qP,aV,BG];rfl
     ·rw[aw (by omega),qP,show 2*j+1-2*j=1 by omega,BG];rfl
  rintro σ H3 ⟨q,es,x6,x7,rfl,S3,hq3,qP,eb⟩
  have R:Ren m nm es:=⟨EK,nb,nnd,by omega,λj hj=>eb j (by omega)⟩
  have S03:=s1.trans S3
  refine hR1 _ _ _ (TL.nm λR2 hR2=>?_)
  refine⟨_,rfl,a,_,_,_,rfl,rfl,fv S03 hT,rfl,_,rfl,_,rfl,b,us,rfl,rfl,S03.seq hl,λrv nrv=>?_⟩
  have s4:=eE (o:=.lst us.reverse) nrv
  have hrv:=eG (H:=H3) (a:=rv) (o:=.lst us.reverse)
  generalize upd H3 rv _=H4 at s4 hrv ⊢
  have S04:=S03.trans s4
  have hDr:Das K H4 (js.reverse.map dP) us.reverse:=by rw[cu];exact Dgs.rev (Das.same S04 hq)
  have hSr:SqL K H4 rv us.reverse:=SqL.of hrv
  have hq4:=s4 _ _ hq3
  obtain⟨au,rfl,hau⟩:=h9.mp hu
  obtain⟨ag,rfl,hag⟩:=h9.mp hg
  obtain⟨_,g0,_⟩:=F2.a
  obtain⟨T1,l1,ne1⟩:=g0.ok G.gI T hne
  have ix:∀ e:Int,0<=e->e<2*m->atI (es.map V.int) e=some (V.int (rho es e)):=λe e0 e1=>by
   obtain⟨xa,ga,ma,yz⟩:=qr (ns:=es) (i:=e) e0 (by omega)
   rw[yz];unfold rho;rw[aG,ga];rfl
  refine⟨rv,rfl,⟨_,hSr⟩,λpj npj=>Bx js.length (js.reverse.map (rj es)) (λH d v=>Da K H (dP d) v) (λd v s h=>Da.same s h) npj (by rw[aa,bu]) (iN (by omega)) (λi H' s hi=>(pL hSr).go i H' s (by rw[bu];omega)) (λH' s=>by have:=(pL hSr).stop H' s;rw[bu,hul]at this;exact this) ?_ ?_⟩
  ·rintro i x d H5 H6 s5 ⟨uj,hpj⟩ y hd P1 P0 k1
   have hil:i<js.length:=by
    have:=(ah.mp hd).1
    rw[aa,bu]at this
    exact this
   obtain⟨rfl,hx⟩:=(pL hSr).yld i H5 x H6 s5 (by rw[bu];omega) y
   obtain⟨ad,⟨ea,eb'⟩,e1,rfl,hpr⟩:=mC (Das.same s5 hDr) hx
   dsimp only at hpr
   have hbd:=G.ok (ea,eb') (ez.mp (ay e1))
   unfold okJ at hbd
   dsimp only at hbd
   have yz:=ix ea hbd.1.1 hbd.1.2
   have BL:=ix eb' hbd.2.1.1 hbd.2.1.2
   rw[aq,e1]at hd
   have hd:rj es (ea,eb')=d:=by simpa using hd
   have hSe:SqL K H6 q (es.map V.int):=SqL.of (s5 _ _ hq4)
   refine⟨ad,_,rfl,hpr,rfl,_,_,rfl,_,_,rfl,rfl,DE ?_⟩
   refine⟨_,rfl,_,rfl,q,_,_,_,rfl,rfl,hSe,yz,_,rfl,_,rfl,q,_,_,_,rfl,rfl,hSe,BL,_,_,rfl,?_⟩
   refine⟨_,rfl,_,rfl,q,_,_,_,rfl,rfl,hSe,yz,_,rfl,_,rfl,q,_,_,_,rfl,rfl,hSe,BL,_,_,rfl,by show 2<=sizeLine;decide,λp1 n1=>?_⟩
   rw[sC,qj]
   refine k1 _ _ (eE n1) ?_
   rw[<-hd]
   exact gT.mpr ⟨p1,_,rfl,SqT.of (by rw[fV (bB (eN hpj n1)),eG];rfl),Dgs.two (gS.mpr rfl) (gS.mpr rfl)⟩
  intro vs H5 s5 hpj PW
  have pm:(js.reverse.map (rj es)).Perm (js.map (rj es)):=(List.reverse_perm js).map _
  have S5:=S04.trans s5
  have dJ5:Da K H5 (dJ (js.reverse.map (rj es))) (.ref pj):=gR.mpr ⟨pj,vs,rfl,SqL.of hpj,Das.same iF (A1 PW)⟩
  have hq5:=s5 _ _ hq4
  refine hR2 _ _ _ ?_
  refine⟨_,rfl,a,_,_,_,rfl,rfl,fv S5 hT,rfl,_,rfl,by show 2<=sizeLine;decide,λpt npt=>?_⟩
  have s6:=eE (o:=.tup [.int m,.ref pj]) npt
  have hpt:=eG (H:=H5) (a:=pt) (o:=.tup [.int m,.ref pj])
  generalize upd H5 pt _=H6 at s6 hpt ⊢
  have S6:=S5.trans s6
  refine⟨_,rfl,au,rfl,⟨_,S6.seq hau⟩,λp2 n2=>jj s (λ_=>true) (λe=>V.int (rho es e)) n2 (S6.seq hau) (by rw[aa]) (by rw[aa];exact iN (by omega)) ?_ ?_⟩
  ·intro j x e H7 hx hd sm P1 P0 k1 k0
   rw[aq,hd]at hx
   cases hx
   have he:=T.ends e (ay hd)
   refine iV ?_
   exact⟨_,rfl,_,rfl,q,_,_,_,rfl,rfl,SqL.of (sm _ _ (s6 _ _ hq5)),ix e he.1 he.2,k1 rfl⟩
  rw[jv]
  have s7:=eE (o:=.lst (s.map λe=>V.int (rho es e))) n2
  have hp2:=eG (H:=H6) (a:=p2) (o:=.lst (s.map λe=>V.int (rho es e)))
  generalize upd H6 p2 _=H7 at s7 hp2 ⊢
  have S7:=S6.trans s7
  refine⟨_,rfl,ag,rfl,⟨_,S7.seq hag⟩,λp3 n3=>jj t (λ_=>true) (λe=>V.int (rho es e)) n3 (S7.seq hag) (by rw[aa]) (by rw[aa];exact iN (by omega)) ?_ ?_⟩
  ·intro j x e H8 hx hd sm P1 P0 k1 k0
   rw[aq,hd]at hx
   cases hx
   have he:=T1.ends e (ay hd)
   refine iV ?_
   exact⟨_,rfl,_,rfl,q,_,_,_,rfl,rfl,SqL.of (sm _ _ (s7 _ _ (s6 _ _ hq5))),ix e he.1 he.2,k1 rfl⟩
  rw[jv]
  have s8:=eE (o:=.lst (t.map λe=>V.int (rho es e))) n3
  have hp3:=eG (H:=H7) (a:=p3) (o:=.lst (t.map λe=>V.int (rho es e)))
  generalize upd H7 p3 _=H8 at s8 hp3 ⊢
  have em:∀ x:List Int,(x.map λe=>V.int (rho es e))=(x.map (rho es)).map V.int:=λx=>by rw[bx];rfl
  rw[em]at hp2 hp3
  have G':ib (m,js.reverse.map (rj es)):=R.line G pm
  have F2':=F2.ren G R pm T hne
  have T':fT (m,js.reverse.map (rj es)) (s.map (rho es)):=Ee G R pm T
  have qm:s.map (rho es)≠ []:=λz=>hne (List.map_eq_nil_iff.mp z)
  obtain⟨w1,g1,_⟩:=F2'.a
  refine⟨_,_,_,(m,js.reverse.map (rj es)),s.map (rho es),t.map (rho es),rfl,mD ((s7.trans s8) _ _ hpt) (Da.same (s6.trans (s7.trans s8)) dJ5),fD (s8 _ _ hp2),fD hp3,G'.gI,qm,by rw[aa];exact hz,T',⟨w1,g1⟩,λj=>?_,λq9 n' c' H9 s9 nq9 hq9 F9=>?_⟩
  ·refine bz (uG G.gI T hne hi G'.gI T' qm (λx=>x.map (rho es)) (λws t' h=>?_) j) i3
   obtain⟨x,e,gx⟩:=Go.F4 G R pm T hne h
   exact⟨ws,x,gx,e⟩
  ·obtain⟨e1,e2⟩:=F2'.one F9
   rw[<-e1,<-e2]at hq9
   have S9:=S7.trans (s8.trans s9)
   refine⟨_,rfl,dI [(nn:Int),(d:Int)],dI [(nn:Int),(d:Int)],fD hq9,fD (S9 _ _ hh),iE _,iE _,?_⟩
   rw[ux,bA rfl]
   exact k _ S9
end
def uJ (K:PySem.W.Frag):Sp:=λvs H Q _=>∃ (a:Addr) (ns:List Int),vs = [.ref a]/\SqL K H a (ns.map V.int)/\∀ H',Q (.bl true) H'
theorem wN {H:Hp}{pd:Addr}{as:List Addr}{es:List Ent}(O:qu H pd as es)(h1:1<=es.length)(n:Int):∃ b t,atI (as.map V.ref) (n%((as.map V.ref).length:Int))=some (V.ref b)/\H b=some (.lst (t.map V.int))/\t∈es.map (·.1):=by
 have hl:as.length=es.length:=O.len
 have r0:0<=n%((as.map V.ref).length:Int):=bQ _ (by rw[aa];omega)
 have r1:n%((as.map V.ref).length:Int)<((as.map V.ref).length:Int):=bK _ (by rw[aa];omega)
 generalize n%((as.map V.ref).length:Int)=j at r0 r1
 rw[aa]at r1
 have hj:j.toNat<es.length:=by omega
 obtain⟨b,hb,_,h⟩:=O.get (af hj)
 exact⟨b,_,qq r0 (by rw[aq,hb];rfl),h,ak.mpr ⟨_,List.getElem_mem hj,rfl⟩⟩
theorem CT:OkD .none:=⟨rfl,by simp[PyData.depth]⟩
theorem CY (ss:List (List Int)):((ss.map dI).any λz=>PyData.eqv z .none)=false:=by
 rw[List.any_eq_false]
 intro x hx
 obtain⟨y,_,rfl⟩:=ak.mp hx
 simp[dI,PyData.eqv]
abbrev t7:Stmt:=top 56
theorem kZ:fk ["_law_script","_law_line_here","_law_one","_law_order","_law_two","_law_three","_law_kept","_law_here","_law_there","_law_over","_law_wide"] ["_law_script"] (eS t7):=⟨rfl,rfl,rfl,by decide +kernel,rfl,by decide +kernel,by decide +kernel⟩
section
variable {P:Program}{w:World}{K:PySem.W.Frag}{mg:Str->Option Value}{base:Heap}{f:Addr}{fd:FuncData}
set_option maxHeartbeats 16000000 in
theorem ED {f1 f2 f3 f4 f5 f6 f7 f8 f9 f10 f11:Addr}{fd1 fd2 fd3 fd4 fd5 fd6 fd7 fd8 fd9 GZ GY:FuncData}(F:Fn K mg "law" t7 ["_law_script"] f fd)(B:Bm mg)
  (jW:Fn K mg "_law_line" mS ["_law_script"] f1 fd1) (o5:eY P w K mg base CX0 3 f1 fd1 ["_law_script"] (yU K))
  (eV:Fn K mg "_law_cell_at" jg ["_law_script","_law_k"] f2 fd2) (eR:Fn K mg "_law_mix" jq ["_law_cell","_law_k"] f3 fd3)
  (jy:Fn K mg "_law_train" jo ["_law_line_here","_law_cell","_law_length"] f4 fd4) (nU:eY P w K mg base CX0 2 f4 fd4 ["_law_line_here","_law_cell","_law_length"] (wg K))
  (jc:Fn K mg "_law_web" og ["_law_line_here","_law_train_here"] f5 fd5) (oC:eY P w K mg base CX0 3 f5 fd5 ["_law_line_here","_law_train_here"] (AR K))
  (ft:Fn K mg "_law_far" kL ["_law_line_here","_law_train_here","_law_goal"] f6 fd6) (gY:eY P w K mg base CX0 7 f6 fd6 ["_law_line_here","_law_train_here","_law_goal"] (uM K))
  (g9:Fn K mg "turned" me ["train"] f7 fd7) (mI:eY P w K mg base CX0 2 f7 fd7 ["train"] (rM K))
  (gZ:Fn K mg "_law_leads_back" iZ ["_law_line_here","_law_train_here","_law_goal"] f8 fd8) (jV:eY P w K mg base CX0 7 f8 fd8 ["_law_line_here","_law_train_here","_law_goal"] (wj K))
  (gK:Fn K mg "_law_same_renamed" gi ["_law_line_here","_law_train_here","_law_goal","_law_cell","_law_here"] f9 fd9) (jl:eY P w K mg base CX0 8 f9 fd9 ["_law_line_here","_law_train_here","_law_goal","_law_cell","_law_here"] (yR K))
  (jx:Fn K mg "_law_wider" lK ["_law_line_here","_law_number"] f10 GZ) (nT:eY P w K mg base CX0 1 f10 GZ ["_law_line_here","_law_number"] (wc K))
  (il:Fn K mg "_law_no_worse" iU ["_law_line_here","_law_wide","_law_train_here","_law_goal","_law_here","_law_order"] f11 GY) (lE:eY P w K mg base CX0 8 f11 GY ["_law_line_here","_law_wide","_law_train_here","_law_goal","_law_here","_law_order"] (wb K)):
  eY P w K mg base CX0 9 f fd ["_law_script"] (uJ K):=by
 have fM:eY P w K mg base CX0 1 f3 fd3 ["_law_cell","_law_k"] pZ:=ll eR B.toBl
 have gz:eY P w K mg base CX0 1 f2 fd2 ["_law_script","_law_k"] (uN K):=nE eV B.toBl
 refine F.F.ok kZ (λvs H Q E h=>?_) (λcdv A outer s H vs Q E hr h=>?_)
 ·obtain⟨a,ns,rfl,_⟩:=h;rfl
 ·obtain⟨a,ns,rfl,hS,k⟩:=h
  refine⟨_,(eJ (eW (i:=1) kZ.nd rfl (Or.inl rfl) (eO o5 (hr.mono (by decide)) rfl jW.m jW.F.kp jW.b .nil fg (eD (pv 0) eI)))
 (eJ (eW (i:=2) kZ.nd rfl (Or.inl rfl) (eO nU (hr.mono (by decide)) rfl jy.m jy.F.kp jy.b .nil fg (eD (pv 1) (eD (eO gz (hr.mono (by decide)) rfl eV.m eV.F.kp eV.b .nil fg (eD (pv 0) (eD eK eI))) (eD (eX gH eK (eX gE (eO fM (hr.mono (by decide)) rfl eR.m eR.F.kp eR.b .nil fg (eD (eO gz (hr.mono (by decide)) rfl eV.m eV.F.kp eV.b .nil fg (eD (pv 0) (eD eK eI))) (eD eK eI))) eK)) eI)))))
 (eJ (eW (i:=3) kZ.nd rfl (Or.inl rfl) (fh fJ (eO oC (hr.mono (by decide)) rfl jc.m jc.F.kp jc.b .nil fg (eD (pv 1) (eD (pv 2) eI))) eK (λ_ _=>rfl)))
 (eJ (gA (fE (sg (fm fq rfl B.len b5 (eD (pv 3) eI)) eK))
 (eM (fj oK)) fu)
 (eJ (eW (i:=4) kZ.nd rfl (Or.inl rfl) (fh fo (pv 3) (eX gE (eO fM (hr.mono (by decide)) rfl eR.m eR.F.kp eR.b .nil fg (eD (eO gz (hr.mono (by decide)) rfl eV.m eV.F.kp eV.b .nil fg (eD (pv 0) (eD eK eI))) (eD eK eI))) (fm fq rfl B.len b5 (eD (pv 3) eI))) (λ_ _=>rfl)))
 (eJ (eW (i:=5) kZ.nd rfl (Or.inl rfl) (fh fo (pv 3) (eX gE (eO fM (hr.mono (by decide)) rfl eR.m eR.F.kp eR.b .nil fg (eD (eO gz (hr.mono (by decide)) rfl eV.m eV.F.kp eV.b .nil fg (eD (pv 0) (eD eK eI))) (eD eK eI))) (fm fq rfl B.len b5 (eD (pv 3) eI))) (λ_ _=>rfl)))
 (eJ (eW (i:=6) kZ.nd rfl (Or.inl rfl) (fC (eD (fh fJ (pv 1) eK (λ_ _=>rfl)) (eD (fL iA rfl B.list dE (eD (fh fJ (pv 1) eK (λ_ _=>rfl)) eI)) eI))))
 (eJ (eW (i:=7) kZ.nd rfl (Or.inl rfl) (eO gY (hr.mono (by decide)) rfl ft.m ft.F.kp ft.b .nil fg (eD (pv 1) (eD (pv 2) (eD (pv 4) eI)))))
 (eJ (eW (i:=8) kZ.nd rfl (Or.inl rfl) (eO gY (hr.mono (by decide)) rfl ft.m ft.F.kp ft.b .nil fg (eD (pv 1) (eD (pv 4) (eD (pv 5) eI)))))
 (eJ (eW (i:=9) kZ.nd rfl (Or.inl rfl) (eO gY (hr.mono (by decide)) rfl ft.m ft.F.kp ft.b .nil fg (eD (pv 1) (eD (pv 2) (eD (pv 5) eI)))))
 (eJ (gA (PW.pt (nz (gN (yi hr.units) se (gj (eD (pv 7) (eD (pv 8) (eD (pv 9) eI)))) (by with_unfolding_all rfl)) (nz (fE (sg (fh fo (pv 9) eK (λ_ _=>rfl)) (eX gH (fh fo (pv 7) eK (λ_ _=>rfl)) (fh fo (pv 8) eK (λ_ _=>rfl))))) (ny (fE (sg (fh fo (pv 9) eK (λ_ _=>rfl)) (eX gH (eX gH (fh fo (pv 7) eK (λ_ _=>rfl)) (fh fo (pv 8) eK (λ_ _=>rfl))) eK)))))))
 (eM (fj oK)) fu)
 (eJ (gA (PW.pt (nz (fE (sg (fh fo (pv 7) eK (λ_ _=>rfl)) (fm (kQ rfl) rfl B.max boot_max (eD eK (eD (eX vd (fh fo (pv 7) eK (λ_ _=>rfl)) eK) eI))))) (ny (gN (yh hr.units) (eO gY (hr.mono (by decide)) rfl ft.m ft.F.kp ft.b .nil fg (eD (pv 1) (eD (pv 4) (eD (pv 2) eI)))) (pv 7) (jd _)))))
 (eM (fj oK)) fu)
 (eJ (gA (PW.pt (nz (gN (yh hr.units) (eO gY (hr.mono (by decide)) rfl ft.m ft.F.kp ft.b .nil fg (eD (pv 1) (eD (eO mI (hr.mono (by decide)) rfl g9.m g9.F.kp g9.b .nil fg (eD (pv 2) eI)) (eD (eO mI (hr.mono (by decide)) rfl g9.m g9.F.kp g9.b .nil fg (eD (pv 4) eI)) eI)))) (pv 7) (jd _)) (ny (qe (rZ (eO jV (hr.mono (by decide)) rfl gZ.m gZ.F.kp gZ.b .nil fg (eD (pv 1) (eD (pv 2) (eD (pv 4) eI)))))))))
 (eM (fj oK)) fu)
 (eJ (gA (qe (rZ (eO jl (hr.mono (by decide)) rfl gK.m gK.F.kp gK.b .nil fg (eD (pv 1) (eD (pv 2) (eD (pv 4) (eD (eO gz (hr.mono (by decide)) rfl eV.m eV.F.kp eV.b .nil fg (eD (pv 0) (eD eK eI))) (eD (pv 7) eI))))))))
 (eM (fj oK)) fu)
 (eJ (eW (i:=10) kZ.nd rfl (Or.inl rfl) (eO nT (hr.mono (by decide)) rfl jx.m jx.F.kp jx.b .nil fg (eD (pv 1) (eD (eO fM (hr.mono (by decide)) rfl eR.m eR.F.kp eR.b .nil fg (eD (eO gz (hr.mono (by decide)) rfl eV.m eV.F.kp eV.b .nil fg (eD (pv 0) (eD eK eI))) (eD eK eI))) eI))))
 (eJ (gA (PW.pt (rW (fE (ze (fm fq rfl B.len b5 (eD (fh fJ (eO oC (hr.mono (by decide)) rfl jc.m jc.F.kp jc.b .nil fg (eD (pv 10) (eD (pv 2) eI))) eK (λ_ _=>rfl)) eI)) eK)) (qV (qe (rZ (eO lE (hr.mono (by decide)) rfl il.m il.F.kp il.b .nil fg (eD (pv 1) (eD (pv 10) (eD (pv 2) (eD (pv 4) (eD (pv 7) (eD (pv 3) eI))))))))))))
 (eM (fj oK)) fu)
 (eM (fj (pF (ve hr.units) (pv 1) (pv 6) (jd _)))))))))))))))))))),nm3 λR1 hR1=>?_⟩
  refine⟨_,rfl,a,ns,rfl,hS,λv l H1 s1 hv G=>?_⟩
  have ok:=G.gI
  obtain⟨al,bl,rfl,hlt,us,hll,hlq⟩:=j9 hv
  refine⟨_,rfl,_,rfl,a,ns,10,rfl,s1.seq hS,by decide,λc10=>⟨_,rfl,a,ns,11,rfl,s1.seq hS,by decide,λc11=>⟨c11,0,rfl,by decide,by decide,λn0 h00 h01=>?_⟩⟩⟩
  refine⟨_,_,rfl,rfl,(by show(0:Int)<4;decide),_,_,rfl,rfl,?_⟩
  refine⟨_,l,c10,_,rfl,hv,ok,by show 0<=1+n0%4;omega,by show 1+n0%4<=40;omega,λp tr H4 s4 hp hp2 hne tl tn T=>?_⟩
  have tl6:tr.length<=6:=by
   have:(tr.length:Int)<=max 1 (1+n0%4):=tn
   omega
  refine⟨_,rfl,_,rfl,_,p,l,tr,rfl,Da.same s4 hv,hp2,ok,hne,tl6,T,λi tt pd dd as H5 hi s5 htt O5 _=>?_⟩
  refine⟨tt,_,_,_,rfl,rfl,SqT.of htt,rfl,hR1 _ _ _ (nm3 λR2 hR2=>?_)⟩
  have S5:=s1.trans (s4.trans s5)
  have hS5:=S5.seq hS
  have dl5:Da K H5 (dL l) (.ref al):=Da.same (s4.trans s5) hv
  have Ff:=fv (s4.trans s5) hlt
  have GL:=(s4.trans s5).seq hll
  have GJ:=Das.same (s4.trans s5) hlq
  have hp5:=s5 _ _ hp2
  have e1:1<=(eT l tr i).length:=by
   have:=(kd ok T hne hi).2.1
   obtain⟨e,he,_⟩:=ak.mp this
   exact List.length_pos_of_mem he
  have hO5:=SqL.of (K:=K) O5.at_
  have al1:(0:Int)<((as.map V.ref).length:Int):=by rw[aa,O5.len];omega
  clear S5 hv hlt hll hlq hp2 htt s5 s4 s1 hS
  refine⟨_,rfl,pd,_,rfl,.inl hO5,_,_,rfl,rfl,_,rfl,fP (λ_=>k _) (λh=>?_)⟩
  have i2:i<=200:=by
   have h:¬(200<((as.map V.ref).length:Int)):=by simpa using h
   rw[aa,O5.len,hi]at h
   omega
  clear h
  have few:∀ j,(eT l tr j).length<=300:=λj=>bz (AF hi j) (by omega)
  refine⟨_,rfl,_,rfl,a,ns,11,rfl,hS5,by decide,λc11=>⟨c11,1,rfl,by decide,by decide,λn1 _ _=>?_⟩⟩
  obtain⟨b2,t2,at2,hb2,m2⟩:=wN O5 e1 n1
  refine⟨_,rfl,pd,_,rfl,.inl hO5,_,_,rfl,rfl,al1,pd,_,_,V.ref b2,rfl,rfl,hO5,at2,?_⟩
  refine⟨_,rfl,_,rfl,a,ns,11,rfl,hS5,by decide,λc11=>⟨c11,2,rfl,by decide,by decide,λn2 _ _=>?_⟩⟩
  obtain⟨b3,t3,at3,hb3,m3⟩:=wN O5 e1 n2
  refine⟨_,rfl,pd,_,rfl,.inl hO5,_,_,rfl,rfl,al1,pd,_,_,V.ref b3,rfl,rfl,hO5,at3,hR2 _ _ _ (nm λR3 hR3=>?_)⟩
  obtain⟨g2,go2⟩:∃ ws,Go l tr ws t2:=by
   obtain⟨e,he,rfl⟩:=ak.mp m2
   exact uF i e he
  obtain⟨g3,go3⟩:∃ ws,Go l tr ws t3:=by
   obtain⟨e,he,rfl⟩:=ak.mp m3
   exact uF i e he
  obtain⟨T2,l2,ne2⟩:=go2.ok ok T hne
  have GX:∀ j,(eT l t2 j).length<=300:=λj=>bz (uG ok T hne hi ok T2 ne2 id (λws t' h=>⟨_,t',go2.trans h,rfl⟩) j) (by omega)
  have GU:Go l t2 (g2.reverse.map ow++g3) t3:=(go2.oQ ok T hne).trans go3
  clear at2 at3 m2 m3
  refine⟨_,rfl,al,_,_,_,rfl,rfl,Ff,rfl,_,rfl,al,_,_,_,rfl,rfl,Ff,rfl,bl,us,rfl,.inl GL,λq1 nq1=>⟨by show 2<=sizeLine;decide,λq2 nq2=>?_⟩⟩
  have u1:=eE (o:=.lst us) nq1
  have u2:=eE (o:=.tup [.int l.1,.ref q1]) nq2
  have S6:=u1.trans u2
  have dk:Da K (upd (upd H5 q1 (.lst us)) q2 (.tup [.int l.1,.ref q1])) (dL l) (.ref q2):=mD eG (gR.mpr ⟨q1,us,rfl,SqL.of (u2 _ _ eG),Das.same S6 GJ⟩)
  generalize upd (upd H5 q1 (.lst us)) q2 _=H6 at S6 dk ⊢
  clear u1 u2 Ff GL GJ
  refine hR3 _ _ _ (nm3 λR4 hR4=>?_)
  refine⟨_,rfl,_,rfl,_,rfl,_,_,_,l,tr,t2,rfl,Da.same S6 dl5,fD (S6 _ _ hp5),fD (S6 _ _ hb2),ok,hne,by omega,T,⟨_,go2⟩,few,λq7 n c H7 s7 _ hq7 F7=>?_⟩
  have S7:=S6.trans s7
  refine⟨_,rfl,_,rfl,_,rfl,_,_,_,l,t2,t3,rfl,Da.same S7 dl5,fD (S7 _ _ hb2),fD (S7 _ _ hb3),ok,ne2,by omega,T2,⟨_,GU⟩,GX,λq8 n' c' H8 s8 _ hq8 F8=>?_⟩
  have S8:=S7.trans s8
  refine⟨_,rfl,_,rfl,_,rfl,_,_,_,l,tr,t3,rfl,Da.same S8 dl5,fD (S8 _ _ hp5),fD (S8 _ _ hb3),ok,hne,by omega,T,⟨_,go3⟩,few,λq9 n'' c'' H9 s9 _ hq9 F9=>hR4 _ _ _ (nm λR5 hR5=>?_)⟩
  have S9:=S8.trans s9
  have dk9:=Da.same (s7.trans (s8.trans s9)) dk
  have hq7:=(s8.trans s9) _ _ hq7
  have hq8:=s9 _ _ hq8
  obtain⟨x1,x2⟩:=F7.tri F8 F9
  have x3:=F7.le
  clear dk s7 s8 s9 S6 S7 S8 F8 F9 GU
  refine⟨_,rfl,_,rfl,_,rfl,by show 3<=sizeLine;decide,λp3 np3=>?_⟩
  have s10:=eE (o:=.lst [V.ref q7,V.ref q8,V.ref q9]) np3
  have hp3:=eG (H:=H9) (a:=p3) (o:=.lst [V.ref q7,V.ref q8,V.ref q9])
  generalize upd H9 p3 _=H10 at s10 hp3 ⊢
  have S10:=S9.trans s10
  have hq7:=s10 _ _ hq7
  have hq8:=s10 _ _ hq8
  have hq9:=s10 _ _ hq9
  have He:=Da.same s10 dk9
  clear s10 S9 dk9
  refine⟨[[(n:Int),(c:Int)],[(n':Int),(c':Int)],[(n'':Int),(c'':Int)]].map dI,.none,gR.mpr ⟨p3,_,rfl,SqL.of hp3,fy.mpr ⟨_,_,rfl,fD hq7,Dgs.two (fD hq8) (fD hq9)⟩⟩,(by simp only[Dg]),zg _,CT,?_⟩
  rw[CY]
  refine⟨_,rfl,fP (λz=>absurd z (by decide)) (λ_=>?_)⟩
  have q7l:=SqL.of (K:=K) hq7
  have q8l:=SqL.of (K:=K) hq8
  have q9l:=SqL.of (K:=K) hq9
  refine⟨_,rfl,q9,_,_,_,rfl,rfl,q9l,rfl,_,rfl,q7,_,_,_,rfl,rfl,q7l,rfl,_,rfl,q8,_,_,_,rfl,rfl,q8l,rfl,_,_,rfl,rfl,_,_,rfl,rfl,_,rfl,fP (λz=>absurd z (by simp;omega)) (λ_=>?_)⟩
  refine⟨_,rfl,q9,_,_,_,rfl,rfl,q9l,rfl,_,rfl,q7,_,_,_,rfl,rfl,q7l,rfl,_,rfl,q8,_,_,_,rfl,rfl,q8l,rfl,_,_,rfl,rfl,_,_,rfl,rfl,_,_,rfl,rfl,_,rfl,fP (λz=>absurd z (by simp;omega)) (λ_=>hR5 _ _ _ (nm λR6 hR6=>?_))⟩
  clear q8l q9l hq8 hq9 hp3 x1 x2 hb3 go3
  refine⟨_,rfl,q7,_,_,_,rfl,rfl,q7l,rfl,_,rfl,q7,_,_,_,rfl,rfl,q7l,rfl,_,_,rfl,rfl,_,_,rfl,_,_,rfl,rfl,_,rfl,fP (λz=>?_) (λ_=>?_)⟩
  ·rw[qj]at z
   have z:max 0 ((n:Int)-1)<(c:Int):=by simpa using z
   omega
  refine⟨_,rfl,_,rfl,_,rfl,_,_,_,l,t2,tr,rfl,Da.same S10 dl5,fD (S10 _ _ hb2),fD (S10 _ _ hp5),ok,ne2,by omega,T2,⟨_,go2.oQ ok T hne⟩,GX,λqa na ca H11 s11 _ hqa Fa=>?_⟩
  obtain⟨e1,e2⟩:=(F7.oQ ok T hne).one Fa
  rw[<-e1,<-e2]at hqa
  have S11:=S10.trans s11
  have hq7:=s11 _ _ hq7
  have Hd:=Da.same s11 He
  refine⟨_,rfl,dI [(n:Int),(c:Int)],dI [(n:Int),(c:Int)],fD hqa,fD hq7,iE _,iE _,_,rfl,?_⟩
  rw[ux,bA rfl]
  refine fP (λz=>absurd z (by decide)) (λ_=>hR6 _ _ _ (nm λR7 hR7=>?_))
  clear s11 S10 He hqa Fa e1 e2 q7l
  refine⟨_,rfl,_,rfl,_,tr,rfl,fD (S11 _ _ hp5),by omega,λqb H12 s12 _ hqb=>?_⟩
  refine⟨_,rfl,_,t2,rfl,fD (s12 _ _ (S11 _ _ hb2)),by omega,λqc H13 s13 _ hqc=>?_⟩
  have S13:=S11.trans (s12.trans s13)
  have F13:=F7.turn ok T hne
  obtain⟨w13,g13,_⟩:=F13.a
  refine⟨_,_,_,l,_,_,rfl,Da.same S13 dl5,fD (s13 _ _ hqb),fD hqc,ok,by simpa using hne,by simp;omega,nY ok T,⟨_,g13⟩,λj=>?_,λqd nd cd H14 s14 _ hqd Fd=>?_⟩
  ·refine bz (uG ok T hne hi ok (nY ok T) (by simpa using hne) (λx=>x.reverse.map oth) (λws t' h=>?_) j) (by omega)
   have g:=h.turn ok (nY ok T) (by simpa using hne)
   rw[pg]at g
   exact⟨_,_,g,(pg t').symm⟩
  obtain⟨e1,e2⟩:=F13.one Fd
  rw[<-e1,<-e2]at hqd
  have S14:=S13.trans s14
  have El:=s12.trans (s13.trans s14)
  have hq7:=El _ _ hq7
  have Hc:=Da.same El Hd
  refine⟨_,rfl,dI [(n:Int),(c:Int)],dI [(n:Int),(c:Int)],fD hqd,fD hq7,iE _,iE _,_,rfl,?_⟩
  rw[ux,bA rfl]
  refine fP (λz=>absurd z (by decide)) (λ_=>?_)
  clear El s14 s13 s12 S13 S11 Hd hqd Fd e1 e2 F13 hqb hqc
  refine⟨_,rfl,_,rfl,_,rfl,_,_,_,l,tr,t2,rfl,Da.same S14 dl5,fD (S14 _ _ hp5),fD (S14 _ _ hb2),ok,hne,by omega,T,⟨_,go2⟩,few,λH15 s15=>⟨_,rfl,fP (λz=>absurd z (by decide)) (λ_=>hR7 _ _ _ (nm3 λR8 hR8=>?_))⟩⟩
  have S15:=S14.trans s15
  have hq7:=s15 _ _ hq7
  have Hb:=Da.same s15 Hc
  clear s15 S14 Hc
  refine⟨_,rfl,_,rfl,_,rfl,_,rfl,a,ns,12,rfl,S15.seq hS5,by decide,λc12=>⟨_,rfl,_,_,_,c12,q7,l,tr,t2,n,c,i,rfl,Da.same S15 dl5,fD (S15 _ _ hp5),fD (S15 _ _ hb2),hq7,G,hne,by omega,T,hi,by omega,F7,λH16 s16=>⟨_,rfl,fP (λz=>absurd z (by decide)) (λ_=>?_)⟩⟩⟩
  have S16:=S15.trans s16
  have hq7:=s16 _ _ hq7
  have Ha:=Da.same s16 Hb
  clear s16 S15 Hb
  refine⟨_,rfl,_,rfl,a,ns,13,rfl,S16.seq hS5,by decide,λc13=>⟨c13,0,rfl,by decide,by decide,λn9 _ _=>⟨_,l,n9,rfl,Da.same S16 dl5,G,λv' l' H17 s17 dv' G' el hJ=>?_⟩⟩⟩
  have S17:=S16.trans s17
  have hq7:=s17 _ _ hq7
  have G5:=Da.same s17 Ha
  clear s17 S16 Ha
  have T':=Ct T el (yN G G' hJ)
  refine⟨_,rfl,_,rfl,_,p,l',tr,rfl,dv',S17 _ _ hp5,G'.gI,hne,tl6,T',λi' tt' pd' dd' as' H18 hi' s18 Lw O18 _=>?_⟩
  have S18:=S17.trans s18
  have hq7:=s18 _ _ hq7
  have G4:=Da.same s18 G5
  have LP:=Da.same s18 dv'
  clear s18 S17 G5 dv'
  refine⟨tt',_,_,_,rfl,rfl,SqT.of Lw,rfl,pd',_,rfl,.inl (SqL.of O18.at_),_,_,rfl,rfl,_,rfl,fP (λh=>?_) (λ_=>hR8 _ _ _ ?_)⟩
  ·have i3:i'<=200:=by
    have h:((as'.map V.ref).length:Int)<=200:=by simpa using h
    rw[aa,O18.len,hi']at h
    omega
   refine⟨_,rfl,_,rfl,_,rfl,_,rfl,_,rfl,_,rfl,_,_,_,_,q7,pd,l,l',tr,t2,n,c,(eT l tr i).map (·.1),rfl,Da.same S18 dl5,LP,fD (S18 _ _ hp5),fD (S18 _ _ hb2),hq7,Da.same S18 O5.da,G,G',el,hJ,hne,by omega,T,T',λj=>bz (AF hi' j) (by omega),F7,λx hx=>?_,by rw[aa];omega,λH19 s19=>⟨_,rfl,fP (λz=>absurd z (by decide)) (λ_=>hR8 _ _ _ ?_)⟩⟩
   ·obtain⟨e,he,rfl⟩:=ak.mp hx
    exact uF i e he
   refine⟨_,rfl,_,rfl,dL l,dL l,Da.same (S18.trans s19) dl5,Da.same s19 G4,uq _,uq _,?_⟩
   rw[xp (uq _)]
   exact k _
  ·refine⟨_,rfl,_,rfl,dL l,dL l,Da.same S18 dl5,G4,uq _,uq _,?_⟩
   rw[xp (uq _)]
   exact k _
end
structure En (K:PySem.W.Frag)(x:Str)(st:Stmt)(f:Addr)(oc:Value)(od:Option Addr)(osl:Array (Option Value))(kV doc pm:Value)(an:Option Addr)(cdv ct:Value):Prop where
 a:PySem.W.nsIn K mainGlobals x=some (some (.ref f))
 l:K.lookup f=some ⟨oc,od,.func (PySem.W.fnOf x x (lN st) (j8 st) (eS st) .none kV doc pm an cdv ct),osl⟩
 c:PySem.W.codeIn K cdv x=true
 k:PySem.W.keepIn K (.ref f)=true
theorem gh {K:PySem.W.Frag}{h:Heap}{mg:Str->Option Value}{x:Str}{st:Stmt}{ps:List Str}{f:Addr}{oc:Value}{od an:Option Addr}{osl:Array (Option Value)}{kV doc pm cdv ct:Value}(X:K.In h)(G:h.Ns mainGlobals mg)(e:En K x st f oc od osl kV doc pm an cdv ct)
  (hb:∀ (kV doc pm:Value) (an:Option Addr) (cdv ct:Value) (us:List Value),us.length=ps.length->bindArgs (PySem.W.fnOf x x (lN st) (j8 st) (eS st) .none kV doc pm an cdv ct) ⟨us,[]⟩=pure (ps.zip us)):
  Fn K mg x st ps f (PySem.W.fnOf x x (lN st) (j8 st) (eS st) .none kV doc pm an cdv ct):=⟨BO (st:=st) e.l e.c e.k,PySem.W.mg_of X G e.a,(BO (st:=st) e.l e.c e.k).binds (ps:=ps) hb⟩
theorem bn1 {F:FuncData}{p:List Str}(k:∀ a0,bindArgs F ⟨[a0],[]⟩=pure (p.zip [a0]))(us:List Value)(h:us.length=1):bindArgs F ⟨us,[]⟩=pure (p.zip us):=match us,h with |[a0],_=>k a0
theorem bn2 {F:FuncData}{p:List Str}(k:∀ a0 a1,bindArgs F ⟨[a0,a1],[]⟩=pure (p.zip [a0,a1]))(us:List Value)(h:us.length=2):bindArgs F ⟨us,[]⟩=pure (p.zip us):=match us,h with |[a0,a1],_=>k a0 a1
theorem bn3 {F:FuncData}{p:List Str}(k:∀ a0 a1 a2,bindArgs F ⟨[a0,a1,a2],[]⟩=pure (p.zip [a0,a1,a2]))(us:List Value)(h:us.length=3):bindArgs F ⟨us,[]⟩=pure (p.zip us):=match us,h with |[a0,a1,a2],_=>k a0 a1 a2
theorem bn5 {F:FuncData}{p:List Str}(k:∀ a0 a1 a2 a3 a4,bindArgs F ⟨[a0,a1,a2,a3,a4],[]⟩=pure (p.zip [a0,a1,a2,a3,a4]))(us:List Value)(h:us.length=5):bindArgs F ⟨us,[]⟩=pure (p.zip us):=match us,h with |[a0,a1,a2,a3,a4],_=>k a0 a1 a2 a3 a4
theorem bn6 {F:FuncData}{p:List Str}(k:∀ a0 a1 a2 a3 a4 a5,bindArgs F ⟨[a0,a1,a2,a3,a4,a5],[]⟩=pure (p.zip [a0,a1,a2,a3,a4,a5]))(us:List Value)(h:us.length=6):bindArgs F ⟨us,[]⟩=pure (p.zip us):=match us,h with |[a0,a1,a2,a3,a4,a5],_=>k a0 a1 a2 a3 a4 a5
theorem all_mk {l:PySem.W.OpenLaw}{w:World}{K:PySem.W.Frag}{h:Heap}{mg:Str->Option Value}{fa f1 f2 f3 f4 f5 f6 f7 f8 f9 f10 f11 f12 f13 f14 f15 f16 f17 f18 f19 f20 f21 f22 f23 f24 f25 f26 f27 f28 f29 f30 f31 f32 f33 f34 f35 f36 f37 f38 f39 f40 f41 f42:Addr}(X:K.In h)(G:h.Ns mainGlobals mg)(hfa:mg "law" = some (.ref fa))
  {od1 an1 od2 an2 od3 an3 od4 an4 od5 an5 od6 an6 od7 an7 od8 an8 od9 an9 J0 Oq JZ Oo JY Om JX Ol JW Oj JV Oi JU Oh JT Og JR Of JQ Oe JP Od JO Oc JN Ob JM Oa JL N9 JK N8 JJ N0 JI NZ JH NY JG NW JF NV JE NU JD NT JC NS JB NR JA NQ Jz NP Jy NO Jx NM Jw NL Jv NK Ju NJ Jt Hk:Option Addr}{sl1 sl2 sl3 sl4 sl5 sl6 sl7 sl8 sl9 IA Iz Iy Iw Iv Iu Ir Iq Ip Io Im Il Ik Ij Ii Ih Ig Ie Ic Ib Ia HZ HY HX HW HV HU HS HR HQ HP HN HM:Array (Option Value)}{oc1 kV1 dc1 pm1 cd1 ct1 oc2 kV2 dc2 pm2 cd2 ct2 oc3 kV3 dc3 pm3 cd3 ct3 oc4 kV4 dc4 pm4 cd4 ct4 oc5 kV5 dc5 pm5 cd5 ct5 oc6 kV6 dc6 pm6 cd6 ct6 oc7 kV7 dc7 pm7 cd7 ct7 oc8 kV8 dc8 pm8 cd8 ct8 oc9 kV9 dc9 pm9 cd9 ct9 KA Lr Mu Jr NC M3 Kz Lq Mt Jq NB M0 Ky Lp Ms Jp NA MZ Kx Lo Mr Jo Nz MY Kw Lm Mq Jn Ny MX Kv Ll Mp Jm Nx MW Ku Lk Mo Jl Nw MV Kt Lj Mn Jk Nv MU Ks Li Mm Jj Nu MT Kr Lh Ml Ji Nt MS Kq Lg Mk Jh Nr MR Kp Le Mj Jg Nq MQ Ko Ld Mi Jf Np MP Kn Lc Mh Je Nn MO Km Lb Mg Jd Nm MN Kl La Mf Jc Nl MM Kk K9 Me Jb Nk ML Kj K8 Md Ja Nj MK Ki K7 Mc I0 Ni MJ Kh K6 Mb IZ Nh MI Kg K5 L9 IY Ng MH Kf K4 L8 IX Nf MG Ke K3 L6 IW Nd MF Kd K2 LZ IV Nc ME Kc K1 LY IU Nb MD Kb K0 LX IT Na MC Ka KZ LW IS M9 MB J9 KY LV IQ M8 MA J8 KW LU IP M7 Mz J7 KU LS IM M6 My J6 KS LR IL M5 Mx J5 KR LQ IK M4 Mw J4 Gu Hf Gb Hh Hg:Value}
  (e1:En K "other_end" hZ f1 oc1 od1 sl1 kV1 dc1 pm1 an1 cd1 ct1)
  (e2:En K "piece_of" lg f2 oc2 od2 sl2 kV2 dc2 pm2 an2 cd2 ct2)
  (e3:En K "is_end" pC f3 oc3 od3 sl3 kV3 dc3 pm3 an3 cd3 ct3)
  (e4:En K "joined" lh f4 oc4 od4 sl4 kV4 dc4 pm4 an4 cd4 ct4)
  (e5:En K "check_train" jh f5 oc5 od5 sl5 kV5 dc5 pm5 an5 cd5 ct5)
  (e6:En K "turned" me f6 oc6 od6 sl6 kV6 dc6 pm6 an6 cd6 ct6)
  (e7:En K "free_ends" jr f7 oc7 od7 sl7 kV7 dc7 pm7 an7 cd7 ct7)
  (e8:En K "moves_of" jP f8 oc8 od8 sl8 kV8 dc8 pm8 an8 cd8 ct8)
  (e9:En K "done" uT f9 oc9 od9 sl9 kV9 dc9 pm9 an9 cd9 ct9)
  (e10:En K "check_goal" jF f10 KA J0 IA Lr Mu Jr Oq NC M3)
  (e11:En K "first_steps" iI f11 Kz JZ Iz Lq Mt Jq Oo NB M0)
  (e12:En K "lists_of" iS f12 Ky JY Iy Lp Ms Jp Om NA MZ)
  (e13:En K "come_to" om f13 Kx JX Iw Lo Mr Jo Ol Nz MY)
  (e14:En K "run_back_from" hX f14 Kw JW Iv Lm Mq Jn Oj Ny MX)
  (e15:En K "numbers_of" jE f15 Kv JV Iu Ll Mp Jm Oi Nx MW)
  (e16:En K "least" oe f16 Ku JU Ir Lk Mo Jl Oh Nw MV)
  (e17:En K "gone_on" oj f17 Kt JT Iq Lj Mn Jk Og Nv MU)
  (e18:En K "changed_over" jG f18 Ks JR Ip Li Mm Jj Of Nu MT)
  (e19:En K "counted" mh f19 Kr JQ Io Lh Ml Ji Oe Nt MS)
  (e20:En K "fewest" mf f20 Kq JP Im Lg Mk Jh Od Nr MR)
  (e21:En K "walked" pB f21 Kp JO Il Le Mj Jg Oc Nq MQ)
  (e22:En K "changes" jQ f22 Ko JN Ik Ld Mi Jf Ob Np MP)
  (e23:En K "marking_by" kB f23 Kn JM Ij Lc Mh Je Oa Nn MO)
  (e24:En K "sides" qU f24 Km JL Ii Lb Mg Jd N9 Nm MN)
  (e25:En K "turn" uS f25 Kl JK Ih La Mf Jc N8 Nl MM)
  (e26:En K "_law_cell_at" jg f26 Kk JJ Ig K9 Me Jb N0 Nk ML)
  (e27:En K "_law_mix" jq f27 Kj JI Ie K8 Md Ja NZ Nj MK)
  (e28:En K "_law_turned_row" ij f28 Ki JH Ic K7 Mc I0 NY Ni MJ)
  (e29:En K "_law_other" iT f29 Kh JG Ib K6 Mb IZ NW Nh MI)
  (e30:En K "_law_joined" iz f30 Kg JF Ia K5 L9 IY NV Ng MH)
  (e31:En K "_law_line" mS f31 Kf JE HZ K4 L8 IX NU Nf MG)
  (e32:En K "_law_renamed" j6 f32 Ke JD HY K3 L6 IW NT Nd MF)
  (e33:En K "_law_train" jo f33 Kd JC HX K2 LZ IV NS Nc ME)
  (e34:En K "_law_moves" kf f34 Kc JB HW K1 LY IU NR Nb MD)
  (e35:En K "_law_web" og f35 Kb JA HV K0 LX IT NQ Na MC)
  (e36:En K "_law_far" kL f36 Ka Jz HU KZ LW IS NP M9 MB)
  (e37:En K "_law_back" mT f37 J9 Jy HS KY LV IQ NO M8 MA)
  (e38:En K "_law_leads_back" iZ f38 J8 Jx HR KW LU IP NM M7 Mz)
  (e39:En K "_law_same_renamed" gi f39 J7 Jw HQ KU LS IM NL M6 My)
  (e40:En K "_law_wider" lK f40 J6 Jv HP KS LR IL NK M5 Mx)
  (e41:En K "_law_no_worse" iU f41 J5 Ju HN KR LQ IK NJ M4 Mw)
  (e42:En K "law" t7 f42 J4 Jt HM Gu Hf Gb Hk Hh Hg)
  (z1:PySem.W.nsIn K mainGlobals "len" = some none) (z2:PySem.W.nsIn K mainGlobals "range" = some none) (z3:PySem.W.nsIn K mainGlobals "sorted" = some none) (z4:PySem.W.nsIn K mainGlobals "enumerate" = some none) (z5:PySem.W.nsIn K mainGlobals "reversed" = some none) (z6:PySem.W.nsIn K mainGlobals "min" = some none) (z7:PySem.W.nsIn K mainGlobals "max" = some none) (z8:PySem.W.nsIn K mainGlobals "list" = some none) (z9:PySem.W.nsIn K mainGlobals "int" = some none) (z10:PySem.W.nsIn K mainGlobals "isinstance" = some none) (z11:PySem.W.nsIn K mainGlobals "zip" = some none) (z12:PySem.W.nsIn K mainGlobals "sum" = some none) (z13:PySem.W.nsIn K mainGlobals "all" = some none) (z14:PySem.W.nsIn K mainGlobals "set" = some none) (z15:PySem.W.nsIn K mainGlobals "tuple" = some none) (z16:PySem.W.nsIn K mainGlobals "abs" = some none) (z17:PySem.W.nsIn K mainGlobals "bool" = some none) (z18:PySem.W.nsIn K mainGlobals "dict" = some none) (z19:PySem.W.nsIn K mainGlobals "str" = some none)
  {E0:Addr} (xo0:tM K "NoTrain" E0)
  {E1:Addr} (xo1:tM K "TooMany" E1)
  {E2:Addr} (xo2:tM K "NoPiece" E2)
  {E3:Addr} (xo3:tM K "NoMove" E3)
  (xm0:PySem.W.mroIn K E0 (.ref E0)=some true)
  {tk0:Tok} (ck0:PySem.W.nsIn K mainGlobals "MOST_STANDINGS" = some (some (.int 300 tk0)))
  {od:Addr}{ot1 ot2 ot3 ot4:Tok}{oep:Nat} (wa:PySem.W.nsIn K mainGlobals "OTHER_WORD" = some (some (.ref od))) (wk:K.lookup od=some {cls:=.type "dict",data:=.dict #[⟨PyData.keyHash w.params (Str.ofString "on"),.str (Str.ofString "on") ot1,.str (Str.ofString "back") ot2⟩,⟨PyData.keyHash w.params (Str.ofString "back"),.str (Str.ofString "back") ot3,.str (Str.ofString "on") ot4⟩] oep}):
  ∃ fd:FuncData,(∀ (s:Shared) (v:Value),BindsTo s fd ⟨[v],[]⟩ [("_law_script",v)])/\∀ base:Heap,K.In base->base.Ns mainGlobals mg->eY l.prog w K mg base CX0 9 fa fd ["_law_script"] (uJ K):=by
 have e:=hfa.symm.trans (PySem.W.mg_of X G e42.a)
 cases e
 have B:Bm mg:=⟨⟨aY X G z1,aY X G z2,aY X G z3,aY X G z4,aY X G z5,aY X G z6,aY X G z7,aY X G z8,aY X G z9,aY X G z10⟩,aY X G z11,aY X G z12,aY X G z13,aY X G z14,aY X G z15,aY X G z16,aY X G z17,aY X G z18,aY X G z19⟩
 have X0:=xo0.xc X G
 have X1:=xo1.xc X G
 have X2:=xo2.xc X G
 have X3:=xo3.xc X G
 have C:Cm mg tk0:=⟨PySem.W.mg_of X G ck0⟩
 have O:DB l.prog w K mg od:=Gi (PySem.W.mg_of X G wa) wk
 have eZ:=gh (ps:=["end"]) X G e1 λ_ _ _ _ _ _=>bn1 (λ_=>rfl)
 have gm:=gh (ps:=["end"]) X G e2 λ_ _ _ _ _ _=>bn1 (λ_=>rfl)
 have mL:=gh (ps:=["line","end"]) X G e3 λ_ _ _ _ _ _=>bn2 (λ_ _=>rfl)
 have iH:=gh (ps:=["line","end"]) X G e4 λ_ _ _ _ _ _=>bn2 (λ_ _=>rfl)
 have iK:=gh (ps:=["line","train"]) X G e5 λ_ _ _ _ _ _=>bn2 (λ_ _=>rfl)
 have g9:=gh (ps:=["train"]) X G e6 λ_ _ _ _ _ _=>bn1 (λ_=>rfl)
 have ic:=gh (ps:=["line","train","end"]) X G e7 λ_ _ _ _ _ _=>bn3 (λ_ _ _=>rfl)
 have fW:=gh (ps:=["line","train"]) X G e8 λ_ _ _ _ _ _=>bn2 (λ_ _=>rfl)
 have qz:=gh (ps:=["line","train","move"]) X G e9 λ_ _ _ _ _ _=>bn3 (λ_ _ _=>rfl)
 have gC:=gh (ps:=["line","train","goal"]) X G e10 λ_ _ _ _ _ _=>bn3 (λ_ _ _=>rfl)
 have fx:=gh (ps:=["line","train"]) X G e11 λ_ _ _ _ _ _=>bn2 (λ_ _=>rfl)
 have fO:=gh (ps:=["standings"]) X G e12 λ_ _ _ _ _ _=>bn1 (λ_=>rfl)
 have kW:=gh (ps:=["line","train"]) X G e13 λ_ _ _ _ _ _=>bn2 (λ_ _=>rfl)
 have fG:=gh (ps:=["steps","goal"]) X G e14 λ_ _ _ _ _ _=>bn2 (λ_ _=>rfl)
 have i9:=gh (ps:=["steps"]) X G e15 λ_ _ _ _ _ _=>bn1 (λ_=>rfl)
 have ig:=gh (ps:=["line","train","goal"]) X G e16 λ_ _ _ _ _ _=>bn3 (λ_ _ _=>rfl)
 have kT:=gh (ps:=["line","states","steps"]) X G e17 λ_ _ _ _ _ _=>bn3 (λ_ _ _=>rfl)
 have ip:=gh (ps:=["states","steps"]) X G e18 λ_ _ _ _ _ _=>bn2 (λ_ _=>rfl)
 have kU:=gh (ps:=["line","train"]) X G e19 λ_ _ _ _ _ _=>bn2 (λ_ _=>rfl)
 have iY:=gh (ps:=["line","train","goal"]) X G e20 λ_ _ _ _ _ _=>bn3 (λ_ _ _=>rfl)
 have mK:=gh (ps:=["line","train","run"]) X G e21 λ_ _ _ _ _ _=>bn3 (λ_ _ _=>rfl)
 have gL:=gh (ps:=["run"]) X G e22 λ_ _ _ _ _ _=>bn1 (λ_=>rfl)
 have ja:=gh (ps:=["line","standings"]) X G e23 λ_ _ _ _ _ _=>bn2 (λ_ _=>rfl)
 have kH:=gh (ps:=["line","piece"]) X G e24 λ_ _ _ _ _ _=>bn2 (λ_ _=>rfl)
 have qy:=gh (ps:=["line","train"]) X G e25 λ_ _ _ _ _ _=>bn2 (λ_ _=>rfl)
 have eV:=gh (ps:=["_law_script","_law_k"]) X G e26 λ_ _ _ _ _ _=>bn2 (λ_ _=>rfl)
 have eR:=gh (ps:=["_law_cell","_law_k"]) X G e27 λ_ _ _ _ _ _=>bn2 (λ_ _=>rfl)
 have fB:=gh (ps:=["_law_number","_law_many"]) X G e28 λ_ _ _ _ _ _=>bn2 (λ_ _=>rfl)
 have fe:=gh (ps:=["_law_end"]) X G e29 λ_ _ _ _ _ _=>bn1 (λ_=>rfl)
 have fK:=gh (ps:=["_law_line_here","_law_end"]) X G e30 λ_ _ _ _ _ _=>bn2 (λ_ _=>rfl)
 have jW:=gh (ps:=["_law_script"]) X G e31 λ_ _ _ _ _ _=>bn1 (λ_=>rfl)
 have iJ:=gh (ps:=["_law_line_here","_law_cell"]) X G e32 λ_ _ _ _ _ _=>bn2 (λ_ _=>rfl)
 have jy:=gh (ps:=["_law_line_here","_law_cell","_law_length"]) X G e33 λ_ _ _ _ _ _=>bn3 (λ_ _ _=>rfl)
 have jz:=gh (ps:=["_law_line_here","_law_train_here"]) X G e34 λ_ _ _ _ _ _=>bn2 (λ_ _=>rfl)
 have jc:=gh (ps:=["_law_line_here","_law_train_here"]) X G e35 λ_ _ _ _ _ _=>bn2 (λ_ _=>rfl)
 have ft:=gh (ps:=["_law_line_here","_law_train_here","_law_goal"]) X G e36 λ_ _ _ _ _ _=>bn3 (λ_ _ _=>rfl)
 have jX:=gh (ps:=["_law_train_here","_law_run"]) X G e37 λ_ _ _ _ _ _=>bn2 (λ_ _=>rfl)
 have gZ:=gh (ps:=["_law_line_here","_law_train_here","_law_goal"]) X G e38 λ_ _ _ _ _ _=>bn3 (λ_ _ _=>rfl)
 have gK:=gh (ps:=["_law_line_here","_law_train_here","_law_goal","_law_cell","_law_here"]) X G e39 λ_ _ _ _ _ _=>bn5 (λ_ _ _ _ _=>rfl)
 have jx:=gh (ps:=["_law_line_here","_law_number"]) X G e40 λ_ _ _ _ _ _=>bn2 (λ_ _=>rfl)
 have il:=gh (ps:=["_law_line_here","_law_wide","_law_train_here","_law_goal","_law_here","_law_order"]) X G e41 λ_ _ _ _ _ _=>bn6 (λ_ _ _ _ _ _=>rfl)
 have Ho:=gh (ps:=["_law_script"]) X G e42 λ_ _ _ _ _ _=>bn1 (λ_=>rfl)
 refine⟨PySem.W.fnOf "law" "law" (lN t7) (j8 t7) (eS t7) .none Gu Hf Gb Hk Hh Hg,λs v=>.of_eq rfl,λbase _ _=>?_⟩
 have XR:Xr K mg E0:=⟨X0,⟨xo0.t,xo0.isc,xo0.p,xm0⟩⟩
 have XT:Xt K mg E1:=⟨X1⟩
 have XP:Xp K mg E2:=⟨X2⟩
 have XM:Xm K mg E3:=⟨X3⟩
 have lV:eY l.prog w K mg base CX0 2 _ _ _ _:=sq iJ eR fB B.toBl
 have o5:eY l.prog w K mg base CX0 3 _ _ _ _:=wQ jW eR eV fe iJ lV B.toBl
 have lQ:eY l.prog w K mg base CX0 2 _ _ _ _:=vj ic B.toBl gm iH
 have iB:eY l.prog w K mg base CX0 3 _ _ _ _:=wO fW eZ ic lQ
 have nV:eY l.prog w K mg base CX0 2 _ _ _ _:=vi jz fe fK B.toBl
 have nU:eY l.prog w K mg base CX0 2 _ _ _ _:=vh jy eR fe fK B.toBl
 have mI:eY l.prog w K mg base CX0 2 _ _ _ _:=um g9 B.toBl eZ
 have lW:eY l.prog w K mg base (CXr l.prog w base) 2 _ _ _ _:=su iK XR B mL gm iH eZ
 have i8:eY l.prog w K mg base (CXr l.prog w base) 3 _ _ _ _:=tJ gC XR B iK lW
 have gP:eY l.prog w K mg base (CXr l.prog w base) 4 _ _ _ _:=sr fx B C XT fW iB
 have kF:eY l.prog w K mg base (CXr l.prog w base) 5 _ _ _ _:=Bi ig B gC i8 fx gP fO fG i9
 have qv:eY l.prog w K mg base CX0 4 _ _ _ _:=yl kT B fW iB
 have lF:eY l.prog w K mg base CX0 1 _ _ _ _:=qM ip O
 have qw:eY l.prog w K mg base CX0 5 _ _ _ _:=ym kU B kT qv ip lF
 have mJ:eY l.prog w K mg base (CXr l.prog w base) 6 _ _ _ _:=Af iY B gC i8 fx gP fO fG kU qw
 have yJ:eY l.prog w K mg base (CXr l.prog w base) 6 _ _ _ _:=Bg qy B ig kF g9 eZ
 have rz:eY l.prog w K mg base (CXr l.prog w base) 7 _ _ _ _:=Bh kH B XP qy yJ ja eZ
 have qx:eY l.prog w K mg base (CXr l.prog w base) 5 _ _ _ _:=yn kW B fx gP fO
 have oC:eY l.prog w K mg base CX0 3 _ _ _ _:=yj jc B jz nV
 have yK:eY l.prog w K mg base (CXr l.prog w base) 4 _ _ _ _:=CQ qz XM fW iB
 have tw:eY l.prog w K mg base (CXr l.prog w base) 5 _ _ _ _:=Ad mK B qz yK
 have gY:eY l.prog w K mg base CX0 7 _ _ _ _:=yk ft B ig kF iY mJ gL
 have o6:eY l.prog w K mg base CX0 2 _ _ _ _:=wR jX B fe
 have jV:eY l.prog w K mg base CX0 7 _ _ _ _:=pH gZ B ig kF iY mJ gL jX o6 mK tw
 have nT:eY l.prog w K mg base CX0 1 _ _ _ _:=vg jx B
 have lE:eY l.prog w K mg base CX0 8 _ _ _ _:=qL il B ft gY kW qx kH rz
 have jl:eY l.prog w K mg base CX0 8 _ _ _ _:=oF gK eR fB B.toBl ft gY
 exact ED Ho B jW o5 eV eR jy nU jc oC ft gY g9 mI gZ jV gK jl jx nT il lE
theorem walk {l:PySem.W.OpenLaw}{q:Program}{loose:List Str}{XP:(Str->Option Value)->Heap->Prop}{YP:World->Heap->Prop}{d:DefRec}{K:Params->PySem.W.Frag}(hn:l.most=some 63)(hdf:d.params.defaults = [])
  (hY:∀ (w:World) (h:Heap),YP w h->(K w.params).In h)
  (F:∀ (w:World) (mg:Str->Option Value) (fa:Addr) (h:Heap),(K w.params).In h->h.Ns mainGlobals mg->mg d.name=some (.ref fa)->
   ∃ fd:FuncData,(∀ (s:Shared) (u:Value),BindsTo s fd ⟨[u],[]⟩ [("_law_script",u)])/\∀ base:Heap,(K w.params).In base->base.Ns mainGlobals mg->eY l.prog w (K w.params) mg base CX0 9 fa fd ["_law_script"] (uJ (K w.params))):
  PySem.W.WalkO q loose XP YP l.row.toRowW d [] (λf vs=>PySem.call f vs):=
 L2.Co (n:=63) (k:=9) (x:= "_law_script") (CX:=λ_=>CX0) (sp:=λw=>uJ (K w.params)) hn (by decide) hdf ⟨rfl,by decide,by decide⟩ hY F (λ_ _ a ns hl _ hS=>⟨a,ns,rfl,hS,λ_=>rfl⟩) λ_ _ _ _ _ z=>z
end K35
namespace PySem.W.Fast
def tw10034284474550677336:=0
def tw1008959142681627894:=0
def tw10261540651156313902:=0
def tw10266219453118203368:=0
def tw10290685731320273236:=0
def tw10357783819693634234:=0
def tw10412570243360968487:=0
def tw10448835319908901646:=0
def tw10520824952925776950:=0
def tw10539619716998598963:=0
def tw10654973830020318759:=0
def tw10813241961889787587:=0
def tw10878866855745893864:=0
def tw10882801372272841570:=0
def tw1097357508908334577:=0
def tw10988966059506061436:=0
def tw11013801140078442417:=0
def tw11027572592064016284:=0
def tw1116268971768439488:=0
def tw11231722854430018734:=0
def tw11304180752299946655:=0
def tw11387208121086591429:=0
def tw11392956661586478081:=0
def tw11429174142403042880:=0
def tw11542565965793867896:=0
def tw11630697438570510475:=0
def tw11656726583085765134:=0
def tw11803426985612300101:=0
def tw11955482779752995468:=0
def tw12047048232403744517:=0
def tw12090176084125093785:=0
def tw12093217806964180791:=0
def tw12106523719859214668:=0
def tw12125487424986030687:=0
def tw12140748054121596512:=0
def tw12440422241128890103:=0
def tw12441438952291363328:=0
def tw12471283328456554088:=0
def tw12511443706886388679:=0
def tw12564357766598564270:=0
def tw12565991983791331984:=0
def tw12603043417756103574:=0
def tw12691869590965132909:=0
def tw12794507521327863989:=0
def tw12810662988181205355:=0
def tw12882300360718802249:=0
def tw13017817629486898299:=0
def tw13062239182632165646:=0
def tw13066421180180302092:=0
def tw13126802114030089600:=0
def tw13163884991564957119:=0
def tw13245007352829424490:=0
def tw13268528751349035093:=0
def tw13294356497025918570:=0
def tw13338971316687926045:=0
def tw13408293836853185762:=0
def tw13422698411839979392:=0
def tw13449717807982485822:=0
def tw13535993575292646123:=0
def tw13546850695761770006:=0
def tw13603281699778945465:=0
def tw13617254737425093553:=0
def tw13630278782644341824:=0
def tw13630362058273247130:=0
def tw137038071624811911:=0
def tw1374045243520499180:=0
def tw13825297211807161872:=0
def tw13837511404009390543:=0
def tw13874620188517339002:=0
def tw13917664309091933895:=0
def tw13924985477722141744:=0
def tw13987419867067642252:=0
def tw14005268468990858894:=0
def tw14013748824347188854:=0
def tw14042145934502149786:=0
def tw14156992790880394232:=0
def tw14159665008052772766:=0
def tw14347402656304962345:=0
def tw14351818757183048065:=0
def tw1437969636799867813:=0
def tw14411792072871936879:=0
def tw14412033699404206509:=0
def tw14416067283635203533:=0
def tw14416847241954466781:=0
def tw14495344583611560814:=0
def tw14508975520976346415:=0
def tw14536882007706746173:=0
def tw14584096244687924661:=0
def tw14599123243410636024:=0
def tw14660033829750137386:=0
def tw14710549451314946597:=0
def tw14728393056106192611:=0
def tw14729913420721855303:=0
def tw14813646759522949748:=0
def tw14824576625648541286:=0
def tw14851786276653898076:=0
def tw14901950234963741140:=0
def tw15006823539379823362:=0
def tw1507184689604521034:=0
def tw15121674101675830038:=0
def tw15163202557293295947:=0
def tw15174946850128077487:=0
def tw15260763549961992625:=0
def tw15268612974789129868:=0
def tw15323163726062347924:=0
def tw15350644830949567040:=0
def tw15378427474225478051:=0
def tw15450505744263947240:=0
def tw15456128313235457178:=0
def tw15459724691660532581:=0
def tw15492333068773279519:=0
def tw15497954268188682514:=0
def tw15532686665662033939:=0
def tw15621852298837139037:=0
def tw15658430417199285508:=0
def tw15893357190681900827:=0
def tw15900183711929349075:=0
def tw15959865453333768561:=0
def tw15997828436356611824:=0
def tw1604952129395510573:=0
def tw1608055212521928582:=0
def tw16095640125143023480:=0
def tw16162745062153380668:=0
def tw16258736632514749755:=0
def tw16261516359830108471:=0
def tw16411436253671674495:=0
def tw16412930885823342978:=0
def tw1643557516218134539:=0
def tw1647469151112853083:=0
def tw1647970231189383546:=0
def tw16517965474409705558:=0
def tw16533186759867557148:=0
def tw16570009959819427887:=0
def tw16596499215445565139:=0
def tw16709840228849219110:=0
def tw1678193426369730576:=0
def tw16789504772126978273:=0
def tw16821929097173934681:=0
def tw16975574758261704274:=0
def tw17014039254420157950:=0
def tw17042636425829980195:=0
def tw17096630431575405413:=0
def tw17151931634433337145:=0
def tw1721480326351545454:=0
def tw17219441659549528197:=0
def tw17415998159817939132:=0
def tw17428437846883351021:=0
def tw17439602847687563444:=0
def tw17464196605166808995:=0
def tw17503728928492213684:=0
def tw17544964928842059273:=0
def tw17608978235574263196:=0
def tw1770410159353006714:=0
def tw17801977247058705967:=0
def tw1783315787249333918:=0
def tw17874450714433710183:=0
def tw17896618602163000775:=0
def tw17904583051205174500:=0
def tw17942141072559659901:=0
def tw18043461959619490067:=0
def tw18055537825053577634:=0
def tw18062935957266463999:=0
def tw18152473581566498021:=0
def tw18236703309562147840:=0
def tw18393867937499812248:=0
def tw18436465905941172720:=0
def tw1851618365059140349:=0
def tw1883766964708477888:=0
def tw1898925550334115385:=0
def tw1949199525478964863:=0
def tw1952646752543406248:=0
def tw2068462805752501586:=0
def tw2111378419587197806:=0
def tw2153136423884680538:=0
def tw2209040389216724670:=0
def tw230720451729887399:=0
def tw233789077306163854:=0
def tw2423158880797370422:=0
def tw2479541468483573583:=0
def tw253922878187843651:=0
def tw2544329960792861961:=0
def tw2581358474663242586:=0
def tw2626347541214543223:=0
def tw2638236657566910965:=0
def tw2731380537795899648:=0
def tw2773079799095137247:=0
def tw3099261728638395311:=0
def tw3140085601045525816:=0
def tw3186877293117283834:=0
def tw3357880826171637740:=0
def tw3367412354310788133:=0
def tw3402915574482353443:=0
def tw3410836846756192581:=0
def tw3512273774720451395:=0
def tw3522754136677698347:=0
def tw3580443980466613039:=0
def tw3598496411691020140:=0
def tw3703965528321795333:=0
def tw3714055426939773119:=0
def tw3756482911115594479:=0
def tw3771772398627440447:=0
def tw3823548175729286691:=0
def tw3824719881956695658:=0
def tw3859332136915729652:=0
def tw385974739288348394:=0
def tw3966704176475512262:=0
def tw3981345077758218632:=0
def tw3992588905976600055:=0
def tw4019979220021867659:=0
def tw4034953496465226005:=0
def tw4240911536893314949:=0
def tw4312252123651293313:=0
def tw4354022975642756256:=0
def tw4369296613743287009:=0
def tw4380366488397547387:=0
def tw4400566539998949424:=0
def tw4482580964661980133:=0
def tw4538705266765665421:=0
def tw4573456633941341166:=0
def tw4602117675301464013:=0
def tw4618284481668991087:=0
def tw469413521633937527:=0
def tw4764968326700418505:=0
def tw4791439610926462674:=0
def tw4863692867907923701:=0
def tw4876552050028692969:=0
def tw4896288601917473055:=0
def tw4948120839307201808:=0
def tw4962396896501881950:=0
def tw5012522361486621118:=0
def tw5040585003104630176:=0
def tw5119619232578248809:=0
def tw513044052418836746:=0
def tw5183700498191270073:=0
def tw5204052458186780466:=0
def tw5230273304957111223:=0
def tw5241978353996661840:=0
def tw5261447095990961483:=0
def tw5361330179708906566:=0
def tw536273135738879240:=0
def tw5415007918503862126:=0
def tw5456413122960234703:=0
def tw5553901871523011072:=0
def tw5649235884267224900:=0
def tw5649360513495959703:=0
def tw567221492029102118:=0
def tw5753946138814284900:=0
def tw5783225150767389448:=0
def tw5784823324452052214:=0
def tw5827394063074120561:=0
def tw5846293906749789996:=0
def tw5864361450673558706:=0
def tw586741152982608178:=0
def tw5906405122595227453:=0
def tw6079348679348562618:=0
def tw627307829761560414:=0
def tw6322954576606314624:=0
def tw6362514786658655098:=0
def tw6372733784395117174:=0
def tw6381169533877350684:=0
def tw6468299932497121651:=0
def tw6475756177734212962:=0
def tw6532265097192568819:=0
def tw6571949939315079636:=0
def tw658799614747428142:=0
def tw6601210587769172591:=0
def tw6675453805275532359:=0
def tw6730872250323499699:=0
def tw6798335719031736229:=0
def tw6850932093846028913:=0
def tw6894420649059293646:=0
def tw691317291374703468:=0
def tw7008906109340989078:=0
def tw7088218566336698171:=0
def tw712360000028375011:=0
def tw7134342585923988837:=0
def tw7163233608705993039:=0
def tw7178993547230850118:=0
def tw7271452281532853577:=0
def tw7454326307961676324:=0
def tw7492536492899287271:=0
def tw7526260268366147686:=0
def tw7576228007634296263:=0
def tw7611390349795760734:=0
def tw7663022915563658623:=0
def tw7663438558157511959:=0
def tw7737010867031168493:=0
def tw8113609378686568566:=0
def tw8178123109178302123:=0
def tw8314338076060406574:=0
def tw8439199508634786099:=0
def tw8487331571177924905:=0
def tw8508141276102623877:=0
def tw8514962204552303173:=0
def tw8539469538159488348:=0
def tw8593843977964008308:=0
def tw861390702635981180:=0
def tw8642012727584593879:=0
def tw8764765269591993955:=0
def tw8830250496060300731:=0
def tw8837754730461119629:=0
def tw8878767845340369810:=0
def tw8898300454903750513:=0
def tw8913855145410356794:=0
def tw8925638036749116520:=0
def tw9079316157029044603:=0
def tw9120951426534925581:=0
def tw914911752496844847:=0
def tw9209466786928729492:=0
def tw9242135574484542491:=0
def tw935880376114061171:=0
def tw9401444611972125961:=0
def tw940619669483509477:=0
def tw9443240345407078771:=0
def tw9571968762330260486:=0
def tw9609812289734550991:=0
def tw9647767572861611182:=0
def tw9699227785955742443:=0
def tw9743003041112947524:=0
def tw9748694360357090125:=0
def tw9793138223505846438:=0
def tw9936843299538250380:=0
def tw9955490552703317743:=0
end PySem.W.Fast
open PySem PySem.W PyProof.Rows
set_option maxRecDepth 100000 in
set_option maxHeartbeats 0 in
theorem PySem.Challenge.cw_turnline_k35_whole_runs_there_and_back_holds : PySem.Challenge.rw_turnline_k35_whole_runs_there_and_back.Holds := by
 w_on;o_law;k_head;(case hw=>w_witness2)
 k_fill
 refine K35.walk (l:=PySem.Challenge.rw_turnline_k35_whole_runs_there_and_back) rfl rfl (λw h Y=>PySem.W.kIn_of Y) ?F
 case F=>
  intro w mg fa h KX G hmg
  refine' K35.all_mk KX G hmg ⟨?a1,?l1,?c1,?k1⟩ ⟨?a2,?l2,?c2,?k2⟩ ⟨?a3,?l3,?c3,?k3⟩ ⟨?a4,?l4,?c4,?k4⟩ ⟨?a5,?l5,?c5,?k5⟩ ⟨?a6,?l6,?c6,?k6⟩ ⟨?a7,?l7,?c7,?k7⟩ ⟨?a8,?l8,?c8,?k8⟩ ⟨?a9,?l9,?c9,?k9⟩ ⟨?a10,?l10,?c10,?k10⟩ ⟨?a11,?l11,?c11,?k11⟩ ⟨?a12,?l12,?c12,?k12⟩ ⟨?a13,?l13,?c13,?k13⟩ ⟨?a14,?l14,?c14,?k14⟩ ⟨?a15,?l15,?c15,?k15⟩ ⟨?a16,?l16,?c16,?k16⟩ ⟨?a17,?l17,?c17,?k17⟩ ⟨?a18,?l18,?c18,?k18⟩ ⟨?a19,?l19,?c19,?k19⟩ ⟨?a20,?l20,?c20,?k20⟩ ⟨?a21,?l21,?c21,?k21⟩ ⟨?a22,?l22,?c22,?k22⟩ ⟨?a23,?l23,?c23,?k23⟩ ⟨?a24,?l24,?c24,?k24⟩ ⟨?a25,?l25,?c25,?k25⟩ ⟨?a26,?l26,?c26,?k26⟩ ⟨?a27,?l27,?c27,?k27⟩ ⟨?a28,?l28,?c28,?k28⟩ ⟨?a29,?l29,?c29,?k29⟩ ⟨?a30,?l30,?c30,?k30⟩ ⟨?a31,?l31,?c31,?k31⟩ ⟨?a32,?l32,?c32,?k32⟩ ⟨?a33,?l33,?c33,?k33⟩ ⟨?a34,?l34,?c34,?k34⟩ ⟨?a35,?l35,?c35,?k35⟩ ⟨?a36,?l36,?c36,?k36⟩ ⟨?a37,?l37,?c37,?k37⟩ ⟨?a38,?l38,?c38,?k38⟩ ⟨?a39,?l39,?c39,?k39⟩ ⟨?a40,?l40,?c40,?k40⟩ ⟨?a41,?l41,?c41,?k41⟩ ⟨?a42,?l42,?c42,?k42⟩ ?z1 ?z2 ?z3 ?z4 ?z5 ?z6 ?z7 ?z8 ?z9 ?z10 ?z11 ?z12 ?z13 ?z14 ?z15 ?z16 ?z17 ?z18 ?z19 ?xo0 ?xo1 ?xo2 ?xo3 ?xm0 ?ck0 ?wa ?wk
  case a1|l1|c1|k1|a2|l2|c2|k2|a3|l3|c3|k3|a4|l4|c4|k4|a5|l5|c5|k5|a6|l6|c6|k6|a7|l7|c7|k7|a8|l8|c8|k8|a9|l9|c9|k9|a10|l10|c10|k10|a11|l11|c11|k11|a12|l12|c12|k12|a13|l13|c13|k13|a14|l14|c14|k14|a15|l15|c15|k15|a16|l16|c16|k16|a17|l17|c17|k17|a18|l18|c18|k18|a19|l19|c19|k19|a20|l20|c20|k20|a21|l21|c21|k21|a22|l22|c22|k22|a23|l23|c23|k23|a24|l24|c24|k24|a25|l25|c25|k25|a26|l26|c26|k26|a27|l27|c27|k27|a28|l28|c28|k28|a29|l29|c29|k29|a30|l30|c30|k30|a31|l31|c31|k31|a32|l32|c32|k32|a33|l33|c33|k33|a34|l34|c34|k34|a35|l35|c35|k35|a36|l36|c36|k36|a37|l37|c37|k37|a38|l38|c38|k38|a39|l39|c39|k39|a40|l40|c40|k40|a41|l41|c41|k41|a42|l42|c42|k42|z1|z2|z3|z4|z5|z6|z7|z8|z9|z10|z11|z12|z13|z14|z15|z16|z17|z18|z19=>k_is
  (case xo0=>refine'⟨?u1,?u2,?u3,?u4,?u5,?u6,?u7,?u8,?u9⟩;(case u1=>k_is);(case u2=>k_exc);(case u3=>k_is);(case u4=>k_is);(case u5=>k_is);(case u6=>k_is);(case u7=>k_is);(case u8=>k_is);(case u9=>k_is))
  (case xo1=>refine'⟨?u1,?u2,?u3,?u4,?u5,?u6,?u7,?u8,?u9⟩;(case u1=>k_is);(case u2=>k_exc);(case u3=>k_is);(case u4=>k_is);(case u5=>k_is);(case u6=>k_is);(case u7=>k_is);(case u8=>k_is);(case u9=>k_is))
  (case xo2=>refine'⟨?u1,?u2,?u3,?u4,?u5,?u6,?u7,?u8,?u9⟩;(case u1=>k_is);(case u2=>k_exc);(case u3=>k_is);(case u4=>k_is);(case u5=>k_is);(case u6=>k_is);(case u7=>k_is);(case u8=>k_is);(case u9=>k_is))
  (case xo3=>refine'⟨?u1,?u2,?u3,?u4,?u5,?u6,?u7,?u8,?u9⟩;(case u1=>k_is);(case u2=>k_exc);(case u3=>k_is);(case u4=>k_is);(case u5=>k_is);(case u6=>k_is);(case u7=>k_is);(case u8=>k_is);(case u9=>k_is))
  (case xm0=>k_is)
  (case ck0=>k_is)
  (case wa=>k_is)
  (case wk=>first |k_is |rfl)
