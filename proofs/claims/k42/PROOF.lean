import PyProof.Rows.All
import Wide.All
import OpenK.AllK
import Wide.FinOn
import PyProof.EqAt
import PyProof.EqKinds
import PyProof.TupleCall
import PyProof.CompFree
import PyProof.EvalArms
import KE.BitLaws
import OpenK.KOwn
import KE.KIsAll
import PyProof.ExcArgsOwn
import PyProof.IsiH_list
import PyProof.NsDelKeeps
import PyProof.ExcAttrAll.ValueError
import PyProof.ExcBaseAll.ValueError
import PyProof.ZipIter
import PyProof.Rows.SumAny
import KE.LcSums
import PyProof.SetRoads
import PyProof.Rows.SetFrom
import KE.KSetDisp
import PyProof.DictIter
import PyProof.DictRoadsH
import PyProof.Rows.TupDisplay
import PyProof.FString
import PyProof.FactsAll.list_1
import PyProof.CollectWalk
import PyProof.StrWalks
import PyProof.StrLawsTight
import PyProof.StrLawsChain
import PyProof.StrLawsIn
import PyProof.StrCalls2
import PyProof.StrBlockG
import PyProof.SliceStr2
import KE.KIntText
import PyProof.CollectIter
import PyProof.Walks
import PyProof.SetKind
import PyProof.TupleKey
import PyProof.IsRules
import PyProof.SetNew
import PyProof.StrOps2
import PyProof.Rows.Range3
import PyProof.DictCompW
import KE.KDictSum
import PyProof.Rows.SeqMore
import PyProof.Rows.SortRuns
import KE.KSortAsk
import PyProof.DictItems
import KE.KPairComp
import PyProof.Rows.StrRules
import KE.KSortTup
import PyProof.NeKinds
import KE.KRevIter
import PyProof.FactsAll.range_2
import KE.KDictList
import PyProof.WalkInts
import PySem.Challenge.RW_turnline_k42_groups_and_twins
abbrev aa:=@List.length_map
abbrev ae:=@List.getElem?_eq_getElem
abbrev af:=@List.getElem?_eq_some_iff
abbrev ah:=@List.length_append
abbrev aj:=@List.getElem?_map
abbrev ak:=@PySem.wpAny_bind
abbrev ao:=@List.getElem?_append_left
abbrev aq:=@Nat.le_refl
abbrev ar:=@List.getElem?_append_right
abbrev au:=@Array.length_toList
abbrev aw:=@List.map_append
abbrev ax:=@if_neg
abbrev ay:=@PyProof.Rows.wpS_bind
abbrev az:=@List.mem_map
abbrev aA:=@List.mem_of_getElem?
abbrev aB:=@Array.getElem?_toList
abbrev aC:=@List.mem_cons_self
abbrev aD:=@PySem.wpAny_pure
abbrev aE:=@List.mem_cons_of_mem
abbrev aF:=@PySem.F.plainAttrs_list
abbrev aG:=@List.size_toArray
abbrev aH:=@if_pos
abbrev aI:=@PyProof.Rows.wpS_pure
abbrev aJ:=@PySem.Heap.get?_push_of_some
abbrev aK:=@PySem.Heap.lt_size
abbrev aL:=@List.mem_append
abbrev aM:=@Nat.zero_le
abbrev aN:=@List.append_assoc
abbrev aO:=@List.mem_cons
abbrev aP:=@List.getD_eq_getElem?_getD
abbrev aQ:=@PySem.F.type_list_append
abbrev aR:=@PySem.F.slot_list_append
abbrev aS:=@List.map_cons
abbrev aT:=@PySem.W.mg_none_of
abbrev aU:=@Nat.lt_of_lt_of_le
abbrev aV:=@List.mem_singleton
abbrev aW:=@Bool.false_ne_true
abbrev aX:=@List.length_cons
abbrev aY:=@PySem.Heap.get?_push_size
abbrev aZ:=@Option.some.inj
abbrev ba:=@List.mem_filter
abbrev bg:=@List.length_reverse
abbrev bh:=@PySem.PassesOwn.never
abbrev bj:=@Array.getElem?_eq_getElem
abbrev bo:=@decide_eq_false
abbrev bq:=@List.take_of_length_le
abbrev br:=@List.pairwise_append
abbrev bt:=@List.mem_iff_getElem
abbrev bw:=@Nat.ne_of_lt
abbrev bx:=@List.mem_append_right
abbrev bz:=@Array.getD_eq_getD_getElem?
abbrev bA:=@List.take_length
abbrev bB:=@List.length_take
abbrev bC:=@decide_eq_true
abbrev bD:=@List.take_add_one
abbrev bE:=@Array.toList_extract
abbrev bF:=@Nat.le_trans
abbrev bG:=@List.length_singleton
abbrev bH:=@List.length_filter_le
abbrev bI:=@List.length_zip
abbrev bJ:=@List.lookup_cons
abbrev bK:=@PySem.wpAny_loadPart'
abbrev bL:=@PyProof.Rows.wpS_forRange
abbrev bM:=@List.mem_append_left
abbrev bN:=@PySem.W.kia_one
abbrev bO:=@List.append_nil
abbrev bP:=@List.map_map
abbrev bQ:=@PySem.wpAny_mono
abbrev bR:=@List.pairwise_iff_getElem
abbrev bS:=@List.reverse_append
abbrev bT:=@of_decide_eq_true
abbrev bU:=@List.pairwise_map
abbrev bV:=@List.getElem?_eq_none
abbrev bW:=@List.filter_cons
abbrev bX:=@PyProof.Rows.callWith_type1
abbrev bY:=@PySem.F.slot_dict_keyiterator_next
abbrev bZ:=@Ne.symm
abbrev b8:=@Nat.sub_self
abbrev b9:=@Nat.le_of_lt
abbrev cb:=@List.nodup_append
abbrev cc:=@Array.toList_push
abbrev cf:=@PyProof.Rows.boot_isinstance
abbrev cg:=@Bool.eq_iff_iff
abbrev cj:=@List.pairwise_cons
abbrev ck:=@Bool.false_eq_true
abbrev cm:=@List.length_dropLast
abbrev cn:=@List.nodup_cons
abbrev cu:=@List.dropLast_concat_getLast
abbrev cw:=@PySem.mem_of_lookup
abbrev cx:=@List.drop_eq_nil_of_le
abbrev cy:=@Nat.zero_add
abbrev cz:=@List.flatMap_cons
abbrev cA:=@List.Pairwise.imp
abbrev cB:=@List.Pairwise.imp_of_mem
abbrev cC:=@List.pairwise_singleton
abbrev cD:=@List.mem_reverse
abbrev cE:=@PyProof.Rows.wpS_mono
abbrev cF:=@decide_eq_true_iff
abbrev cG:=@List.getElem?_drop
abbrev cH:=@congrArg
abbrev cI:=@List.of_mem_zip
abbrev cJ:=@List.foldl_cons
abbrev cK:=@Nat.lt_irrefl
abbrev cL:=@List.take_append_drop
abbrev cM:=@PySem.wpAny_typeNameOfWhole_keyiter
abbrev cN:=@PySem.wpAny_passesOwn
abbrev cO:=@Int.le_refl
abbrev cP:=@Array.perm_iff_toList_perm
abbrev cQ:=@List.mem_flatten
abbrev cR:=@List.map_reverse
abbrev cS:=@List.length_drop
abbrev cT:=@List.getElem_zip
abbrev cU:=@List.getElem_inj
abbrev cV:=@Int.min_eq_right
abbrev cW:=@Int.max_eq_right
abbrev cX:=@PySem.wpAny_truthy_bool
abbrev cY:=@List.getLastD_eq_getLast?
abbrev cZ:=@PySem.sizeLine_eq
abbrev dc:=@if_false
abbrev de:=@PySem.boot_len
abbrev df:=@List.find?_cons
abbrev dg:=@Int.min_eq_left
abbrev dh:=@Int.max_eq_left
abbrev di:=@PySem.wpAny_call_entry
abbrev dt:=@Int.emod_lt_of_pos
abbrev dw:=@PySem.wpAny_typeNameOf_keyiter
abbrev dC:=@List.getElem?_dropLast
abbrev dD:=@List.perm_append_comm
abbrev dE:=@List.getElem?_reverse
abbrev dF:=@List.Perm.append_left
abbrev dH:=@List.not_mem_nil
abbrev dN:=@Bool.and_eq_true
abbrev dO:=@PySem.wpAny_newObj_type
abbrev dQ:=@PySem.PassesOwn.leaving
abbrev dR:=@List.mem_of_mem_take
abbrev dS:=@List.getElem?_set_ne
abbrev dU:=@Int.emod_nonneg
abbrev dW:=@PyProof.Rows.boot_tuple
abbrev dX:=@List.flatten_append
abbrev dY:=@List.flatMap_append
abbrev dZ:=@List.filterMap_cons
abbrev d8:=@PySem.call_meets
abbrev ef:=@PySem.F.slot_range_reversed
abbrev eh:=@Nat.add_zero
abbrev ei:=@PySem.Paired.length
abbrev en:=@PySem.wpAny_of_eq
abbrev er:=@Nat.lt_of_le_of_lt
abbrev eA:=@List.zip_cons_cons
abbrev eB:=@List.mem_range
abbrev eC:=@PySem.wpAny_execs_nil
abbrev eD:=@List.getLast?_eq_getElem?
abbrev eE:=@List.getElem?_zip_eq_some
abbrev eF:=@List.drop_eq_getElem_cons
abbrev eG:=@decide_eq_true_eq
abbrev eI:=@Nat.le_succ
abbrev eJ:=@List.foldl_append
abbrev eL:=@List.ext_getElem?
abbrev eM:=@PySem.F.slot_list_insert
abbrev eN:=@List.map_drop
abbrev eO:=@PySem.wpAny_rule
abbrev eP:=@PySem.wpAny_Call_Name_kw
abbrev eQ:=@PySem.F.type_list_clear
abbrev eR:=@PySem.F.slot_list_clear
abbrev eS:=@List.getElem_mem
abbrev eT:=@List.any_eq_true
set_option Elab.async false
set_option linter.all false
set_option maxRecDepth 100000
namespace L2
open PySem PySem.Spec PyProof.Rows
abbrev Key:=Sum Int Str
def sf:Key->Value->Bool
 |.inl k,v=>Value.isInt k v
 |.inr x,v=>Value.isStrOf x v
def HI (w:World):Key->Int
 |.inl k=>hashInt k
 |.inr x=>hashStr w x
theorem gT:∀ {k:Key}{v:Value},sf k v=true->(∃ i t,k=Sum.inl i/\v=Value.int i t)\/(∃ x t,k=Sum.inr x/\v=Value.str x t)
 |.inl i,v,h=>by
  obtain⟨t,e⟩:=Value.isInt_shape (k:=i) (v:=v) h
  exact .inl ⟨i,t,rfl,e⟩
 |.inr x,v,h=>by
  obtain⟨t,e⟩:=Value.isStrOf_shape (x:=x) (v:=v) h
  exact .inr ⟨x,t,rfl,e⟩
theorem yi (i:Int)(t:Tok):sf (.inl i) (.int i t)=true:=by simp[sf,Value.isInt]
theorem yh (x:Str)(t:Tok):sf (.inr x) (.str x t)=true:=by simp[sf,Value.isStrOf]
theorem CK (a b:Int):decide ((Sum.inl a:Key)=Sum.inl b)=(a==b):=by
 by_cases e:a=b
 ·subst e;simp
 ·have h:¬(Sum.inl a:Key)=Sum.inl b:=λq=>e (Sum.inl.inj q)
  rw[bo h]
  exact(beq_eq_false_iff_ne.mpr e).symm
theorem CH (a b:Str):decide ((Sum.inr a:Key)=Sum.inr b)=decide (a=b):=by
 by_cases e:a=b
 ·subst e;simp
 ·have h:¬(Sum.inr a:Key)=Sum.inr b:=λq=>e (Sum.inr.inj q)
  rw[bo h,bo e]
theorem CJ (a:Int)(b:Str):decide ((Sum.inl a:Key)=Sum.inr b)=false:=bo (λq=>nomatch q)
theorem CI (a:Str)(b:Int):decide ((Sum.inr a:Key)=Sum.inl b)=false:=bo (λq=>nomatch q)
def g9 (prog:Program)(w:World):PySem.KeyKind prog w Key where
 is:=sf
 hash:=HI w
 inj:=λv a b ha hb=>by
  rcases gT ha with⟨i,t,rfl,rfl⟩|⟨x,t,rfl,rfl⟩
  ·rcases gT hb with⟨j,u,rfl,e⟩|⟨y,u,rfl,e⟩
   ·injection e with e1 _;rw[e1]
   ·exact nomatch e
  ·rcases gT hb with⟨j,u,rfl,e⟩|⟨y,u,rfl,e⟩
   ·exact nomatch e
   ·injection e with e1 _;rw[e1]
 byValue:=λk v h=>by
  rcases gT h with⟨i,t,rfl,rfl⟩|⟨x,t,rfl,rfl⟩<;>rfl
 pyHash:=λhv h=>by
  rcases gT hv with⟨i,t,rfl,rfl⟩|⟨x,t,rfl,rfl⟩
  ·exact wpAny_pyHash_int h
  ·exact wpAny_pyHash_str h
 eqBool:=λhu hv h=>by
  rcases gT hu with⟨i,t,rfl,rfl⟩|⟨x,t,rfl,rfl⟩
  ·rcases gT hv with⟨j,u,rfl,rfl⟩|⟨y,u,rfl,rfl⟩
   ·rw[CK]at h;exact wpAny_eqBool_int h
   ·rw[CJ]at h;exact SeqAt.EqAt.int_str i t y u _ _ _ _ h
  ·rcases gT hv with⟨j,u,rfl,rfl⟩|⟨y,u,rfl,rfl⟩
   ·rw[CI]at h;exact SeqAt.EqAt.str_int x t j u _ _ _ _ h
   ·rw[CH]at h;exact wpAny_eqBool_str h
 «strs» :=λk x t v h=>by
  rcases gT h with⟨i,u,rfl,e⟩|⟨y,u,rfl,e⟩
  ·exact nomatch e
  ·injection e with e1 _
   subst e1
   cases v<;>rfl
theorem uU (prog:Program)(w:World)(i:Int)(t:Tok):(g9 prog w).is (.inl i) (.int i t)=true:=yi i t
theorem uT (prog:Program)(w:World)(x:Str)(t:Tok):(g9 prog w).is (.inr x) (.str x t)=true:=yh x t
inductive V where
 |non |bl (b:Bool)|int (i:Int)|str (x:Str)|byt (b:Array UInt8)|flt (b:UInt64)|ref (a:Addr)|ty (n:String)
 deriving DecidableEq
def RelV:V->Value->Prop
 |.non,u=>u=Value.none
 |.bl b,u=>u=Value.bool b
 |.int i,u=>∃ t,u=Value.int i t
 |.str x,u=>∃ t,u=Value.str x t
 |.byt b,u=>∃ t,u=Value.bytes b t
 |.flt b,u=>∃ t,u=Value.float b t
 |.ref a,u=>u=Value.ref a
 |.ty n,u=>u=Value.type n
abbrev Vals:List V->List Value->Prop:=Paired RelV
theorem Vals.length {xs:List V}{us:List Value}(r:Vals xs us):xs.length=us.length:=ei r
theorem Vals.get:∀ {xs:List V}{us:List Value}{i:Nat}{x:V},Vals xs us->xs[i]? = some x->∃ u,us[i]? = some u/\RelV x u
 |_,_,_,_,.nil,e=>by simp at e
 |_,_,0,_,.cons r _,e=>by simp at e;subst e;exact⟨_,rfl,r⟩
 |_,_,i+1,x,.cons _ t,e=>by
  obtain⟨u,h1,h2⟩:=Vals.get (i:=i) (x:=x) t (by simpa using e)
  exact⟨u,by simpa using h1,h2⟩
theorem Vals.append:∀ {xs ys:List V}{us ws:List Value},Vals xs us->Vals ys ws->Vals (xs++ys) (us++ws)
 |_,_,_,_,.nil,s=>s
 |_,_,_,_,.cons r t,s=>.cons r (Vals.append t s)
theorem Vals.take:∀ {xs:List V}{us:List Value} (n:Nat),Vals xs us->Vals (xs.take n) (us.take n)
 |_,_,0,_=>.nil
 |_,_,_+1,.nil=>.nil
 |_,_,n+1,.cons r t=>.cons r (Vals.take n t)
theorem Vals.drop:∀ {xs:List V}{us:List Value} (n:Nat),Vals xs us->Vals (xs.drop n) (us.drop n)
 |_,_,0,r=>r
 |_,_,_+1,.nil=>.nil
 |_,_,n+1,.cons _ t=>Vals.drop n t
def ra:Option V->Option Value->Prop
 |some v,some u=>RelV v u
 |none,none=>True
 |_,_=>False
def KV {κ:Type} :List (κ×V)->List (κ×Value)->Prop:=Paired λ(p:κ×V) (q:κ×Value)=>p.1=q.1/\RelV p.2 q.2
def kV:Key->V
 |.inl i=>.int i
 |.inr x=>.str x
inductive HO where
 /-- a list -/
 |lst (xs:List V)
 /-- a tuple (never changes) -/
 |tup (xs:List V)
 /-- a dict DE keys are ints and texts;one DE keys are tuples of ints and texts (the empty one is both) -/
 |dK (kvs:List (Key×V))|dT (kvs:List (List Key×V))
 /-- a set of ints:its members,its size -/
 |set (S:Int->Bool) (n:Nat)
 /-- an instance of the class at C,its dict at dx,its attributes -/
 |ins (C dx:Addr) (fs:List (Str×V))
 /-- the dict of the instance at x -/
 |own (x:Addr)
 /-- the dict of an exception -/
 |xd (fs:List (Str×V))
 /-- a bound method,f of x -/
 |met (f x:Addr)
 /-- a range object lo,lo+1,.. below hi -/
 |rng (lo hi:Int)
 /-- a DO Kn is known to the object (the F6;a dict while a loop walks it):read,never written while it is so -/
 |frz (o:Obj) (u:HO)
 /-- a code Ej table -/
 |tbl (ps:Array Value)
 /-- any other DO,by Km is true of its one object (a def of Kl own:Kf a S n:=HO.ext λh=>..) -/
 |ext (φ:Heap->Prop)
abbrev Hp:=Addr->Option HO
def upd (H:Hp)(a:Addr)(o:HO):Hp:=λb=>if b=a then some o else H b
theorem eW {H:Hp}{a:Addr}{o:HO} :upd H a o a=some o:=by unfold upd;rw[aH rfl]
theorem fc {H:Hp}{a b:Addr}{o:HO}(h:b≠a):upd H a o b=H b:=by unfold upd;rw[ax h]
theorem pL {H:Hp}{a:Addr}{o u:HO} :upd (upd H a o) a u=upd H a u:=by
 funext b;unfold upd;split<;>rfl
theorem gL {H:Hp}{a b:Addr}{o u:HO}(h:H a=some o)(h':H b=some u)(d:o≠u):a≠b:=by
 intro e;subst e;rw[h]at h';exact d (aZ h')
theorem eZ {H:Hp}{a b:Addr}{o:HO}(h:H a=some o)(h':H b=none):a≠b:=by
 intro e;subst e;rw[h]at h';cases h'
section
variable (P:Program)(w:World)
def gO (H:Hp)(h:Heap)(a:Addr):HO->Prop
 |.lst xs=>xs.length<=sizeLine/\∃ (its:List Value) (n:Nat),Vals xs its/\h.get? a=some {cls:=.type "list",data:=.seq its.toArray n}
 |.tup xs=>xs.length<=sizeLine/\∃ its:List Value,Vals xs its/\IsTup h a its.toArray
 |.dK kvs=>kvs.length<=sizeLine/\(a==sysModules)=false/\∃ vs,KV kvs vs/\h.DictOf (g9 P w) a vs
 |.dT kvs=>kvs.length<=sizeLine/\(a==sysModules)=false/\∃ xs:List (List Key×Addr×Value),
   Paired (λ(p:List Key×V) (q:List Key×Addr×Value)=>p.1=q.1/\H q.2.1=some (.tup (p.1.map kV))/\RelV p.2 q.2.2) kvs xs/\
   ∃ o es ep,h.get? a=some o/\o.ExactDict/\o.data = .dict es ep/\es.toList=xs.map (entryOfKey (tupleKind (g9 P w)))/\(xs.map (·.1)).Nodup
 |.set S n=>h.SetOf (intKind P w) a S n
 |.ins C dx fs=>H dx=some (.own a)/\fs.length<=1000/\dx≠a/\h.get? a=some (PySem.W.instObj C dx)/\
   ∃ mA,h.Ns1 dx mA/\(∀ f,ra (fs.lookup f) (mA f))/\PySem.Within mA (fs.map (·.1))
 |.own _=>∃ o,h.get? a=some o
 |.xd fs=>∃ mA,h.Ns1 a mA/\∀ f,ra (fs.lookup f) (mA f)
 |.rng lo hi=>∃ t u v,h.get? a=some {cls:=.type "range",data:=.fields #[.int lo t,.int hi u,.int 1 v]}
 |.frz o u=>h.get? a=some o/\gO H h a u
 |.tbl ps=>h.get? a=some {cls:=.none,data:=.fields ps}
 |.met f x=>h.get? a=some (PySem.W.methodObj (.ref f) (.ref x))
 |.ext φ=>φ h/\(∃ o,h.get? a=some o)/\∀ h1 h2:Heap,φ h1->(∀ o,h1.get? a=some o->h2.get? a=some o)->φ h2
def HOk (H:Hp)(h:Heap):Prop:=∀ a o,H a=some o->gO P w H h a o
end
section
variable {P:Program}{w:World}{H H':Hp}{h h':Heap}{a:Addr}{o:HO}
theorem gO.lt (x:gO P w H h a o):a<h.objs.size:=by
 cases o with
 |lst xs=>obtain⟨_,_,_,_,e⟩:=x;exact aK e
 |tup xs=>obtain⟨_,_,_,p⟩:=x;exact p.lt
 |dK kvs=>obtain⟨_,_,_,_,o,_,_,e,_⟩:=x;exact aK e
 |dT kvs=>obtain⟨_,_,_,_,o,_,_,e,_⟩:=x;exact aK e
 |set S n=>obtain⟨o,_,_,_,e,_⟩:=x;exact aK e
 |ins C dx fs=>obtain⟨_,_,_,e,_⟩:=x;exact aK e
 |own y=>obtain⟨_,e⟩:=x;exact aK e
 |xd fs=>obtain⟨_,⟨_,_,_,e,_⟩,_⟩:=x;exact aK e
 |rng lo hi=>obtain⟨_,_,_,e⟩:=x;exact aK e
 |frz ob u=>obtain⟨e,_⟩:=x;exact aK e
 |tbl ps=>exact aK (show h.get? a=some _ from x)
 |met f y=>exact aK (show h.get? a=some _ from x)
 |ext φ=>obtain⟨_,⟨_,e⟩,_⟩:=x;exact aK e
theorem Paired.CF {α β:Type}{F G:α->β->Prop} :∀ {l₁:List α}{l₂:List β},Paired F l₁ l₂->(∀ a b,F a b->G a b)->Paired G l₁ l₂
 |_,_,.nil,_=>.nil
 |_,_,.cons r t,f=>.cons (f _ _ r) (Paired.CF t f)
theorem gO.oK (x:gO P w H h a o)(k:∀ b u,(b=a\/H b=some (.own a))->h.get? b=some u->h'.get? b=some u)
  (ho:∀ b,H b=some (.own a)->H' b=some (.own a)) (ht:∀ b xs,H b=some (.tup xs)->H' b=some (.tup xs)):gO P w H' h' a o:=by
 induction o with
 |lst xs=>obtain⟨z,its,n,r,e⟩:=x;exact⟨z,its,n,r,k _ _ (.inl rfl) e⟩
 |tup xs=>obtain⟨z,its,r,ob,e,c⟩:=x;exact⟨z,its,r,ob,k _ _ (.inl rfl) e,c⟩
 |dK kvs=>obtain⟨z,y,vs,r,ob,es,ep,e,c⟩:=x;exact⟨z,y,vs,r,ob,es,ep,k _ _ (.inl rfl) e,c⟩
 |dT kvs=>
  obtain⟨z,y,xs,r,ob,es,ep,e,c⟩:=x
  exact⟨z,y,xs,Paired.CF r λp q z=>⟨z.1,ht _ _ z.2.1,z.2.2⟩,ob,es,ep,k _ _ (.inl rfl) e,c⟩
 |set S n=>obtain⟨ob,es,ep,t,e,c⟩:=x;exact⟨ob,es,ep,t,k _ _ (.inl rfl) e,c⟩
 |ins C dx fs=>
  obtain⟨d,z,ne,e,mA,⟨od,es,ep,e2,c⟩,r⟩:=x
  exact⟨ho _ d,z,ne,k _ _ (.inl rfl) e,mA,⟨od,es,ep,k _ _ (.inr d) e2,c⟩,r⟩
 |own y=>obtain⟨ob,e⟩:=x;exact⟨ob,k _ _ (.inl rfl) e⟩
 |xd fs=>obtain⟨mA,⟨od,es,ep,e,c⟩,r⟩:=x;exact⟨mA,⟨od,es,ep,k _ _ (.inl rfl) e,c⟩,r⟩
 |rng lo hi=>obtain⟨t,u,v,e⟩:=x;exact⟨t,u,v,k _ _ (.inl rfl) e⟩
 |frz ob u ih=>obtain⟨e,q⟩:=x;exact⟨k _ _ (.inl rfl) e,ih q⟩
 |tbl ps=>
  have e:h.get? a=some {cls:=.none,data:=.fields ps} :=x
  show h'.get? a=some {cls:=.none,data:=.fields ps}
  exact k a _ (.inl rfl) e
 |met f y=>
  have e:h.get? a=some (PySem.W.methodObj (.ref f) (.ref y)):=x
  show h'.get? a=some (PySem.W.methodObj (.ref f) (.ref y))
  exact k a _ (.inl rfl) e
 |ext φ=>obtain⟨p,⟨o,e⟩,st⟩:=x;exact⟨st _ _ p λo q=>k _ _ (.inl rfl) q,⟨o,k _ _ (.inl rfl) e⟩,st⟩
theorem HOk.lt (x:HOk P w H h)(e:H a=some o):a<h.objs.size:=(x a o e).lt
theorem HOk.fresh (x:HOk P w H h)(e:h.objs.size<=a):H a=none:=by
 cases q:H a with
 |none=>rfl
 |some u=>exact absurd (aU (x.lt q) e) (cK _)
theorem HOk.kept (x:HOk P w H h)(k:∀ b u,h.get? b=some u->h'.get? b=some u):HOk P w H h':=λa o e=>
 (x a o e).oK (λb u _ q=>k b u q) (λ_ q=>q) λ_ _ q=>q
theorem HOk.laid (x:HOk P w H h)(k:∀ b u,h.get? b=some u->h'.get? b=some u)(hp:h.objs.size<=a)(new:gO P w (upd H a o) h' a o):HOk P w (upd H a o) h':=λb u e=>by
 have hn:=x.fresh hp
 by_cases hb:b=a
 ·subst hb;rw[eW]at e;cases e;exact new
 ·rw[fc hb]at e
  exact(x b u e).oK (λc v _ q=>k c v q) (λc q=>by rw[fc (eZ q hn)];exact q) λc xs q=>by rw[fc (eZ q hn)];exact q
end
def Rd (H:Hp)(a:Addr)(u:HO):Prop:=H a=some u\/∃ o,H a=some (.frz o u)
theorem Rd.ok {P:Program}{w:World}{H:Hp}{h:Heap}{a:Addr}{u:HO}(r:Rd H a u)(x:HOk P w H h):gO P w H h a u:=by
 rcases r with r |⟨o,r⟩
 ·exact x a u r
 ·obtain⟨_,q⟩:=x a _ r
  exact q
def Mut:Option HO->Prop
 |some (.lst _)=>True
 |some (.dK _)=>True
 |some (.dT _)=>True
 |some (.set _ _)=>True
 |some (.ins _ _ _)=>True
 |some (.ext _)=>True
 |_=>False
section
variable {P:Program}{w:World}{H:Hp}{h h':Heap}{x e:Addr}{o':HO}
theorem HOk.write (ok:HOk P w H h)(mu:Mut (H x))(he:e=x\/H e=some (.own x))(k:∀ b u,b≠e->h.get? b=some u->h'.get? b=some u)(heo:∃ u,h'.get? e=some u)
  (new:gO P w (upd H x o') h' x o'):HOk P w (upd H x o') h':=λb u q=>by
 have Em:∀ c y,H c=some (.own y)->c≠x:=λc y r z=>by subst z;rw[r]at mu;exact mu
 have Hy:∀ c xs,H c=some (.tup xs)->c≠x:=λc xs r z=>by subst z;rw[r]at mu;exact mu
 by_cases hb:b=x
 ·subst hb;rw[eW]at q;cases q;exact new
 ·rw[fc hb]at q
  by_cases hbe:b=e
  ·have q':H b=some (.own x):=by
    rcases he with z |z
    ·exact absurd (hbe.trans z) hb
    ·rw[hbe];exact z
   rw[q]at q';cases q'
   obtain⟨v,hv⟩:=heo
   exact⟨v,by rw[hbe];exact hv⟩
  ·refine(ok b u q).oK (λc v hc r=>k c v ?_ r) (λc r=>by rw[fc (Em c b r)];exact r) λc xs r=>by rw[fc (Hy c xs r)];exact r
   rcases hc with rfl |hc
   ·exact hbe
   ·rintro rfl
    rcases he with z |z
    ·exact Em c b hc z
    ·rw[hc]at z;cases z;exact hb rfl
end
structure Un (fs ex:List Addr)(H H':Hp)(h h':Heap):Prop where
 keep:∀ b o,h.get? b=some o->H b=none->b∉fs->b∉ex->h'.get? b=some o
 slot:∀ b o,h.get? b=some o->H b=none->b∈fs->b∉ex->∃ sl,h'.get? b=some {o with slots:=sl}
 free:∀ b o,h.get? b=some o->H b=none->b∉ex->H' b=none
 there:∀ b o,h.get? b=some o->b∉ex->∃ o',h'.get? b=some o'
 nD:∀ b xs,H b=some (.tup xs)->H' b=some (.tup xs)
 l0:∀ b o u,H b=some (.frz o u)->H' b=some (.frz o u)
 nE:∀ b ps,H b=some (.tbl ps)->∃ more,H' b=some (.tbl (ps++more))
section
variable {fs fs' ex ex':List Addr}{H H1 H2:Hp}{h h1 h2 h':Heap}{a x e:Addr}{o:HO}
theorem Un.any (u:Un fs ex H H1 h h1){b:Addr}{ob:Obj}(q:h.get? b=some ob)(n:H b=none)(hx:b∉ex):∃ sl,h1.get? b=some {ob with slots:=sl} :=by
 by_cases hb:b∈fs
 ·exact u.slot b ob q n hb hx
 ·exact⟨ob.slots,u.keep b ob q n hb hx⟩
theorem Un.trans (a:Un fs ex H H1 h h1)(b:Un fs ex H1 H2 h1 h2):Un fs ex H H2 h h2 where
 keep:=λc ob q n hc hx=>b.keep c ob (a.keep c ob q n hc hx) (a.free c ob q n hx) hc hx
 slot:=λc ob q n hc hx=>by
  obtain⟨sl,e1⟩:=a.slot c ob q n hc hx
  obtain⟨sl',e2⟩:=b.slot c _ e1 (a.free c ob q n hx) hc hx
  exact⟨sl',e2⟩
 free:=λc ob q n hx=>by
  obtain⟨o',e1⟩:=a.there c ob q hx
  exact b.free c o' e1 (a.free c ob q n hx) hx
 there:=λc ob q hx=>by
  obtain⟨o',e1⟩:=a.there c ob q hx
  exact b.there c o' e1 hx
 nD:=λc xs q=>b.nD c xs (a.nD c xs q)
 l0:=λc ob xs q=>b.l0 c ob xs (a.l0 c ob xs q)
 nE:=λc ps q=>by
  obtain⟨m1,e1⟩:=a.nE c ps q
  obtain⟨m2,e2⟩:=b.nE c _ e1
  exact⟨m1++m2,by rw[e2,Array.append_assoc]⟩
theorem Un.kept (k:∀ b u,h.get? b=some u->h'.get? b=some u):Un fs ex H H h h':=
 ⟨λb ob q _ _ _=>k b ob q,λb ob q _ _ _=>⟨ob.slots,k b ob q⟩,λ_ _ _ n _=>n,λb ob q _=>⟨ob,k b ob q⟩,λ_ _ q=>q,λ_ _ _ q=>q,λ_ ps q=>⟨#[],by rw[q];simp⟩⟩
theorem Un.refl:Un fs ex H H h h:=Un.kept λ_ _ q=>q
theorem Un.laid (k:∀ b u,h.get? b=some u->h'.get? b=some u)(hp:h.objs.size<=a)(hn:H a=none):Un fs ex H (upd H a o) h h' where
 keep:=λb u q _ _ _=>k b u q
 slot:=λb u q _ _ _=>⟨u.slots,k b u q⟩
 free:=λb u q n _=>by rw[fc (bw (aU (aK q) hp))];exact n
 there:=λb u q _=>⟨u,k b u q⟩
 nD:=λb xs q=>by rw[fc (eZ q hn)];exact q
 l0:=λb u xs q=>by rw[fc (eZ q hn)];exact q
 nE:=λb ps q=>⟨#[],by rw[fc (eZ q hn),q];simp⟩
theorem Un.write (mu:Mut (H x))(he:e=x\/H e=some (.own x))(k:∀ b u,b≠e->h.get? b=some u->h'.get? b=some u)(heo:∃ u,h'.get? e=some u):Un fs ex H (upd H x o) h h':=by
 have hx:∀ b,H b=none->b≠x:=λb n z=>by subst z;rw[n]at mu;exact mu
 have hb:∀ b,H b=none->b≠e:=λb n z=>by
  subst z
  rcases he with r |r
  ·exact hx b n r
  ·rw[n]at r;cases r
 have hm:∀ b u,H b=some u->¬Mut (some u)->b≠x:=λb u q nm z=>by subst z;rw[q]at mu;exact nm mu
 refine⟨λb u q n _ _=>k b u (hb b n) q,λb u q n _ _=>⟨u.slots,k b u (hb b n) q⟩,λb u q n _=>by rw[fc (hx b n)];exact n,λb u q _=>?_,
  λb xs q=>by rw[fc (hm b _ q λz=>z)];exact q,λb u xs q=>by rw[fc (hm b _ q λz=>z)];exact q,λb ps q=>⟨#[],by rw[fc (hm b _ q λz=>z),q];simp⟩⟩
 by_cases hbe:b=e
 ·subst hbe;exact heo
 ·exact⟨u,k b u hbe q⟩
end
def trk (h:Heap)(H:Hp):List Addr:=(List.range h.objs.size).filter λa=>(H a).isSome
def tT (h:Heap)(H:Hp):Heap:=PySem.W.hideAll h (trk h H)
theorem ym (h:Heap)(H:Hp):(tT h H).objs.size=h.objs.size:=PySem.W.hideAll_size _ _
theorem zR {h:Heap}{H:Hp}{b:Addr}{o:Obj}(e:h.get? b=some o)(n:H b=none):(tT h H).get? b=some o:=
 PySem.W.hideAll_get _ e λhm=>by
  have q:(H b).isSome=true:=(ba.mp hm).2
  rw[n]at q;simp at q
theorem AX {h:Heap}{H:Hp}{b:Addr}{o:Obj}(e:(tT h H).get? b=some o):h.get? b=some o/\H b=none:=by
 have e':h.get? b=some o:=PySem.W.of_hideAll (trk h H) e
 refine⟨e',?_⟩
 cases q:H b with
 |none=>rfl
 |some x=>
  have hm:b∈trk h H:=ba.mpr ⟨eB.mpr (aK e'),by simp[q]⟩
  have z:(tT h H).get? b=none:=PySem.W.hideAll_none (trk h H) hm
  rw[z]at e;cases e
structure Mod (K:PySem.W.Frag)(mg:Str->Option Value)(base:Heap):Prop where
 kin:K.In base
 glob:base.Ns mainGlobals mg
 blt:∃ mb,base.Ns builtinsNs mb/\∀ x:Str,x≠ "__name__" ->mb x=bootBuiltins x
 nolimit:base.NoLimit
structure Cx where
 prog:Program
 w:World
 K:PySem.W.Frag
 mg:Str->Option Value
 base:Heap
 A:Around
 N:List Str
 s₀:Shared
 H₀:Hp
 env:Env
 outer:List Env
 stack:List Env
 ex:List Addr
 fn:Str->Bool
 calm:Bool
 pn:List (Addr×Obj)
 xe:Value->Shared->Prop
def frs (l:List Env):List Addr:=l.filterMap (·.frame)
abbrev Cx.fs (X:Cx):List Addr:=frs X.outer
def Vis (sc:Scope)(x:Str):Prop:=sc.names.lookup x=some .local\/sc.names.lookup x=some .cell\/sc.names.lookup x=some .free
def Loc (sc:Scope)(x:Str):Prop:=sc.names.lookup x=some .local\/sc.names.lookup x=some .cell
def Look (env:Env)(h:Heap)(m:Str->Option Value)(x:Str)(u:Value):Prop:=
 (env.kindOf x=some .local/\m x=some u)\/((env.kindOf x=some .cell\/env.kindOf x=some .free)/\∃ c,env.cells.lookup x=some c/\h.IsCell c (some u))
structure Cx.Ok (X:Cx):Prop where
 mod:Mod X.K X.mg X.base
 kind:X.env.scope.kind = .function
 glob:X.env.globals=mainGlobals
 blt:X.env.builtins=builtinsNs
 above:X.s₀.heap.objs.size<=X.env.locals
 inj:∀ x y c,X.env.cells.lookup x=some c->X.env.cells.lookup y=some c->x=y
 has:∀ x,(X.env.kindOf x=some .cell\/X.env.kindOf x=some .free)->∃ c,X.env.cells.lookup x=some c
 cab:∀ x c,X.fn x=true->X.env.cells.lookup x=some c->X.s₀.heap.objs.size<=c
 hd:X.calm=true->X.A.handled=none
 frames:X.A.frames=some X.stack
 stk:X.stack=X.outer\/(X.stack=X.env::X.outer/\X.env.frame=some X.env.locals)
 exf:∀ b∈X.ex,b≠X.env.locals/\∀ x c,X.env.cells.lookup x=some c->c≠b
 bs:∀ b o,X.base.get? b=some o->X.s₀.heap.get? b=some o/\X.H₀ b=none
 bsz:X.base.objs.size<=X.s₀.heap.objs.size
 vW:∀ b o,X.base.get? b=some o->b∉X.ex
 yp:∀ b∈X.ex,b∉X.fs
 oV:X.s₀.heap.FunFrames X.base X.outer
 frf:∀ b∈X.fs,X.H₀ b=none
structure Inv (X:Cx)(pins:List (Addr×Obj))(σ:List (Option V))(H:Hp)(s:Shared):Prop where
 ok:X.Ok
 os:s.os=X.s₀.os
 bare:AllBare s.gens
 base:Un X.fs X.ex X.H₀ H X.s₀.heap s.heap
 loc:∃ m,s.heap.Ns X.env.locals m/\∀ (i:Nat) (x:Str) (v:V),X.N[i]? = some x->σ[i]? = some (some v)->Vis X.env.scope x->∃ u,RelV v u/\Look X.env s.heap m x u
 cell:∀ x c,X.env.cells.lookup x=some c->∃ v,s.heap.IsCell c v
 free:H X.env.locals=none
 je:∀ x c,X.env.cells.lookup x=some c->H c=none
 pin:∀ p∈X.pn++pins,s.heap.get? p.1=some p.2/\H p.1=none/\p.1≠X.env.locals/\p.1∉X.fs/\∀ v,p.2.data≠ .cell v
 hok:HOk X.prog X.w H s.heap
 len:σ.length=X.N.length
section
variable {X:Cx}{pins:List (Addr×Obj)}{σ:List (Option V)}{H H':Hp}{s:Shared}{h':Heap}
theorem Cx.Ok.HB (ok:X.Ok){b:Addr}{o:Obj}(e:X.base.get? b=some o):b∉X.fs:=λhb=>by
 have:=(ok.oV.mem hb).1
 rw[e]at this;cases this
theorem Inv.bs (I:Inv X pins σ H s):∀ b o,X.base.get? b=some o->s.heap.get? b=some o/\H b=none:=λb o e=>
 ⟨I.base.keep b o (I.ok.bs b o e).1 (I.ok.bs b o e).2 (I.ok.HB e) (I.ok.vW b o e),I.base.free b o (I.ok.bs b o e).1 (I.ok.bs b o e).2 (I.ok.vW b o e)⟩
theorem Inv.bk (I:Inv X pins σ H s):∀ b o,X.base.get? b=some o->s.heap.get? b=some o:=λb o e=>(I.bs b o e).1
theorem Inv.mod (I:Inv X pins σ H s):Mod X.K X.mg X.base:=I.ok.mod
theorem Inv.kIn (I:Inv X pins σ H s):X.K.In s.heap:=I.ok.mod.kin.keeps I.bk
theorem Inv.lt (I:Inv X pins σ H s):X.env.locals<s.heap.objs.size:=let ⟨_,hn,_⟩:=I.loc;hn.lt
theorem Inv.sz (I:Inv X pins σ H s):X.s₀.heap.objs.size<=s.heap.objs.size:=bF I.ok.above (b9 I.lt)
theorem Inv.HA (I:Inv X pins σ H s){a:Addr}(h:s.heap.objs.size<=a):a∉X.fs:=λhb=>by
 obtain⟨_,o,ho,_⟩:=I.ok.oV.mem hb
 exact absurd (aU (aK ho) (bF I.sz h)) (cK _)
theorem Inv.cne (I:Inv X pins σ H s):∀ x c,X.env.cells.lookup x=some c->c≠X.env.locals:=λx c e z=>by
 obtain⟨v,o,ho,hd⟩:=I.cell x c e
 obtain⟨m,⟨o',es,ep,ho',hd',_⟩,_⟩:=I.loc
 rw[z,ho']at ho;cases ho;rw[hd']at hd;cases hd
theorem Inv.oV (I:Inv X pins σ H s):s.heap.FunFrames X.base X.outer:=by
 have all:∀ (l:List Env),(∀ b∈frs l,b∈X.fs)->X.s₀.heap.FunFrames X.base l->s.heap.FunFrames X.base l:=by
  intro l
  induction l with
  |nil=>intro _ _;trivial
  |cons env r ih=>
   intro hs hl
   obtain⟨hk,⟨L,o,hf,hn,ho,hd⟩,hr⟩:=hl
   have hL:L∈X.fs:=hs L (by unfold frs;rw[dZ,hf];exact aC)
   obtain⟨sl,e⟩:=I.base.slot L o ho (I.ok.frf L hL) hL λz=>I.ok.yp L z hL
   exact⟨hk,⟨L,_,hf,hn,e,hd⟩,ih (λb hb=>hs b (by unfold frs;rw[dZ,hf];exact aE _ hb)) hr⟩
 exact all X.outer (λ_ hb=>hb) I.ok.oV
theorem Inv.stack (I:Inv X pins σ H s):s.heap.FunFrames X.base X.stack:=by
 rcases I.ok.stk with e |⟨e,hf⟩
 ·rw[e];exact I.oV
 ·rw[e]
  obtain⟨m,hn,_⟩:=I.loc
  refine .cons (by rw[I.ok.kind];decide) hf hn ?_ I.oV
  exact Heap.get?_none_of_le (bF I.ok.bsz I.ok.above)
theorem Inv.oJ (I:Inv X pins σ H s):∀ b∈frs X.stack,b∈X.env.locals::X.fs:=λb hb=>by
 rcases I.ok.stk with e |⟨e,hf⟩
 ·rw[e]at hb;exact aE _ hb
 ·rw[e]at hb
  unfold frs at hb
  rw[dZ,hf]at hb
  exact hb
theorem Inv.sM (I:Inv X pins σ H s):∀ b∈frs X.stack,H b=none:=λb hb=>by
 rcases aO.mp (I.oJ b hb)with e |hb
 ·rw[e];exact I.free
 ·obtain⟨_,o,ho,_⟩:=I.ok.oV.mem hb
  exact I.base.free b o ho (I.ok.frf b hb) λz=>I.ok.yp b z hb
theorem Inv.step {g':Array GenState}{t':Nat}{d':Drawn}{ch:List Addr}(I:Inv X pins σ H s)
  (hch:∀ b∈ch,(b∈X.ex\/X.s₀.heap.objs.size<=b)/\b≠X.env.locals/\(∀ x c,X.env.cells.lookup x=some c->c≠b)/\∀ p∈X.pn++pins,p.1≠b)
  (keep:∀ b o,b≠X.env.locals->b∉X.fs->b∉ch->s.heap.get? b=some o->H b=none->h'.get? b=some o)
  (slot:∀ b o,b≠X.env.locals->b∈X.fs->b∉ch->s.heap.get? b=some o->H b=none->∃ sl,h'.get? b=some {o with slots:=sl}) (free:∀ b o,b∉ch->s.heap.get? b=some o->H b=none->H' b=none)
  (there:∀ b o,b∉ch->s.heap.get? b=some o->∃ o',h'.get? b=some o')
  (nD:∀ b xs,H b=some (.tup xs)->H' b=some (.tup xs)) (l0:∀ b o u,H b=some (.frz o u)->H' b=some (.frz o u)) (nE:∀ b ps,H b=some (.tbl ps)->∃ more,H' b=some (.tbl (ps++more)))
  (ns:∀ m,s.heap.Ns X.env.locals m->h'.Ns X.env.locals m) (hok:HOk X.prog X.w H' h') (hg:AllBare g'):
  Inv X pins σ H' {s with heap:=h',gens:=g',drawn:=d',toks:=t'} :=by
 have neL:∀ b o,X.s₀.heap.get? b=some o->b≠X.env.locals:=λb o e=>bw (aU (aK e) I.ok.above)
 have neC:∀ b o,X.s₀.heap.get? b=some o->b∉X.ex->b∉ch:=λb o e hx hb=>by
  rcases(hch b hb).1 with z |z
  ·exact hx z
  ·exact absurd (aU (aK e) z) (cK _)
 have cellK:∀ x c,X.env.cells.lookup x=some c->∀ v,s.heap.IsCell c v->h'.IsCell c v:=λx c e v ⟨o,ho,hd⟩=>by
  have nch:c∉ch:=λz=>(hch c z).2.2.1 x c e rfl
  by_cases hc:c∈X.fs
  ·obtain⟨sl,q⟩:=slot c o (I.cne x c e) hc nch ho (I.je x c e)
   exact⟨_,q,hd⟩
  ·exact⟨o,keep c o (I.cne x c e) hc nch ho (I.je x c e),hd⟩
 refine⟨I.ok,I.os,hg,⟨λb o e n hb hx=>?_,λb o e n hb hx=>?_,λb o e n hx=>?_,λb o e hx=>?_,λb xs e=>nD b xs (I.base.nD b xs e),λb o xs e=>l0 b o xs (I.base.l0 b o xs e),λb ps e=>?_⟩,?_,λx c e=>?_,?_,λx c e=>?_,λp hp=>?_,hok,I.len⟩
 ·exact keep b o (neL b o e) hb (neC b o e hx) (I.base.keep b o e n hb hx) (I.base.free b o e n hx)
 ·obtain⟨sl,e1⟩:=I.base.slot b o e n hb hx
  obtain⟨sl',e2⟩:=slot b _ (neL b o e) hb (neC b o e hx) e1 (I.base.free b o e n hx)
  exact⟨sl',e2⟩
 ·obtain⟨o',e1⟩:=I.base.there b o e hx
  exact free b o' (neC b o e hx) e1 (I.base.free b o e n hx)
 ·obtain⟨o',e1⟩:=I.base.there b o e hx
  exact there b o' (neC b o e hx) e1
 ·obtain⟨m1,e1⟩:=I.base.nE b ps e
  obtain⟨m2,e2⟩:=nE b _ e1
  exact⟨m1++m2,by rw[e2,Array.append_assoc]⟩
 ·obtain⟨m,hn,hl⟩:=I.loc
  refine⟨m,ns m hn,λi x v e1 e2 e3=>?_⟩
  obtain⟨u,r,l⟩:=hl i x v e1 e2 e3
  refine⟨u,r,?_⟩
  rcases l with l |⟨k,c,e,z⟩
  ·exact .inl l
  ·exact .inr ⟨k,c,e,cellK x c e _ z⟩
 ·obtain⟨v,z⟩:=I.cell x c e
  exact⟨v,cellK x c e v z⟩
 ·obtain⟨m,⟨o,_,_,ho,_⟩,_⟩:=I.loc
  exact free _ o (λz=>(hch _ z).2.1 rfl) ho I.free
 ·obtain⟨v,o,ho,hd⟩:=I.cell x c e
  exact free c o (λz=>(hch c z).2.2.1 x c e rfl) ho (I.je x c e)
 ·obtain⟨e,n,ne,nf,d⟩:=I.pin p hp
  have nch:p.1∉ch:=λz=>(hch p.1 z).2.2.2 p hp rfl
  exact⟨keep p.1 p.2 ne nf nch e n,free p.1 p.2 nch e n,ne,nf,d⟩
theorem Inv.un {t':Nat}(I:Inv X pins σ H s)(u:Un X.fs [] H H' s.heap h')(hok:HOk X.prog X.w H' h'):Inv X pins σ H' {s with heap:=h',toks:=t'} :=by
 obtain⟨m,⟨o,es,ep,ho,r⟩,_⟩:=id I.loc
 obtain⟨sl,hL⟩:=u.any ho I.free (by simp)
 exact I.step (g':=s.gens) (d':=s.drawn) (ch:=[]) (λ_ z=>nomatch z) (λb o _ hb _ e n=>u.keep b o e n hb (by simp)) (λb o _ hb _ e n=>u.slot b o e n hb (by simp)) (λb o _ e n=>u.free b o e n (by simp)) (λb o _ e=>u.there b o e (by simp)) u.nD u.l0 u.nE (λm' hm=>by
  obtain⟨o',es',ep',ho',r'⟩:=hm
  rw[ho]at ho';cases ho'
  exact⟨_,es',ep',hL,r'⟩) hok I.bare
theorem Inv.call {g':Array GenState}{t':Nat}{d':Drawn}{ch:List Addr}(I:Inv X pins σ H s)(u:Un (frs X.stack) ch H H' s.heap h')(hok:HOk X.prog X.w H' h')(hg:AllBare g')
  (hch:∀ b∈ch,(b∈X.ex\/X.s₀.heap.objs.size<=b)/\b≠X.env.locals/\(∀ x c,X.env.cells.lookup x=some c->c≠b)/\∀ p∈X.pn++pins,p.1≠b):
  Inv X pins σ H' {s with heap:=h',gens:=g',drawn:=d',toks:=t'} :=by
 obtain⟨m,⟨o,es,ep,ho,r⟩,_⟩:=id I.loc
 obtain⟨sl,hL⟩:=u.any ho I.free λz=>(hch _ z).2.1 rfl
 exact I.step (ch:=ch) hch (λb o hL hb hc e n=>u.keep b o e n (λz=>(aO.mp (I.oJ b z)).elim hL hb) hc) (λb o _ _ hc e n=>u.any e n hc) (λb o hc e n=>u.free b o e n hc) (λb o hc e=>u.there b o e hc) u.nD u.l0 u.nE (λm' hm=>by
  obtain⟨o',es',ep',ho',r'⟩:=hm
  rw[ho]at ho';cases ho'
  exact⟨_,es',ep',hL,r'⟩) hok hg
theorem Inv.turned {t':Nat}{it:Addr}(I:Inv X pins σ H s)(k:∀ b o,b≠it->s.heap.get? b=some o->h'.get? b=some o)(hn:H it=none)(hL:it≠X.env.locals)
  (h1:it∈X.ex\/X.s₀.heap.objs.size<=it) (h2:∀ x c,X.env.cells.lookup x=some c->c≠it) (h3:∀ p∈X.pn++pins,p.1≠it):Inv X pins σ H {s with heap:=h',toks:=t'} :=by
 have nit:∀ b u,H b=some u->b≠it:=λb u e z=>by rw[z,hn]at e;cases e
 refine I.step (g':=s.gens) (d':=s.drawn) (ch:=[it]) (λb hb=>?_) (λb o _ _ hc e _=>k b o (λz=>hc (by simp[z])) e) (λb o _ _ hc e _=>⟨o.slots,k b o (λz=>hc (by simp[z])) e⟩) (λ_ _ _ _ n=>n)
  (λb o hc e=>⟨o,k b o (λz=>hc (by simp[z])) e⟩) (λ_ _ e=>e) (λ_ _ _ e=>e) (λb ps e=>⟨#[],by rw[e];simp⟩) (λm hm=>?_) (λb u e=>?_) I.bare
 ·have e:b=it:=by simpa using hb
  subst e
  exact⟨h1,hL,h2,h3⟩
 ·obtain⟨o,es,ep,ho,r⟩:=hm
  exact⟨o,es,ep,k _ o (bZ hL) ho,r⟩
 ·refine(I.hok b u e).oK (λc v hc q=>k c v ?_ q) (λ_ q=>q) λ_ _ q=>q
  rcases hc with z |z
  ·rw[z];exact nit b u e
  ·exact nit c _ z
theorem Inv.tok (I:Inv X pins σ H s)(t:Nat):Inv X pins σ H {s with toks:=t} :=I.un (h':=s.heap) (t':=t) Un.refl I.hok
theorem Inv.kept {t':Nat}(I:Inv X pins σ H s)(k:∀ b u,s.heap.get? b=some u->h'.get? b=some u):Inv X pins σ H {s with heap:=h',toks:=t'} :=I.un (Un.kept k) (I.hok.kept k)
theorem Inv.laid {a:Addr}{o:HO}{t':Nat}(I:Inv X pins σ H s)(k:∀ b u,s.heap.get? b=some u->h'.get? b=some u)(hp:s.heap.objs.size<=a)(new:gO X.prog X.w (upd H a o) h' a o):
  Inv X pins σ (upd H a o) {s with heap:=h',toks:=t'} :=I.un (Un.laid k hp (I.hok.fresh hp)) (I.hok.laid k hp new)
theorem Inv.write {x e:Addr}{o:HO}{t':Nat}(I:Inv X pins σ H s)(mu:Mut (H x))(he:e=x\/H e=some (.own x))(k:∀ b u,b≠e->s.heap.get? b=some u->h'.get? b=some u)(heo:∃ u,h'.get? e=some u)
  (new:gO X.prog X.w (upd H x o) h' x o):Inv X pins σ (upd H x o) {s with heap:=h',toks:=t'} :=I.un (Un.write mu he k heo) (I.hok.write mu he k heo new)
theorem Inv.weak {σ':List (Option V)}(I:Inv X pins σ H s)(hl:σ'.length=σ.length)(w:∀ (i:Nat) v,σ'[i]? = some (some v)->σ[i]? = some (some v)):Inv X pins σ' H s:=
 ⟨I.ok,I.os,I.bare,I.base,let ⟨m,hn,hl'⟩:=I.loc;⟨m,hn,λi x v e1 e2 e3=>hl' i x v e1 (w i v e2) e3⟩,I.cell,I.free,I.je,I.pin,I.hok,hl.trans I.len⟩
theorem Inv.wW {qo:List (Addr×Obj)}(I:Inv X pins σ H s)(h:∀ p∈qo,s.heap.get? p.1=some p.2/\H p.1=none/\p.1≠X.env.locals/\p.1∉X.fs/\∀ v,p.2.data≠ .cell v):Inv X qo σ H s:=
 ⟨I.ok,I.os,I.bare,I.base,I.loc,I.cell,I.free,I.je,λp hp=>(aL.mp hp).elim (λz=>I.pin p (bM _ z)) (h p),I.hok,I.len⟩
theorem qC {N:List Str}(hN:N.Nodup){i j:Nat}{x:Str}(a:N[i]? = some x)(b:N[j]? = some x):i=j:=by
 obtain⟨h1,e1⟩:=af.mp a
 obtain⟨h2,e2⟩:=af.mp b
 exact(cU hN).mp (e1.trans e2.symm)
theorem rJ {M:Model}{A:Around}{E:Value->Shared->Prop}{i:Nat}{x:Str}{v:V}{u:Value}{Q:Unit->Shared->Prop}(I:Inv X pins σ H s)(hN:X.N.Nodup)(hi:X.N[i]? = some x)(hx:Loc X.env.scope x)(r:RelV v u)
  (h:∀ s',Inv X pins (σ.set i (some v)) H s'->(∃ a,Heap.SameBut a s.heap s'.heap/\(a=X.env.locals\/X.env.cells.lookup x=some a))->Q () s') (hf:X.fn x=true\/X.env.scope.names.lookup x=some .local:=by first |exact .inl rfl |exact .inr rfl |assumption):wpAny M A (storeName X.env x u) Q E s:=by
 obtain⟨m,hn,hl⟩:=id I.loc
 have Df:(X.env.scope.kind == .class||(X.env.scope.kind == .module&&X.env.locals !=X.env.globals))=false:=by rw[I.ok.kind];rfl
 have hiσ:i<σ.length:=by rw[I.len];exact(af.mp hi).1
 have cne:=I.cne
 have tracked:∀ {a:Addr}{h':Heap},(∃ o,s.heap.get? a=some o/\H a=none)->Heap.SameBut a s.heap h'->HOk X.prog X.w H h':=λ{a h'} ha hs b ob e=>by
  obtain⟨_,_,sk⟩:=ha
  refine(I.hok b ob e).oK (λc w' hc q=>(hs.2 c ?_).trans q) (λ_ q=>q) λ_ _ q=>q
  rintro rfl
  rcases hc with rfl |hc
  ·rw[sk]at e;cases e
  ·rw[sk]at hc;cases hc
 rcases hx with hk |hk
 ·refine wpAny_storeName_local hk hn (λh' hn' hs=>?_) Df
  obtain⟨oL,_,_,hoL,_⟩:=id hn
  refine h _ ⟨I.ok,I.os,I.bare,⟨λb o e n hb hx=>?_,λb o e n hb hx=>?_,I.base.free,λb o e hx=>?_,I.base.nD,I.base.l0,I.base.nE⟩,⟨_,hn',λj y v' e1 e2 e3=>?_⟩,λy c e=>?_,I.free,I.je,λp hp=>?_,tracked ⟨oL,hoL,I.free⟩ hs,by simpa using I.len⟩ ⟨_,hs,.inl rfl⟩
  ·exact(hs.2 b (bw (aU (aK e) I.ok.above))).trans (I.base.keep b o e n hb hx)
  ·obtain⟨sl,e1⟩:=I.base.slot b o e n hb hx
   exact⟨sl,(hs.2 b (bw (aU (aK e) I.ok.above))).trans e1⟩
  ·obtain⟨o',e1⟩:=I.base.there b o e hx
   exact⟨o',(hs.2 b (bw (aU (aK e) I.ok.above))).trans e1⟩
  ·by_cases hj:j=i
   ·subst hj
    rw[hi]at e1;cases e1
    rw[List.getElem?_set_self hiσ]at e2
    cases e2
    exact⟨u,r,.inl ⟨hk,by simp⟩⟩
   ·rw[dS (bZ hj)]at e2
    obtain⟨u',r',q⟩:=hl j y v' e1 e2 e3
    refine⟨u',r',?_⟩
    rcases q with⟨k,e⟩|⟨k,c,e,z⟩
    ·refine .inl ⟨k,?_⟩
     have:y≠x:=λe=>hj (qC hN e1 (e ▸ hi))
     simp[this,e]
    ·exact .inr ⟨k,c,e,z.sameBut hs (cne y c e)⟩
  ·obtain⟨w',z⟩:=I.cell y c e
   exact⟨w',z.sameBut hs (cne y c e)⟩
  ·obtain⟨e,n,ne,nf,d⟩:=I.pin p hp
   exact⟨(hs.2 p.1 ne).trans e,n,ne,nf,d⟩
 ·have hfn:X.fn x=true:=by
   rcases hf with z |z
   ·exact z
   ·rw[z]at hk;cases hk
  obtain⟨c,hc⟩:=I.ok.has x (.inl hk)
  obtain⟨w',z⟩:=I.cell x c hc
  refine wpAny_storeName_cell I.ok.kind hk hc z (λh' hc' hs=>?_)
  obtain⟨oc,hoc,Io⟩:=id z
  refine h {s with heap:=h'} ⟨I.ok,I.os,I.bare,⟨λb o e n hb hx=>?_,λb o e n hb hx=>?_,I.base.free,λb o e hx=>?_,I.base.nD,I.base.l0,I.base.nE⟩,⟨m,hn.sameBut hs (bZ (cne x c hc)),λj y v' e1 e2 e3=>?_⟩,λy c' e=>?_,I.free,I.je,λp hp=>?_,tracked ⟨oc,hoc,I.je x c hc⟩ hs,by simpa using I.len⟩ ⟨c,hs,.inr hc⟩
  ·exact(hs.2 b (bw (aU (aK e) (I.ok.cab x c hfn hc)))).trans (I.base.keep b o e n hb hx)
  ·obtain⟨sl,e1⟩:=I.base.slot b o e n hb hx
   exact⟨sl,(hs.2 b (bw (aU (aK e) (I.ok.cab x c hfn hc)))).trans e1⟩
  ·obtain⟨o',e1⟩:=I.base.there b o e hx
   exact⟨o',(hs.2 b (bw (aU (aK e) (I.ok.cab x c hfn hc)))).trans e1⟩
  ·by_cases hj:j=i
   ·subst hj
    rw[hi]at e1;cases e1
    rw[List.getElem?_set_self hiσ]at e2
    cases e2
    exact⟨u,r,.inr ⟨.inl hk,c,hc,hc'⟩⟩
   ·rw[dS (bZ hj)]at e2
    obtain⟨u',r',q⟩:=hl j y v' e1 e2 e3
    refine⟨u',r',?_⟩
    rcases q with q |⟨k,c',e,z'⟩
    ·exact .inl q
    ·refine .inr ⟨k,c',e,z'.sameBut hs ?_⟩
     rintro rfl
     exact hj (qC hN e1 (I.ok.inj _ _ _ e hc ▸ hi))
  ·by_cases hcc:c'=c
   ·subst hcc;exact⟨_,hc'⟩
   ·obtain⟨w2,z2⟩:=I.cell y c' e
    exact⟨w2,z2.sameBut hs hcc⟩
  ·obtain⟨e,n,ne,nf,d⟩:=I.pin p hp
   refine⟨(hs.2 p.1 ?_).trans e,n,ne,nf,d⟩
   intro q
   rw[q,hoc]at e
   have q':oc=p.2:=aZ e
   exact d w' (by rw[<-q'];exact Io)
theorem nT {M:Model}{A:Around}{E:Value->Shared->Prop}{i:Nat}{x:Str}{v:V}{u:Value}{Q:Unit->Shared->Prop}(I:Inv X pins σ H s)(hN:X.N.Nodup)(hi:X.N[i]? = some x)(hx:Loc X.env.scope x)(r:RelV v u)
  (h:∀ s',Inv X pins (σ.set i (some v)) H s'->Q () s') (hf:X.fn x=true\/X.env.scope.names.lookup x=some .local:=by first |exact .inl rfl |exact .inr rfl |assumption):wpAny M A (storeName X.env x u) Q E s:=
 rJ I hN hi hx r (λs' I' _=>h s' I') hf
theorem Inv.BP {s':Shared}{ch:List Addr}(I:Inv X pins σ H s)(ho:s'.os=s.os)(u:Un (frs X.stack) ch H H' s.heap s'.heap)(hok:HOk X.prog X.w H' s'.heap)(hg:AllBare s'.gens)
  (hch:∀ b∈ch,(b∈X.ex\/X.s₀.heap.objs.size<=b)/\b≠X.env.locals/\(∀ x c,X.env.cells.lookup x=some c->c≠b)/\∀ p∈X.pn++pins,p.1≠b):Inv X pins σ H' s':=by
 obtain⟨h',g',d',t',o'⟩:=s'
 have e:o'=s.os:=ho
 subst e
 exact I.call (g':=g') (t':=t') (d':=d') u hok hg hch
end
abbrev XK:=Value->Option Addr->Hp->Prop
abbrev St:=List (Option V)
abbrev VK:=V->Hp->Prop
abbrev TE:=St->Hp->VK->Prop
abbrev TT:=St->Hp->(Bool->Hp->Prop)->Prop
abbrev TA:=St->Hp->(List V->Hp->Prop)->Prop
structure Ends where
 nx:St->Hp->Prop
 rt:VK
 bk:St->Hp->Prop:=λ_ _=>False
 ct:St->Hp->Prop:=λ_ _=>False
abbrev TS:=Ends->St->Hp->Prop
def EP (X:Cx)(pins:List (Addr×Obj))(σ:St)(Q:VK)(u:Value)(s':Shared):Prop:=∃ v H',Inv X pins σ H' s'/\RelV v u/\Q v H'
def TP (X:Cx)(pins:List (Addr×Obj))(σ:St)(Q:Bool->Hp->Prop)(b:Bool)(s':Shared):Prop:=∃ H',Inv X pins σ H' s'/\Q b H'
def AP (X:Cx)(pins:List (Addr×Obj))(σ:St)(Q:List V->Hp->Prop)(us:List Value)(s':Shared):Prop:=∃ vs H',Inv X pins σ H' s'/\Vals vs us/\Q vs H'
def SP (X:Cx)(pins:List (Addr×Obj))(D:Ends)(f:Flow)(s':Shared):Prop:=
 match f with
 |.next=>∃ σ' H',Inv X pins σ' H' s'/\D.nx σ' H'
 |.brk=>∃ σ' H',Inv X pins σ' H' s'/\D.bk σ' H'
 |.cont=>∃ σ' H',Inv X pins σ' H' s'/\D.ct σ' H'
 |.ret u=>∃ v σ' H',Inv X pins σ' H' s'/\RelV v u/\D.rt v H'
def PE (X:Cx)(e:Expr)(t:TE):Prop:=
 ∀ (pins:List (Addr×Obj)) (s:Shared) (σ:St) (H:Hp) (Q:VK),Inv X pins σ H s->t σ H Q->wpAny (model X.prog X.w) X.A (eval e X.env) (EP X pins σ Q) X.xe s
def PT (X:Cx)(e:Expr)(t:TT):Prop:=
 ∀ (pins:List (Addr×Obj)) (s:Shared) (σ:St) (H:Hp) (Q:Bool->Hp->Prop),Inv X pins σ H s->t σ H Q->wpAny (model X.prog X.w) X.A (isTrue e X.env (eval e X.env)) (TP X pins σ Q) X.xe s
def PW (X:Cx)(e:Expr)(t:TT):Prop:=
 ∀ (whole:Sem Value) (pins:List (Addr×Obj)) (s:Shared) (σ:St) (H:Hp) (Q:Bool->Hp->Prop),Inv X pins σ H s->t σ H Q->wpAny (model X.prog X.w) X.A (isTrue e X.env whole) (TP X pins σ Q) X.xe s
theorem PW.pt {X:Cx}{e:Expr}{t:TT}(h:PW X e t):PT X e t:=h _
def PA (X:Cx)(es:List Expr)(t:TA):Prop:=
 ∀ (pos:Pos) (pins:List (Addr×Obj)) (s:Shared) (σ:St) (H:Hp) (Q:List V->Hp->Prop),Inv X pins σ H s->t σ H Q->wpAny (model X.prog X.w) X.A (spliced (backTo pos (starEach es X.env))) (AP X pins σ Q) X.xe s
def PS (X:Cx)(st:Stmt)(t:TS):Prop:=
 ∀ (pins:List (Addr×Obj)) (s:Shared) (σ:St) (H:Hp) (D:Ends),Inv X pins σ H s->t D σ H->wpAny (model X.prog X.w) X.A (exec st X.env) (SP X pins D) X.xe s
def PSs (X:Cx)(st:List Stmt)(t:TS):Prop:=
 ∀ (pins:List (Addr×Obj)) (s:Shared) (σ:St) (H:Hp) (D:Ends),Inv X pins σ H s->t D σ H->wpAny (model X.prog X.w) X.A (execs st X.env) (SP X pins D) X.xe s
theorem thn {α:Type}{t:Sem α}{Q Q':α->Shared->Prop}{M:Model}{A:Around}{E:Value->Shared->Prop}{s:Shared}(h:wpAny M A t Q E s)(hQ:∀ a s,Q a s->Q' a s):wpAny M A t Q' E s:=bQ h hQ λ_ _ x=>x
section
variable {X:Cx}
theorem bin {a b:Expr}{ta tb:TE}(ha:PE X a ta)(hb:PE X b tb){pins:List (Addr×Obj)}{s:Shared}{σ:St}{H:Hp}{R:V->V->Hp->Prop}(I:Inv X pins σ H s)(h:ta σ H λx H1=>tb σ H1 λy H2=>R x y H2)
  {α:Type}{Q:α->Shared->Prop}{f:Value->Value->Sem α}
  (hf:∀ v u s2 x y H2,Inv X pins σ H2 s2->RelV x v->RelV y u->R x y H2->wpAny (model X.prog X.w) X.A (f v u) Q X.xe s2):
  wpAny (model X.prog X.w) X.A (eval a X.env) (λv s₁=>wpAny (model X.prog X.w) X.A (eval b X.env) (λu s₂=>wpAny (model X.prog X.w) X.A (f v u) Q X.xe s₂) X.xe s₁) X.xe s:=by
 refine thn (ha pins s σ H _ I h) λv s1 ⟨x,H1,I1,r1,q1⟩=>?_
 refine thn (hb pins s1 σ H1 _ I1 q1) λu s2 ⟨y,H2,I2,r2,q2⟩=>?_
 exact hf v u s2 x y H2 I2 r1 r2 q2
def DQ (i:Nat):TE:=λσ H Q=>∃ v,σ[i]? = some (some v)/\Q v H
def tC (v:V):TE:=λ_ H Q=>Q v H
theorem Cp {i:Nat}{x:Str}{pos:Pos}(hN:X.N[i]? = some x)(hv:Vis X.env.scope x)(hd:(x==("__debug__" :Str))=false:=by decide)(hcd:(x==("__classdict__" :Str))=false:=by decide):PE X (.Name x pos) (DQ i):=by
 intro pins s σ H Q I h
 obtain⟨v,e,h⟩:=h
 obtain⟨m,hn,hl⟩:=I.loc
 obtain⟨u,r,l⟩:=hl i x v hN e hv
 have fin:EP X pins σ Q u s:=⟨v,H,I,r,h⟩
 rcases l with⟨hk,hm⟩|⟨hk,c,hc,xk⟩
 ·exact wpAny_Name (wpAny_loadName_local I.ok.kind hk hn hm fin) hd
 ·rcases hk with hk |hk
  ·exact wpAny_Name (wpAny_loadName_cell I.ok.kind hk hc xk fin) hd
  ·exact wpAny_Name (wpAny_loadName_free I.ok.kind hk hc xk fin hcd) hd
theorem fb {i j pos} :PE X (.Constant (.int i) j pos) (tC (.int i)):=λ_ _ _ H _ I h=>wpAny_Constant_int ⟨.int i,H,I.tok _,⟨_,rfl⟩,h⟩
theorem uL {b j pos} :PE X (.Constant (.bool b) j pos) (tC (.bl b)):=λ_ _ _ H _ I h=>Constant_bool ⟨.bl b,H,I,rfl,h⟩
theorem vO {j pos} :PE X (.Constant .none j pos) (tC .non):=λ_ _ _ H _ I h=>Constant_none ⟨.non,H,I,rfl,h⟩
theorem iP {x j pos} :PE X (.Constant (.str x) j pos) (tC (.str x)):=λ_ _ _ H _ I h=>Calls.Constant_str ⟨.str x,H,I.tok _,⟨_,rfl⟩,h⟩
def Gl (X:Cx)(x:Str):Prop:=X.env.kindOf x=some .globalImplicit
theorem mW {E:Value->Shared->Prop}{pins:List (Addr×Obj)}{s:Shared}{σ:St}{H:Hp}{x:Str}{u:Value}{pos:Pos}{Q:Value->Shared->Prop}(I:Inv X pins σ H s)(hg:Gl X x)(hm:X.mg x=some u)(h:Q u s)
  (hd:(x==("__debug__" :Str))=false:=by decide):wpAny (model X.prog X.w) X.A (eval (.Name x pos) X.env) Q E s:=
 Calls.Name_function_global I.ok.kind hg (Calls.loadGlobal_global (by rw[I.ok.glob];exact I.mod.glob.keeps I.bk) hm h) hd
theorem lX {E:Value->Shared->Prop}{pins:List (Addr×Obj)}{s:Shared}{σ:St}{H:Hp}{x:Str}{u:Value}{pos:Pos}{Q:Value->Shared->Prop}(I:Inv X pins σ H s)(hg:Gl X x)(hm:X.mg x=none)(hv:bootBuiltins x=some u)(h:Q u s)
  (hn:x≠ "__name__" :=by decide) (hd:(x==("__debug__" :Str))=false:=by decide):wpAny (model X.prog X.w) X.A (eval (.Name x pos) X.env) Q E s:=by
 obtain⟨mb,h1,h2⟩:=I.mod.blt
 exact Calls.Name_function_global I.ok.kind hg (Calls.loadGlobal_builtin (by rw[I.ok.glob];exact I.mod.glob.keeps I.bk) hm (by rw[I.ok.blt];exact h1.keeps I.bk) ((h2 x hn).trans hv) h) hd
theorem jN {x:Str}{v:V}{u:Value}{pos:Pos}(hg:Gl X x)(hm:X.mg x=some u)(r:RelV v u)(hd:(x==("__debug__" :Str))=false:=by decide):PE X (.Name x pos) (tC v):=
 λ_ _ _ H _ I h=>mW I hg hm ⟨v,H,I,r,h⟩ hd
theorem pO {x:Str}{v:V}{u:Value}{pos:Pos}(hg:Gl X x)(hm:X.mg x=none)(hv:bootBuiltins x=some u)(r:RelV v u)(hn:x≠ "__name__" :=by decide)(hd:(x==("__debug__" :Str))=false:=by decide):PE X (.Name x pos) (tC v):=
 λ_ _ _ H _ I h=>lX I hg hm hv ⟨v,H,I,r,h⟩ hn hd
def t2I (ta tb:TE)(k:Int->Int->Hp->Prop):St->Hp->Prop:=λσ H=>ta σ H λx H1=>tb σ H1 λy H2=>∃ i j,x = .int i/\y = .int j/\k i j H2
variable {a b:Expr}{ta tb:TE}{pos:Pos}
def PC (X:Cx)(op:CmpOp)(a b:Expr)(t:TE):Prop:=
 ∀ (pins:List (Addr×Obj)) (s:Shared) (σ:St) (H:Hp) (Q:VK),Inv X pins σ H s->t σ H Q->
  wpAny (model X.prog X.w) X.A (eval a X.env) (λv s₁=>wpAny (model X.prog X.w) X.A (eval b X.env) (λu s₂=>wpAny (model X.prog X.w) X.A (compareOp op v u) (EP X pins σ Q) X.xe s₂) X.xe s₁) X.xe s
theorem zr (b:Expr){op:CmpOp}(h:op≠ .In)(h2:op≠ .NotIn):behindInMarks op b=false:=by
 have e1:(op==CmpOp.In)=false:=by cases op<;>first |rfl |exact absurd rfl h
 have e2:(op==CmpOp.NotIn)=false:=by cases op<;>first |rfl |exact absurd rfl h2
 cases b<;>simp[behindInMarks,e1,e2]
def vJ (p:Int->Int->Bool)(ta tb:TE):TE:=λσ H Q=>t2I ta tb (λi j H2=>Q (.bl (p i j)) H2) σ H
abbrev tLt:TE->TE->TE:=vJ λi j=>decide (i<j)
abbrev tLe:TE->TE->TE:=vJ λi j=>decide (i<=j)
abbrev tGt:TE->TE->TE:=vJ λi j=>decide (j<i)
abbrev tGe:TE->TE->TE:=vJ λi j=>decide (j<=i)
abbrev FE:TE->TE->TE:=vJ λi j=>decide (i=j)
abbrev Fy:TE->TE->TE:=vJ λi j=> !decide (i=j)
theorem qr {op:CmpOp}{p:Int->Int->Bool}(ha:PE X a ta)(hb:PE X b tb)
  (rule:∀ (i j:Int) (t u:Tok) (Q:Value->Shared->Prop) (s:Shared),Q (.bool (p i j)) s->wpAny (model X.prog X.w) X.A (compareOp op (.int i t) (.int j u)) Q X.xe s):PC X op a b (vJ p ta tb):=by
 intro pins s σ H Q I h
 refine bin ha hb I h λv u s2 x y H2 I2 rx ry q=>?_
 obtain⟨i,j,rfl,rfl,q⟩:=q
 obtain⟨t,rfl⟩:=rx
 obtain⟨t',rfl⟩:=ry
 exact rule i j t t' _ s2 ⟨.bl _,H2,I2,rfl,q⟩
theorem qq (ha:PE X a ta)(hb:PE X b tb):PC X .Lt a b (tLt ta tb):=qr ha hb λ_ _ _ _ _ _ h=>lt_int h
theorem Ee (ha:PE X a ta)(hb:PE X b tb):PC X .Gt a b (tGt ta tb):=qr ha hb λ_ _ _ _ _ _ h=>gt_int h
theorem Ef (ha:PE X a ta)(hb:PE X b tb):PC X .GtE a b (tGe ta tb):=qr ha hb λ_ _ _ _ _ _ h=>ge_int h
theorem ky (ha:PE X a ta)(hb:PE X b tb):PC X .Eq a b (FE ta tb):=qr ha hb λ_ _ _ _ _ _ h=>eq_int (by rw[Bool.beq_eq_decide_eq];exact h)
theorem Ct (ha:PE X a ta)(hb:PE X b tb):PC X .NotEq a b (Fy ta tb):=qr ha hb λ_ _ _ _ _ _ h=>ne_int (by rw[bne,Bool.beq_eq_decide_eq];exact h)
def DV (ta:TE):TE:=λσ H Q=>ta σ H λx H1=>Q (.bl (!decide (x = .non))) H1
theorem RelV.zo {x:V}{v:Value}(r:RelV x v):(v==Value.none)=decide (x = .non):=by
 cases x with
 |non=>cases r;rfl
 |bl _=>cases r;rfl
 |int _=>obtain⟨t,rfl⟩:=r;rfl
 |str _=>obtain⟨t,rfl⟩:=r;rfl
 |byt _=>obtain⟨t,rfl⟩:=r;rfl
 |flt _=>obtain⟨t,rfl⟩:=r;rfl
 |ref _=>cases r;rfl
 |ty _=>cases r;rfl
theorem AS {j pos'}(ha:PE X a ta):PC X .IsNot a (.Constant .none j pos') (DV ta):=by
 intro pins s σ H Q I h
 refine thn (ha pins s σ H _ I h) λv s1 ⟨x,H1,I1,r1,q1⟩=>?_
 exact Constant_none (isnot_none_gen ⟨.bl _,H1,I1,by rw[r1.zo];rfl,q1⟩)
def tB (t:TE):TT:=λσ H Q=>t σ H λx H1=>∃ c,x = .bl c/\Q c H1
theorem gM {op:CmpOp}{t:TE}(h:PC X op a b t)(h1:behindInMarks op b=false:=by first |exact zr _ (by decide) (by decide)|rfl):PT X (.Compare a [op] [b] pos) (tB t):=by
 intro pins s σ H Q I hw
 refine wpAny_isTrue_Compare1 (thn (h pins s σ H _ I hw) λv s1 h1=>thn h1 λu s2 h2=>thn h2 λc s3 ⟨x,H1,I1,r1,q1⟩=>?_) h1
 obtain⟨d,rfl,q⟩:=q1
 cases r1
 exact cX ⟨H1,I1,q⟩
theorem sY {e:Expr}{t:TE}(h:PE X e t)(he:∀ whole,isTrue e X.env whole=(do let v <-whole;standAt e.pos;holding [v] (truthy v)):=by intro _;rfl):PT X e (tB t):=by
 intro pins s σ H Q I hw
 refine isTrue_plain (thn (h pins s σ H _ I hw) λv s1 ⟨x,H1,I1,r1,q1⟩=>?_) (he _)
 obtain⟨d,rfl,q⟩:=q1
 cases r1
 exact cX ⟨H1,I1,q⟩
variable {tA tB':TT}{rest:List Expr}
def FH (t u:TT):TT:=λσ H Q=>t σ H λc H1=>if c=true then u σ H1 Q else Q false H1
def tOr (t u:TT):TT:=λσ H Q=>t σ H λc H1=>if c=true then Q true H1 else u σ H1 Q
def Fw (t:TT):TT:=λσ H Q=>t σ H λc H1=>Q (!c) H1
theorem wV (ha:PT X a tA):PW X (.BoolOp .And [a] pos) tA:=by
 intro wh pins s σ H Q I h
 refine isTrue_and (thn (ha pins s σ H Q I h) λc s1 e=>?_)
 cases c with
 |true=>exact isTrue_and_nil e
 |false=>exact e
theorem sX (ha:PT X a tA):PW X (.BoolOp .Or [a] pos) tA:=by
 intro wh pins s σ H Q I h
 refine isTrue_or (thn (ha pins s σ H Q I h) λc s1 e=>?_)
 cases c with
 |false=>exact isTrue_or_nil e
 |true=>exact e
theorem vM (ha:PT X a tA)(hb:PW X (.BoolOp .And (b::rest) pos) tB'):PW X (.BoolOp .And (a::b::rest) pos) (FH tA tB'):=by
 intro wh pins s σ H Q I h
 refine isTrue_and (thn (ha pins s σ H _ I h) λc s1 ⟨H1,I1,q1⟩=>?_)
 cases c with
 |true=>exact hb wh pins s1 σ H1 Q I1 q1
 |false=>exact⟨H1,I1,q1⟩
theorem wU (ha:PT X a tA)(hb:PW X (.BoolOp .Or (b::rest) pos) tB'):PW X (.BoolOp .Or (a::b::rest) pos) (tOr tA tB'):=by
 intro wh pins s σ H Q I h
 refine isTrue_or (thn (ha pins s σ H _ I h) λc s1 ⟨H1,I1,q1⟩=>?_)
 cases c with
 |true=>exact⟨H1,I1,q1⟩
 |false=>exact hb wh pins s1 σ H1 Q I1 q1
theorem vN (ha:PT X a tA):PT X (.UnaryOp .Not a pos) (Fw tA):=by
 intro pins s σ H Q I h
 exact isTrue_not (ha pins s σ H (λc H1=>Q (!c) H1) I h)
def D5 (ta tb:TE):TE:=λσ H Q=>ta σ H λx H1=>∃ c,x = .bl c/\if c=true then tb σ H1 Q else Q (.bl false) H1
theorem Cq {op}{t:TE}(h:PE X a t):PE X (.BoolOp op [a] pos) t:=λpins s σ H Q I hw=>BoolOp_one (h pins s σ H Q I hw)
theorem Cs (ha:PE X a ta)(hb:PE X (.BoolOp .And (b::rest) pos) tb):PE X (.BoolOp .And (a::b::rest) pos) (D5 ta tb):=by
 intro pins s σ H Q I h
 refine BoolOp_and (thn (ha pins s σ H _ I h) λv s1 ⟨x,H1,I1,r1,q1⟩=>?_)
 obtain⟨c,rfl,q1⟩:=q1
 cases r1
 refine cX ?_
 cases c with
 |true=>exact hb pins s1 σ H1 Q I1 q1
 |false=>exact⟨.bl false,H1,I1,rfl,q1⟩
end
def SqL (K:PySem.W.Frag)(H:Hp)(a:Addr)(xs:List V):Prop:=
 Rd H a (.lst xs)\/
  ∃ (o:Obj) (its:Array Value) (n:Nat),K.lookup a=some o/\o.cls = .type "list" /\o.dict=none/\o.data = .seq its n/\its.size<=sizeLine/\Vals xs its.toList
def SqT (K:PySem.W.Frag)(H:Hp)(a:Addr)(xs:List V):Prop:=
 Rd H a (.tup xs)\/
  ∃ (o:Obj) (its:Array Value) (n:Nat),K.lookup a=some o/\o.cls = .type "tuple" /\o.data = .seq its n/\its.size<=sizeLine/\Vals xs its.toList
def Kc:Value->Option V
 |.none=>some .non
 |.bool b=>some (.bl b)
 |.int i _=>some (.int i)
 |.str x _=>some (.str x)
 |.bytes b _=>some (.byt b)
 |.float b _=>some (.flt b)
 |.ref a=>some (.ref a)
 |.type n=>some (.ty n)
 |_=>none
theorem RelV.abs {x:V}{u:Value}(r:RelV x u):Kc u=some x:=by
 cases x with
 |non=>cases r;rfl
 |bl _=>cases r;rfl
 |int _=>obtain⟨t,rfl⟩:=r;rfl
 |str _=>obtain⟨t,rfl⟩:=r;rfl
 |byt _=>obtain⟨t,rfl⟩:=r;rfl
 |flt _=>obtain⟨t,rfl⟩:=r;rfl
 |ref _=>cases r;rfl
 |ty _=>cases r;rfl
theorem RelV.inj {x y:V}{u:Value}(r:RelV x u)(q:RelV y u):x=y:=aZ (r.abs.symm.trans q.abs)
theorem Vals.inj:∀ {xs ys:List V}{us:List Value},Vals xs us->Vals ys us->xs=ys
 |_,_,_,.nil,.nil=>rfl
 |_,_,_,.cons r t,.cons r' t'=>by rw[r.inj r',Vals.inj t t']
section
variable {X:Cx}{pins:List (Addr×Obj)}{σ:St}{H:Hp}{s:Shared}{a:Addr}{xs ys:List V}
theorem SqL.of {K:PySem.W.Frag}(h:H a=some (.lst xs)):SqL K H a xs:=.inl (.inl h)
theorem SqT.of {K:PySem.W.Frag}(h:H a=some (.tup xs)):SqT K H a xs:=.inl (.inl h)
theorem Inv.list (I:Inv X pins σ H s)(h:SqL X.K H a xs):∃ its:List Value,Vals xs its/\PlainL s.heap a its.toArray/\xs.length<=sizeLine:=by
 rcases h with h |⟨o,its,n,hk,hc,hd,hs,hz,r⟩
 ·obtain⟨z,its,n,r,e⟩:=h.ok I.hok
  exact⟨its,r,⟨_,n,e,rfl,rfl,rfl⟩,z⟩
 ·refine⟨its.toList,r,⟨o,n,I.kIn a o hk,hc,hd,by simpa using hs⟩,?_⟩
  have e:=r.length
  simp only[au]at e
  omega
theorem Inv.tuple (I:Inv X pins σ H s)(h:SqT X.K H a xs):∃ its:List Value,Vals xs its/\IsTup s.heap a its.toArray/\xs.length<=sizeLine:=by
 rcases h with h |⟨o,its,n,hk,hc,hs,hz,r⟩
 ·obtain⟨z,its,r,p⟩:=h.ok I.hok
  exact⟨its,r,p,z⟩
 ·refine⟨its.toList,r,⟨o,I.kIn a o hk,hc,n,by simpa using hs⟩,?_⟩
  have e:=r.length
  simp only[au]at e
  omega
theorem Inv.oo (I:Inv X pins σ H s)(h:SqL X.K H a xs)(h':SqL X.K H a ys):xs=ys:=by
 obtain⟨its,r,⟨o,n,e,_,_,d⟩,_⟩:=I.list h
 obtain⟨its',r',⟨o',n',e',_,_,d'⟩,_⟩:=I.list h'
 rw[e]at e';cases e'
 rw[d]at d'
 injection d' with d1 _
 have:its=its':=by simpa using cH Array.toList d1
 subst this
 exact r.inj r'
end
abbrev Cx.pW (X:Cx)(E:Value->Shared->Prop):Cx:={X with xe:=E}
abbrev Cx.nox (X:Cx):Cx:=X.pW λ_ _=>False
theorem Cx.Ok.pW {X:Cx}(ok:X.Ok)(E:Value->Shared->Prop):(X.pW E).Ok:=
 ⟨ok.mod,ok.kind,ok.glob,ok.blt,ok.above,ok.inj,ok.has,ok.cab,ok.hd,ok.frames,ok.stk,ok.exf,ok.bs,ok.bsz,ok.vW,ok.yp,ok.oV,ok.frf⟩
theorem Cx.Ok.lK {X:Cx}{E:Value->Shared->Prop}(ok:(X.pW E).Ok):X.Ok:=
 ⟨ok.mod,ok.kind,ok.glob,ok.blt,ok.above,ok.inj,ok.has,ok.cab,ok.hd,ok.frames,ok.stk,ok.exf,ok.bs,ok.bsz,ok.vW,ok.yp,ok.oV,ok.frf⟩
section
variable {X:Cx}{pins:List (Addr×Obj)}{σ:St}{H:Hp}{s:Shared}{E:Value->Shared->Prop}
theorem Inv.pW (I:Inv X pins σ H s)(E:Value->Shared->Prop):Inv (X.pW E) pins σ H s:=⟨I.ok.pW E,I.os,I.bare,I.base,I.loc,I.cell,I.free,I.je,I.pin,I.hok,I.len⟩
theorem Inv.lK (I:Inv (X.pW E) pins σ H s):Inv X pins σ H s:=⟨I.ok.lK,I.os,I.bare,I.base,I.loc,I.cell,I.free,I.je,I.pin,I.hok,I.len⟩
theorem SP.lK {D:Ends}{f:Flow}{s':Shared}(h:SP (X.pW E) pins D f s'):SP X pins D f s':=by
 cases f with
 |next=>obtain⟨σ',H',I,q⟩:=h;exact⟨σ',H',I.lK,q⟩
 |brk=>obtain⟨σ',H',I,q⟩:=h;exact⟨σ',H',I.lK,q⟩
 |cont=>obtain⟨σ',H',I,q⟩:=h;exact⟨σ',H',I.lK,q⟩
 |ret u=>obtain⟨v,σ',H',I,r,q⟩:=h;exact⟨v,σ',H',I.lK,r,q⟩
theorem PSs.nox {st:List Stmt}{t:TS}(h:PSs X.nox st t):PSs X st t:=λpins s σ H D I hw=>
 bQ (h pins s σ H D (I.pW _) hw) (λ_ _ q=>q.lK) λ_ _ z=>False.elim z
end
section
variable {X:Cx}{st:Stmt}{rest:List Stmt}{t u:TS}{e:Expr}{te:TE}{pos:Pos}
def DW:TS:=λD σ H=>D.nx σ H
def pE (t u:TS):TS:=λD σ H=>t {D with nx:=u D} σ H
theorem gg:PSs X [] DW:=λ_ _ σ H _ I h=>eC ⟨σ,H,I,h⟩
theorem eY (h1:PS X st t)(h2:PSs X rest u):PSs X (st::rest) (pE t u):=by
 intro pins s σ H D I h
 refine wpAny_execs_cons (thn (h1 pins s σ H {D with nx:=u D} I h) λf s1 q=>?_)
 cases f with
 |next=>
  obtain⟨σ',H',I',q⟩:=q
  exact h2 pins s1 σ' H' D I' q
 |ret v=>exact q
 |brk=>exact q
 |cont=>exact q
theorem fh (h1:PS X st t):PSs X [st] t:=by
 intro pins s σ H D I h
 refine wpAny_execs_cons (thn (h1 pins s σ H D I h) λf s1 q=>?_)
 cases f with
 |next=>exact eC q
 |ret v=>exact q
 |brk=>exact q
 |cont=>exact q
theorem Inv.quiet {pins:List (Addr×Obj)}{σ:St}{H:Hp}{s:Shared}(I:Inv X pins σ H s):interactive X.env=false:=by simp[interactive,I.ok.kind]
def DX (te:TE):TS:=λD σ H=>te σ H λ_ H1=>D.nx σ H1
theorem gv (he:PE X e te)(hs:swapsWith e none pos.line X.env=pure false:=by rfl):PS X (.Expr e pos) (DX te):=by
 intro pins s σ H D I h
 exact wpAny_Expr_any (thn (he pins s σ H _ I h) λv s1 ⟨x,H1,I1,r1,q1⟩=>⟨σ,H1,I1,q1⟩) I.quiet hs
def Fv (te:TE):TS:=λD σ H=>te σ H D.rt
theorem fP (he:PE X e te):PS X (.Return (some e) pos) (Fv te):=by
 intro pins s σ H D I h
 exact wpAny_Return_some (thn (he pins s σ H _ I h) λv s1 ⟨x,H1,I1,r1,q1⟩=>⟨x,σ,H1,I1,r1,q1⟩)
def FA (c:TT)(t u:TS):TS:=λD σ H=>c σ H λb H1=>if b=true then t D σ H1 else u D σ H1
theorem ie {c:Expr}{a b:List Stmt}{tc:TT}(hc:PT X c tc)(ha:PSs X a t)(hb:PSs X b u):PS X (.If c a b pos) (FA tc t u):=by
 intro pins s σ H D I h
 refine wpAny_If (thn (hc pins s σ H _ I h) λd s1 ⟨H1,I1,q1⟩=>?_)
 cases d with
 |true=>exact ha pins s1 σ H1 D I1 q1
 |false=>exact hb pins s1 σ H1 D I1 q1
end
abbrev TG:=V->St->Hp->(St->Hp->Prop)->Prop
abbrev TGs:=List V->St->Hp->(St->Hp->Prop)->Prop
def PG (X:Cx)(target:Expr)(t:TG):Prop:=
 ∀ (pins:List (Addr×Obj)) (s:Shared) (σ:St) (H:Hp) (v:V) (u:Value) (Q:St->Hp->Prop),Inv X pins σ H s->RelV v u->t v σ H Q->
  wpAny (model X.prog X.w) X.A (assign target X.env u) (λ_ s'=>∃ σ' H',Inv X pins σ' H' s'/\Q σ' H') X.xe s
def PGs (X:Cx)(ts:List Expr)(t:TGs):Prop:=
 ∀ (pins:List (Addr×Obj)) (s:Shared) (σ:St) (H:Hp) (vs:List V) (us:List Value) (Q:St->Hp->Prop),Inv X pins σ H s->Vals vs us->t vs σ H Q->
  wpAny (model X.prog X.w) X.A (assignInOrder ((assignEach ts X.env).map (·.2)) us) (λ_ s'=>∃ σ' H',Inv X pins σ' H' s'/\Q σ' H') X.xe s
abbrev Kt:=V->V->V->Hp->(Hp->Prop)->Prop
abbrev TIp:=V->V->Hp->VK->Prop
def PIp (X:Cx)(op:Operator)(t:TIp):Prop:=
 ∀ (pins:List (Addr×Obj)) (s:Shared) (σ:St) (H:Hp) (x y:V) (v u:Value) (Q:VK),Inv X pins σ H s->RelV x v->RelV y u->t x y H Q->
  wpAny (model X.prog X.w) X.A (inplaceOp op v u) (EP X pins σ Q) X.xe s
section
variable {X:Cx}{pos:Pos}
def kL (i:Nat):TG:=λv σ H Q=>Q (σ.set i (some v)) H
theorem ft {i:Nat}{x:Str}(hN:X.N.Nodup)(hi:X.N[i]? = some x)(hx:Loc X.env.scope x)(hf:X.fn x=true\/X.env.scope.names.lookup x=some .local:=by first |exact .inl rfl |exact .inr rfl |assumption):PG X (.Name x pos) (kL i):=by
 intro pins s σ H v u Q I r h
 exact wpAny_assign_Name (nT I hN hi hx r (λs' I'=>⟨_,H,I',h⟩) hf)
def E2:TGs:=λvs σ H Q=>vs = []/\Q σ H
def BI (t:TG)(u:TGs):TGs:=λvs σ H Q=>∃ v r,vs=v::r/\t v σ H λσ' H'=>u r σ' H' Q
theorem iL:PGs X [] E2:=by
 intro pins s σ H vs us Q I r h
 obtain⟨e,h⟩:=h
 subst e
 cases r
 exact assignInOrder_nil ⟨σ,H,I,h⟩
theorem fQ {e:Expr}{es:List Expr}{t:TG}{u:TGs}(h1:PG X e t)(h2:PGs X es u)
  (hs:(assignEach (e::es) X.env).map (·.2)=assign e X.env::(assignEach es X.env).map (·.2):=by rfl):PGs X (e::es) (BI t u):=by
 intro pins s σ H vs us Q I r h
 obtain⟨v,vr,e1,h⟩:=h
 subst e1
 cases r with
 |cons r rr=>
  rw[hs]
  refine assignInOrder_cons (thn (h1 pins s σ H _ _ _ I r h) λ_ s1 ⟨σ1,H1,I1,q1⟩=>?_)
  exact h2 pins s1 σ1 H1 _ _ Q I1 rr q1
def EZ (K:PySem.W.Frag)(n:Nat)(t:TGs):TG:=λv σ H Q=>∃ a xs,v = .ref a/\SqT K H a xs/\xs.length=n/\t xs σ H Q
theorem jE {es:List Expr}{k:Nat}{t:TGs}{n:Nat}(hc:X.calm=true)(h:PGs X es t)
  (hn:(assignEach es X.env).length=n:=by rfl) (hst:(assignEach es X.env).findIdx? (·.1)=none:=by rfl):PG X (.Tuple es k pos) (EZ X.K n t):=by
 intro pins s σ H v u Q I r hw
 obtain⟨a,xs,e1,hq,hl,hw⟩:=hw
 subst e1
 cases r
 obtain⟨its,rv,ht,hz⟩:=I.tuple hq
 refine assign_Tuple_tuple (I.ok.hd hc) ht (by simp[hn,<-hl,rv.length]) hst λh' hx=>?_
 have I1:Inv X pins σ H {s with heap:=h'} :=I.kept (t':=s.toks) λb o e=>hx b o (bw (aK e)) e
 exact h pins _ σ H xs _ Q I1 (by simpa using rv) hw
def B6 (te:TE)(g:TG):TS:=λD σ H=>te σ H λx H1=>g x σ H1 D.nx
theorem yX {tg e:Expr}{te:TE}{g:TG}(he:PE X e te)(hg:PG X tg g)(hs:swapsWithSole [tg] e pos.line X.env=pure false:=by rfl)(hw:swappedStores [tg] e X.env=pure none:=by rfl)
  (h1:(assignEach [tg] X.env).map (·.2) = [assign tg X.env]:=by rfl):PS X (.Assign [tg] e pos) (B6 te g):=by
 intro pins s σ H D I h
 refine wpAny_Assign_stores (thn (he pins s σ H _ I h) λv s1 ⟨x,H1,I1,r1,q1⟩=>?_) hs hw
 rw[h1]
 exact thn (hg pins s1 σ H1 x v _ I1 r1 q1) λ_ s2 q=>q
theorem fv {i:Nat}{x:Str}{e:Expr}{te:TE}{pos':Pos}(hN:X.N.Nodup)(hi:X.N[i]? = some x)(hx:Loc X.env.scope x)(he:PE X e te)(hs:swapsWith e (some (.Name x pos')) pos.line X.env=pure false:=by rfl)(hf:X.fn x=true\/X.env.scope.names.lookup x=some .local:=by first |exact .inl rfl |exact .inr rfl |assumption):
  PS X (.Assign [.Name x pos'] e pos) (B6 te (kL i)):=by
 intro pins s σ H D I h
 refine wpAny_Assign_Name (thn (he pins s σ H _ I h) λv s1 ⟨y,H1,I1,r1,q1⟩=>?_) hs
 exact nT I1 hN hi hx r1 (λs2 I2=>⟨_,H1,I2,q1⟩) hf
def FG (i:Nat)(te:TE)(ti:TIp):TS:=λD σ H=>∃ x,σ[i]? = some (some x)/\te σ H λy H1=>ti x y H1 λz H2=>D.nx (σ.set i (some z)) H2
theorem Co {i:Nat}{x:Str}{e:Expr}{te:TE}{op:Operator}{ti:TIp}{pos':Pos}(hN:X.N.Nodup)(hi:X.N[i]? = some x)(hx:Loc X.env.scope x)(he:PE X e te)(ho:PIp X op ti)(hf:X.fn x=true\/X.env.scope.names.lookup x=some .local:=by first |exact .inl rfl |exact .inr rfl |assumption):
  PS X (.AugAssign (.Name x pos') op e pos) (FG i te ti):=by
 intro pins s σ H D I h
 obtain⟨v,e1,h⟩:=h
 obtain⟨m,hn,hl⟩:=I.loc
 have vis:Vis X.env.scope x:=by rcases hx with k |k;exact .inl k;exact .inr (.inl k)
 obtain⟨u,r,l⟩:=hl i x v hi e1 vis
 refine wpAny_AugAssign_Name ?_
 have go:wpAny (model X.prog X.w) X.A (eval e X.env) (λw s₂=>wpAny (model X.prog X.w) X.A (inplaceOp op u w) (λr s₃=>wpAny (model X.prog X.w) X.A (storeName X.env x r) (λ_=>SP X pins D .next) X.xe s₃) X.xe s₂) X.xe s:=by
  refine thn (he pins s σ H _ I h) λw s1 ⟨y,H1,I1,r1,q1⟩=>?_
  refine thn (ho pins s1 σ H1 v y u w _ I1 r r1 q1) λz s2 ⟨zv,H2,I2,r2,q2⟩=>?_
  exact nT I2 hN hi hx r2 (λs3 I3=>⟨_,H2,I3,q2⟩) hf
 rcases l with⟨hk,hm⟩|⟨hk,c,hc,xk⟩
 ·exact wpAny_loadName_local I.ok.kind hk hn hm go
 ·rcases hk with hk |hk
  ·exact wpAny_loadName_cell I.ok.kind hk hc xk go
  ·rcases hx with k |k
   ·have:X.env.scope.names.lookup x=some .free:=hk
    rw[k]at this;cases this
   ·have:X.env.scope.names.lookup x=some .free:=hk
    rw[k]at this;cases this
def ipI (f:Int->Int->Int):TIp:=λx y H Q=>∃ i j,x = .int i/\y = .int j/\Q (.int (f i j)) H
theorem CM:PIp X .Add (ipI λi j=>i+j):=by
 intro pins s σ H x y v u Q I r1 r2 h
 obtain⟨i,j,e1,e2,q⟩:=h
 subst e1;subst e2
 obtain⟨t,rfl⟩:=r1
 obtain⟨t',rfl⟩:=r2
 exact iadd_int ⟨.int _,H,I.tok _,⟨_,rfl⟩,q⟩
end
section
variable {X:Cx}{pos:Pos}
def oI (c:TT)(tb:TS):TS:=λD σ H=>∃ W:Nat->St->Hp->Prop,(∃ m,W m σ H)/\∀ m σ H,W m σ H->
 c σ H λb H1=>if b=true then ∃ N:St->Hp->Prop,(∀ σ' H',N σ' H'->∃ m',m'<m/\W m' σ' H')/\tb {D with nx:=N,ct:=N,bk:=D.nx} σ H1 else D.nx σ H1
theorem nZ {c:Expr}{body:List Stmt}{tc:TT}{tb:TS}(hp:PassesOwn (model X.prog X.w) X.A X.env X.xe)(hc:PT X c tc)(hb:PSs X body tb):PS X (.While c body [] pos) (oI tc tb):=by
 intro pins s σ H D I h
 obtain⟨W,⟨m0,w0⟩,turn⟩:=h
 refine wpAny_While (codeAny_whileLoop (λn s'=>∃ σ' H',Inv X pins σ' H' s'/\W n σ' H') ?_ m0 ⟨σ,H,I,w0⟩)
 rintro n s1 ⟨σ1,H1,I1,w1⟩
 refine cN hp (thn (hc pins s1 σ1 H1 _ I1 (turn n σ1 H1 w1)) λb s2 ⟨H2,I2,q2⟩=>?_)
 cases b with
 |true=>
  obtain⟨N,hN,q2⟩:=q2
  rw[aH rfl]
  refine cN hp (thn (hb pins s2 σ1 H2 _ I2 q2) λf s3 q3=>?_)
  cases f with
  |next=>
   obtain⟨σ3,H3,I3,n3⟩:=q3
   obtain⟨m',hm,w3⟩:=hN σ3 H3 n3
   exact⟨m',hm,σ3,H3,I3,w3⟩
  |cont=>
   obtain⟨σ3,H3,I3,n3⟩:=q3
   obtain⟨m',hm,w3⟩:=hN σ3 H3 n3
   exact⟨m',hm,σ3,H3,I3,w3⟩
  |brk=>exact q3
  |ret v=>exact q3
 |false=>
  rw[ax aW]
  exact eC ⟨σ1,H2,I2,q2⟩
end
structure It where
 go:Nat->Hp->Prop
 yld:Nat->Hp->V->Hp->Prop
 stop:Nat->Hp->Prop
def pJ (X:Cx)(pins:List (Addr×Obj))(H:Hp)(b:Addr):Prop:=
 H b=none/\b≠X.env.locals/\b∉X.fs/\(b∈X.ex\/X.s₀.heap.objs.size<=b)/\(∀ x c,X.env.cells.lookup x=some c->c≠b)/\∀ p∈X.pn++pins,p.1≠b
theorem Inv.yn {X:Cx}{pins:List (Addr×Obj)}{σ:St}{H H':Hp}{s:Shared}{b:Addr}(I:Inv X pins σ H s)(hb:s.heap.objs.size<=b)(hn:H' b=none):pJ X pins H' b:=by
 refine⟨hn,Nat.ne_of_gt (aU I.lt hb),I.HA hb,.inr (bF I.sz hb),λx c e z=>?_,λp hp z=>?_⟩
 ·obtain⟨v,q⟩:=I.cell x c e
  exact absurd (aU q.lt (by rw[z];exact hb)) (cK _)
 ·exact absurd (aU (aK (I.pin p hp).1) (by rw[z];exact hb)) (cK _)
structure Turn (P:Program)(w:World)(K:PySem.W.Frag)(tg:Expr)(J:It)(fp:List Addr)(it:Addr)(tn:Nat->Heap->Prop):Prop where
 mem:it∈fp
 obj:∀ i h,tn i h->∀ b∈fp,∃ o,h.get? b=some o/\∀ v,o.data≠ .cell v
 keep:∀ i h h',tn i h->(∀ b∈fp,∀ o,h.get? b=some o->h'.get? b=some o)->tn i h'
 item:∀ (X:Cx),X.prog=P->X.w=w->X.K=K->X.calm=true->∀ (i:Nat) (pins:List (Addr×Obj)) (s:Shared) (σ:St) (H:Hp) (E:Value->Shared->Prop),Inv X pins σ H s->(∀ b∈fp,pJ X pins H b)->tn i s.heap->J.go i H->
  wpAny (model P w) X.A (pyNext (.ref it)) (λr s1=>∃ u,r=some u/\
   wpAny (model P w) X.A (letOwnedTupleGo tg (.ref it) u) (λ_ s2=>∃ x H',Inv X pins σ H' s2/\RelV x u/\J.yld i H x H'/\tn (i+1) s2.heap/\∀ b∈fp,H' b=none) E s1) E s
 done:∀ (X:Cx),X.prog=P->X.w=w->X.K=K->X.calm=true->∀ (i:Nat) (pins:List (Addr×Obj)) (s:Shared) (σ:St) (H:Hp) (E:Value->Shared->Prop),Inv X pins σ H s->(∀ b∈fp,pJ X pins H b)->tn i s.heap->J.stop i H->
  wpAny (model P w) X.A (pyNext (.ref it)) (λr s1=>r=none/\Inv X pins σ H s1) E s
 self:∀ (A:Around) (i:Nat) (s:Shared) (Q:Value->Shared->Prop) (E:Value->Shared->Prop),tn i s.heap->Q (.ref it) s->wpAny (model P w) A (pyIter (.ref it)) Q E s
abbrev TI:=St->Hp->(It->Hp->Prop)->Prop
def PIE (X:Cx)(pins:List (Addr×Obj))(σ:St)(tg:Expr)(R:It->Hp->Prop)(itv:Value)(s2:Shared):Prop:=
 ∃ (it:Addr) (fp:List Addr) (tn:Nat->Heap->Prop) (J:It) (H':Hp),itv = .ref it/\Inv X pins σ H' s2/\Turn X.prog X.w X.K tg J fp it tn/\tn 0 s2.heap/\(∀ b∈fp,pJ X pins H' b)/\R J H'
def PI (X:Cx)(tg iter:Expr)(wi:TI):Prop:=
 ∀ (pins:List (Addr×Obj)) (s:Shared) (σ:St) (H:Hp) (R:It->Hp->Prop),Inv X pins σ H s->wi σ H R->
  wpAny (model X.prog X.w) X.A (eval iter X.env) (λv s1=>wpAny (model X.prog X.w) X.A (pyIter v) (PIE X pins σ tg R) X.xe s1) X.xe s
theorem xn {M : Model} {A : Around} {E : Value → Shared → Prop} {s : Shared} {tg : Expr} {it : Addr} {u : Value} {o : Obj} {n : String} {vs : Array Value} {Q : Unit → Shared → Prop} (ho : s.heap.get? it = some o) (hc : o.cls = .type n) (hd : o.data = .fields vs)
    (hn : ["enumerate", "zip", "dict_itemiterator", "dict_reverseitemiterator", "odict_iterator", "itertools.zip_longest", "itertools.pairwise"].contains n = false) (hQ : Q () s) : wpAny M A (letOwnedTupleGo tg (.ref it) u) Q E s := by
  unfold letOwnedTupleGo
  cases tg <;> first
    | exact aD hQ
    | (cases u <;> first
        | exact aD hQ
        | (refine ak (wpAny_load ho ?_)
           rw [hc, hd]
           show wpAny M A (if (["enumerate", "zip", "dict_itemiterator", "dict_reverseitemiterator", "odict_iterator", "itertools.zip_longest", "itertools.pairwise"].contains n && vs[0]? == some (rawInt _)) = true then _ else _) Q E s
           rw [ax (by intro h; rw [hn, Bool.false_and] at h; cases h)]
           exact aD hQ))
def Itl (K:PySem.W.Frag)(a:Addr):It:=
 ⟨λi H=>∃ xs x,SqL K H a xs/\xs[i]? = some x,λi H x H'=>H'=H/\∀ xs,SqL K H a xs->xs[i]? = some x,λi H=>∃ xs,SqL K H a xs/\xs.length<=i⟩
def Itr (lo:Int)(n:Nat):It:=⟨λi _=>i<n,λi H x H'=>H'=H/\x = .int (lo+i),λi _=>n<=i⟩
theorem xG {P:Program}{w:World}{K:PySem.W.Frag}{tg:Expr}(a it:Addr):Turn P w K tg (Itl K a) [it] it (λi h=>h.IsListIter it a i) where
 mem:=by simp
 obj:=λi h st b hb=>by
  have e:b=it:=by simpa using hb
  subst e
  obtain⟨o,e,c,d⟩:=st
  exact⟨o,e,λv z=>by rw[d]at z;cases z⟩
 keep:=λi h h' st k=>st.at λo e=>k it (by simp) o e
 item:=by
  intro X hP hw hK hc i pins s σ H E I hf st hg
  subst hP hw hK
  obtain⟨xs,x,hq,hx⟩:=hg
  obtain⟨its,rv,p,hz⟩:=I.list hq
  obtain⟨u,hu,ru⟩:=rv.get hx
  obtain⟨f0,f1,f2,f3,f4,f5⟩:=hf it (by simp)
  refine wpAny_pyNext_list_item st p.isList (x:=u) (by simpa using hu) λh' st' sb=>?_
  have I1:Inv X pins σ H {s with heap:=h'} :=I.turned (t':=s.toks) (λb o hb e=>(sb.2 b hb).trans e) f0 f1 f3 f4 f5
  obtain⟨o,e,c,d⟩:=id st'
  exact⟨u,rfl,xn (s:={s with heap:=h'}) e c d (by decide) ⟨x,H,I1,ru,⟨rfl,λys hy=>by rw[I.oo hy hq];exact hx⟩,st',λb hb=>(hf b hb).1⟩⟩
 done:=by
  intro X hP hw hK hc i pins s σ H E I hf st hg
  subst hP hw hK
  obtain⟨xs,hq,hx⟩:=hg
  obtain⟨its,rv,p,hz⟩:=I.list hq
  obtain⟨f0,f1,f2,f3,f4,f5⟩:=hf it (by simp)
  have hl:=rv.length
  exact wpAny_pyNext_list_end (I.ok.hd hc) st p.isList (by simp;omega) λh' eb=>⟨rfl,I.turned (t':=s.toks) (λb o hb e=>eb b o hb e) f0 f1 f3 f4 f5⟩
 self:=λ_ _ _ _ _ st h=>wpAny_pyIter_listiter st h
theorem vG {P:Program}{w:World}{K:PySem.W.Frag}{tg:Expr}(it:Addr)(lo:Int)(n:Nat):Turn P w K tg (Itr lo n) [it] it (λi h=>IsRangeIter h it (lo+(i:Nat)*1) ((n:Int)-(i:Nat)) 1) where
 mem:=by simp
 obj:=λi h st b hb=>by
  have e:b=it:=by simpa using hb
  subst e
  exact⟨_,st,λv z=>by
   have z':Data.fields _=Data.cell v:=z
   cases z'⟩
 keep:=λi h h' st k=>k it (by simp) _ st
 item:=by
  intro X hP hw hK hc i pins s σ H E I hf st hg
  subst hP hw hK
  obtain⟨f0,f1,f2,f3,f4,f5⟩:=hf it (by simp)
  have W:=Walks.range (prog:=X.prog) (w:=X.w) (I.ok.hd hc) it lo 1 n
  refine W.item i s _ _ hg st λv h' tk hv st' kk=>?_
  obtain⟨t,rfl⟩:=hv
  have I1:Inv X pins σ H {s with heap:=h',toks:=tk} :=I.turned (λb o hb e=>kk b o (by simpa using hb) e) f0 f1 f3 f4 f5
  refine⟨_,rfl,xn (s:={s with heap:=h',toks:=tk}) (n:= "range_iterator") st' rfl rfl (by decide) ⟨.int (lo+i),H,I1,⟨t,?_⟩,⟨rfl,rfl⟩,st',λb hb=>(hf b hb).1⟩⟩
  rw[Int.mul_one]
 done:=by
  intro X hP hw hK hc i pins s σ H E I hf st hg
  subst hP hw hK
  obtain⟨f0,f1,f2,f3,f4,f5⟩:=hf it (by simp)
  exact wpAny_pyNext_range_end (I.ok.hd hc) st (by have:n<=i:=hg;omega) λh' eb=>⟨rfl,I.turned (t':=s.toks) (λb o hb e=>eb b o hb e) f0 f1 f3 f4 f5⟩
 self:=λ_ _ _ _ _ st h=>wpAny_pyIter_rangeiter st h
section
variable {X:Cx}{tg:Expr}
def EB (K:PySem.W.Frag)(tl:TE):TI:=λσ H R=>tl σ H λx H1=>∃ a,x = .ref a/\(∃ xs,SqL K H1 a xs)/\R (Itl K a) H1
theorem fU {l:Expr}{tl:TE}(hl:PE X l tl):PI X tg l (EB X.K tl):=by
 intro pins s σ H R I h
 refine thn (hl pins s σ H _ I h) λv s1 ⟨x,H1,I1,r1,q1⟩=>?_
 obtain⟨a,e,⟨xs,hq⟩,q⟩:=q1
 subst e
 cases r1
 obtain⟨its,rv,p,hz⟩:=I1.list hq
 refine wpAny_pyIter_list p.isList ?_
 refine⟨s1.heap.objs.size,[s1.heap.objs.size],_,_,H1,rfl,I1.kept (t':=s1.toks) λb o e=>aJ _ e,xG a _,⟨_,aY _ rfl,rfl,rfl⟩,λb hb=>?_,q⟩
 have e:b=s1.heap.objs.size:=by simpa using hb
 subst e
 exact I1.yn (aq _) (I1.hok.fresh (aq _))
theorem uG {pins:List (Addr×Obj)}{σ:St}{H:Hp}{s:Shared}{R:It->Hp->Prop}{E:Value->Shared->Prop}{lo hi:Int}{t u v:Tok}{tk:Nat}(I:Inv X pins σ H s)(h1: -(2 ^ 62)<=lo)(h2:lo<2 ^ 62)(h3: -(2 ^ 62)<=hi)(h4:hi<2 ^ 62)
  (q:R (Itr lo (hi-lo).toNat) H):wpAny (model X.prog X.w) X.A (pyIter (.ref s.heap.objs.size)) (PIE X pins σ tg R) E {s with heap:=s.heap.push {cls:=.type "range",data:=.fields #[.int lo t,.int hi u,.int 1 v]},toks:=tk} :=by
 refine wpAny_pyIter_range (IsRange.new ..) (small_one h1 h2 h3 h4) ?_
 have I1:Inv X pins σ H {s with heap:=s.heap.push {cls:=.type "range",data:=.fields #[.int lo t,.int hi u,.int 1 v]},toks:=tk} :=I.kept λb o e=>aJ _ e
 refine⟨(s.heap.push {cls:=.type "range",data:=.fields #[.int lo t,.int hi u,.int 1 v]}).objs.size,[(s.heap.push {cls:=.type "range",data:=.fields #[.int lo t,.int hi u,.int 1 v]}).objs.size],_,_,H,rfl,
  I1.kept (t':=tk) λb o e=>aJ _ e,vG _ lo (hi-lo).toNat,?_,λb hb=>?_,q⟩
 ·have e1:lo+((0:Nat):Int)*1=lo:=by simp
  have e2:(((hi-lo).toNat:Nat):Int)-((0:Nat):Int)=Builtin.Range.rangeSize lo hi 1:=by rw[rangeSize_one];split<;>omega
  show IsRangeIter _ _ (lo+((0:Nat):Int)*1) ((((hi-lo).toNat:Nat):Int)-((0:Nat):Int)) 1
  rw[e1,e2]
  exact aY _ rfl
 ·have e:b=(s.heap.push {cls:=.type "range",data:=.fields #[.int lo t,.int hi u,.int 1 v]}).objs.size:=by simpa using hb
  subst e
  exact I1.yn (aq _) (I1.hok.fresh (aq _))
def Ez (ta:TA):TI:=λσ H R=>ta σ H λvs H1=>∃ j:Int,vs = [.int j]/\ -(2 ^ 62)<=j/\j<2 ^ 62/\R (Itr 0 j.toNat) H1
def Ey (ta:TA):TI:=λσ H R=>ta σ H λvs H1=>∃ i j:Int,vs = [.int i,.int j]/\(-(2 ^ 62)<=i/\i<2 ^ 62/\ -(2 ^ 62)<=j/\j<2 ^ 62)/\R (Itr i (j-i).toNat) H1
theorem jk {a:Expr}{ta:TA}{p pos:Pos}(hg:Gl X "range")(hm:X.mg "range" = none)(ha:PA X [a] ta)(hs:starEach [a] X.env = [(false,eval a X.env)]:=by rfl):PI X tg (.Call (.Name "range" p) [a] [] pos) (Ez ta):=by
 intro pins s σ H R I h
 refine Call_ (lX I hg hm boot_range (bX (thn (ha pos pins s σ H _ I h) λus s1 ⟨vs,H1,I1,r1,q1⟩=>?_) hs rfl))
 obtain⟨j,e,q1,q2,q⟩:=q1
 subst e
 cases r1 with
 |cons r rr=>
  cases rr
  obtain⟨t,rfl⟩:=r
  exact call_range_1 (uG I1 (by omega) (by omega) q1 q2 (by simpa using q))
theorem xX {a b:Expr}{ta:TA}{p pos:Pos}(hg:Gl X "range")(hm:X.mg "range" = none)(ha:PA X [a,b] ta)(hs:starEach [a,b] X.env = [(false,eval a X.env),(false,eval b X.env)]:=by rfl)(hs2:starEach [b] X.env = [(false,eval b X.env)]:=by rfl):
  PI X tg (.Call (.Name "range" p) [a,b] [] pos) (Ey ta):=by
 intro pins s σ H R I h
 refine Call_ (lX I hg hm boot_range (bX (thn (ha pos pins s σ H _ I h) λus s1 ⟨vs,H1,I1,r1,q1⟩=>?_) (by rw[hs,hs2]) (by rw[hs2];rfl)))
 obtain⟨i,j,e,⟨q1,q2,q3,q4⟩,q⟩:=q1
 subst e
 cases r1 with
 |cons r rr=>
  cases rr with
  |cons r' rr=>
   cases rr
   obtain⟨t,rfl⟩:=r
   obtain⟨t',rfl⟩:=r'
   exact call_range_2 (uG I1 q1 q2 q3 q4 q)
def FD (wi:TI)(g:TG)(tb:TS):TS:=λD σ H=>wi σ H λJ H1=>∃ W:Nat->Nat->St->Hp->Prop,(∃ m,W 0 m σ H1)/\∀ i m σ H,W i m σ H->
 (J.stop i H/\D.nx σ H)\/(J.go i H/\∃ N:St->Hp->Prop,(∀ σ' H',N σ' H'->∃ m',m'<m/\W (i+1) m' σ' H')/\∀ x H',J.yld i H x H'->g x σ H' λσ2 H2=>tb {D with nx:=N,ct:=N,bk:=D.nx} σ2 H2)
def qm (fp:List Addr)(h:Heap):List (Addr×Obj):=fp.filterMap λb=>(h.get? b).map λo=>(b,o)
theorem ly {fp:List Addr}{h:Heap}{b:Addr}{o:Obj}(hb:b∈fp)(e:h.get? b=some o):(b,o)∈qm fp h:=List.mem_filterMap.mpr ⟨b,hb,by rw[e];rfl⟩
theorem yd {fp:List Addr}{h:Heap}{p:Addr×Obj}(hp:p∈qm fp h):p.1∈fp/\h.get? p.1=some p.2:=by
 obtain⟨b,hb,e⟩:=List.mem_filterMap.mp hp
 cases q:h.get? b with
 |none=>rw[q]at e;cases e
 |some o=>
  rw[q]at e
  have e':(b,o)=p:=aZ e
  subst e'
  exact⟨hb,q⟩
theorem Inv.pinned {pins:List (Addr×Obj)}{σ:St}{H:Hp}{s:Shared}{fp:List Addr}(I:Inv X pins σ H s)(hf:∀ b∈fp,pJ X pins H b)(ho:∀ b∈fp,∃ o,s.heap.get? b=some o/\∀ v,o.data≠ .cell v):Inv X (pins++qm fp s.heap) σ H s:=
 I.wW λp hp=>(aL.mp hp).elim (λz=>I.pin p (bx _ z)) λz=>by
  obtain⟨hb,e⟩:=yd z
  obtain⟨f0,f1,f2,_⟩:=hf p.1 hb
  obtain⟨o,e',d⟩:=ho p.1 hb
  rw[e]at e';cases e'
  exact⟨e,f0,f1,f2,d⟩
theorem Inv.nS {pins pl:List (Addr×Obj)}{σ:St}{H:Hp}{s:Shared}(I:Inv X (pins++pl) σ H s):Inv X pins σ H s:=I.wW λp hp=>I.pin p (bx _ (bM _ hp))
theorem gS {iter:Expr}{body:List Stmt}{wi:TI}{g:TG}{tb:TS}{pos:Pos}(hp:PassesOwn (model X.prog X.w) X.A X.env X.xe)(hc:X.calm=true)(hi:PI X tg iter wi)(hg:PG X tg g)(hb:PSs X body tb)
  (hs:∀ x,foldedSetIterable iter X.env x=pure x:=by intro _;rfl):PS X (.For tg iter body [] pos) (FD wi g tb):=by
 intro pins s σ H D I h
 refine wpAny_For (thn (hi pins s σ H _ I h) λv s1 h1=>thn h1 λitv s2 h2=>?_) hs
 obtain⟨it,fp,tn,J,H2,e,I2,T,st2,f2,W,⟨m0,w0⟩,turn⟩:=h2
 subst e
 have B8:∀ {H':Hp},(∀ b∈fp,H' b=none)->∀ b∈fp,pJ X pins H' b:=λhn b hb=>⟨hn b hb,(f2 b hb).2⟩
 refine codeAny_forLoop_any (λn s'=>∃ i σ' H',Inv X pins σ' H' s'/\tn i s'.heap/\(∀ b∈fp,H' b=none)/\W i n σ' H') ?_ m0 ⟨0,σ,H2,I2,st2,λb hb=>(f2 b hb).1,w0⟩
 rintro n s3 ⟨i,σ3,H3,I3,st3,fr3,w3⟩
 rcases turn i n σ3 H3 w3 with⟨stop,qn⟩|⟨go,N,hN,step⟩
 ·refine cN hp (thn (T.done X rfl rfl rfl hc i pins s3 σ3 H3 X.xe I3 (B8 fr3) st3 stop) λr s4 ⟨hr,I4⟩=>?_)
  subst hr
  exact eC ⟨σ3,H3,I4,qn⟩
 ·refine cN hp (thn (T.item X rfl rfl rfl hc i pins s3 σ3 H3 X.xe I3 (B8 fr3) st3 go) λr s4 ⟨u,hr,h4⟩=>?_)
  subst hr
  refine cN hp (thn h4 λ_ s5 ⟨x,H5,I5,r5,y5,st5,fr5⟩=>?_)
  have I5':=I5.pinned (B8 fr5) (T.obj _ _ st5)
  refine cN hp (thn (hg _ s5 σ3 H5 x u _ I5' r5 (step x H5 y5)) λ_ s6 ⟨σ6,H6,I6,q6⟩=>?_)
  refine cN hp (thn (hb _ s6 σ6 H6 _ I6 q6) λf s7 q7=>?_)
  have again:∀ {σ7:St}{H7:Hp},Inv X (pins++qm fp s5.heap) σ7 H7 s7->N σ7 H7->∃ m,m<n/\∃ i σ' H',Inv X pins σ' H' s7/\tn i s7.heap/\(∀ b∈fp,H' b=none)/\W i m σ' H':=λ{σ7 H7} I7 n7=>by
   obtain⟨m',hm,w7⟩:=hN σ7 H7 n7
   refine⟨m',hm,i+1,σ7,H7,I7.nS,T.keep _ _ _ st5 λb hb o e=>(I7.pin (b,o) (bx _ (bx _ (ly hb e)))).1,λb hb=>?_,w7⟩
   obtain⟨o,e,d⟩:=T.obj _ _ st5 b hb
   exact(I7.pin (b,o) (bx _ (bx _ (ly hb e)))).2.1
  cases f with
  |next=>obtain⟨σ7,H7,I7,n7⟩:=q7;exact again I7 n7
  |cont=>obtain⟨σ7,H7,I7,n7⟩:=q7;exact again I7 n7
  |brk=>obtain⟨σ7,H7,I7,q7⟩:=q7;exact⟨σ7,H7,I7.nS,q7⟩
  |ret v=>obtain⟨x7,σ7,H7,I7,r7,q7⟩:=q7;exact⟨x7,σ7,H7,I7.nS,r7,q7⟩
end
theorem zY {K:PySem.W.Frag}{a:Addr}{xs:List V}{g:TG}{tb:TS}{D:Ends}{σ:St}{H:Hp}(Pv:Nat->St->Hp->Prop)(h0:Pv 0 σ H)(hl:∀ i σ H,i<=xs.length->Pv i σ H->SqL K H a xs)
  (hs:∀ i x σ H,xs[i]? = some x->Pv i σ H->g x σ H λσ2 H2=>tb {D with nx:=Pv (i+1),ct:=Pv (i+1),bk:=D.nx} σ2 H2) (hd:∀ σ H,Pv xs.length σ H->D.nx σ H):
  ∃ W:Nat->Nat->St->Hp->Prop,(∃ m,W 0 m σ H)/\∀ i m σ H,W i m σ H->
   ((Itl K a).stop i H/\D.nx σ H)\/((Itl K a).go i H/\∃ N:St->Hp->Prop,(∀ σ' H',N σ' H'->∃ m',m'<m/\W (i+1) m' σ' H')/\∀ x H',(Itl K a).yld i H x H'->g x σ H' λσ2 H2=>tb {D with nx:=N,ct:=N,bk:=D.nx} σ2 H2):=by
 refine⟨λi m σ H=>m=xs.length-i/\i<=xs.length/\Pv i σ H,⟨xs.length,by simp,aM _,h0⟩,?_⟩
 rintro i m σ H ⟨rfl,hi,p⟩
 have q:=hl i σ H hi p
 by_cases hlt:i<xs.length
 ·refine .inr ⟨⟨xs,xs[i],q,by simp[hlt]⟩,Pv (i+1),λσ' H' p'=>⟨xs.length-(i+1),by omega,rfl,hlt,p'⟩,λx H' y=>?_⟩
  obtain⟨e,y⟩:=y
  subst e
  exact hs i x σ _ (y xs q) p
 ·have e:i=xs.length:=by omega
  subst e
  exact .inl ⟨⟨xs,q,aq _⟩,hd σ H p⟩
theorem oW {lo:Int}{n:Nat}{g:TG}{tb:TS}{D:Ends}{σ:St}{H:Hp}(Pv:Nat->St->Hp->Prop)(h0:Pv 0 σ H)
  (hs:∀ i σ H,i<n->Pv i σ H->g (.int (lo+i)) σ H λσ2 H2=>tb {D with nx:=Pv (i+1),ct:=Pv (i+1),bk:=D.nx} σ2 H2) (hd:∀ σ H,Pv n σ H->D.nx σ H):
  ∃ W:Nat->Nat->St->Hp->Prop,(∃ m,W 0 m σ H)/\∀ i m σ H,W i m σ H->
   ((Itr lo n).stop i H/\D.nx σ H)\/((Itr lo n).go i H/\∃ N:St->Hp->Prop,(∀ σ' H',N σ' H'->∃ m',m'<m/\W (i+1) m' σ' H')/\∀ x H',(Itr lo n).yld i H x H'->g x σ H' λσ2 H2=>tb {D with nx:=N,ct:=N,bk:=D.nx} σ2 H2):=by
 refine⟨λi m σ H=>m=n-i/\i<=n/\Pv i σ H,⟨n,by simp,aM _,h0⟩,?_⟩
 rintro i m σ H ⟨rfl,hi,p⟩
 by_cases hlt:i<n
 ·refine .inr ⟨hlt,Pv (i+1),λσ' H' p'=>⟨n-(i+1),by omega,rfl,hlt,p'⟩,λx H' y=>?_⟩
  obtain⟨e,y⟩:=y
  subst e y
  exact hs i σ _ hlt p
 ·have e:i=n:=by omega
  subst e
  exact .inl ⟨aq _,hd σ H p⟩
theorem yE {c:TT}{tb:TS}{D:Ends}{σ:St}{H:Hp}(Pv:St->Hp->Prop)(μ:St->Hp->Nat)(h0:Pv σ H)
  (hs:∀ σ H,Pv σ H->c σ H λb H1=>if b=true then tb {D with nx:=λσ' H'=>Pv σ' H'/\μ σ' H'<μ σ H,ct:=λσ' H'=>Pv σ' H'/\μ σ' H'<μ σ H,bk:=D.nx} σ H1 else D.nx σ H1)
  (mono:∀ σ H Q Q',(∀ b H1,Q b H1->Q' b H1)->c σ H Q->c σ H Q'):oI c tb D σ H:=by
 refine⟨λm σ H=>m=μ σ H/\Pv σ H,⟨_,rfl,h0⟩,?_⟩
 rintro m σ H ⟨rfl,p⟩
 refine mono σ H _ _ (λb H1 q=>?_) (hs σ H p)
 cases b with
 |true=>exact⟨_,λσ' H' ⟨p',l⟩=>⟨_,l,rfl,p'⟩,q⟩
 |false=>exact q
abbrev R2:=V->V->Hp->VK->Prop
def OpR (X:Cx)(f:Value->Value->Sem Value)(r:R2):Prop:=
 ∀ (pins:List (Addr×Obj)) (s:Shared) (σ:St) (H:Hp) (x y:V) (v u:Value) (Q:VK),Inv X pins σ H s->RelV x v->RelV y u->r x y H Q->
  wpAny (model X.prog X.w) X.A (f v u) (EP X pins σ Q) X.xe s
def UnR (X:Cx)(f:Value->Sem Value)(r:V->Hp->VK->Prop):Prop:=
 ∀ (pins:List (Addr×Obj)) (s:Shared) (σ:St) (H:Hp) (x:V) (v:Value) (Q:VK),Inv X pins σ H s->RelV x v->r x H Q->
  wpAny (model X.prog X.w) X.A (f v) (EP X pins σ Q) X.xe s
def jh (X:Cx)(f:Value)(r:List V->Hp->VK->Prop):Prop:=
 ∀ (pins:List (Addr×Obj)) (s:Shared) (σ:St) (H:Hp) (xs:List V) (us:List Value) (Q:VK),Inv X pins σ H s->Vals xs us->r xs H Q->
  wpAny (model X.prog X.w) X.A (call f us) (EP X pins σ Q) X.xe s
def Ke (X:Cx)(r:V->Hp->(Bool->Hp->Prop)->Prop):Prop:=
 ∀ (pins:List (Addr×Obj)) (s:Shared) (σ:St) (H:Hp) (x:V) (v:Value) (Q:Bool->Hp->Prop),Inv X pins σ H s->RelV x v->r x H Q->
  wpAny (model X.prog X.w) X.A (truthy v) (TP X pins σ Q) X.xe s
def tOp (r:R2)(ta tb:TE):TE:=λσ H Q=>ta σ H λx H1=>tb σ H1 λy H2=>r x y H2 Q
def tUn (r:V->Hp->VK->Prop)(ta:TE):TE:=λσ H Q=>ta σ H λx H1=>r x H1 Q
def rI (C:Int->Int->Prop)(g:Int->Int->V):R2:=λx y H Q=>∃ i j,x = .int i/\y = .int j/\C i j/\Q (g i j) H
def rI0 (g:Int->Int->V):R2:=λx y H Q=>∃ i j,x = .int i/\y = .int j/\Q (g i j) H
def rU (g:Int->V):V->Hp->VK->Prop:=λx H Q=>∃ i,x = .int i/\Q (g i) H
section
variable {X:Cx}{a b c:Expr}{ta tb tc:TE}{pos:Pos}
theorem Dw (ha:PE X a ta)(hb:PE X b tb){pins:List (Addr×Obj)}{s:Shared}{σ:St}{H:Hp}{R:V->V->Hp->Prop}(I:Inv X pins σ H s)
  (h:ta σ H λx H1=>tb σ H1 λy H2=>R x y H2) {Q:Value->Shared->Prop}{f:Value->Value->Sem Value}
  (hf:∀ v u s2 x y H2,Inv X pins σ H2 s2->RelV x v->RelV y u->R x y H2->wpAny (model X.prog X.w) X.A (f v u) Q X.xe s2):
  wpAny (model X.prog X.w) X.A (eval a X.env) (λv s₁=>wpAny (model X.prog X.w) X.A (eval b X.env) (λu s₂=>wpAny (model X.prog X.w) X.A (f v u) Q X.xe s₂) X.xe s₁) X.xe s:=by
 refine thn (ha pins s σ H _ I h) λv s1 ⟨x,H1,I1,r1,q1⟩=>?_
 refine thn (hb pins s1 σ H1 _ I1 q1) λu s2 ⟨y,H2,I2,r2,q2⟩=>?_
 exact hf v u s2 x y H2 I2 r1 r2 q2
theorem fq {op:Operator}{r:R2}(ho:OpR X (binaryOp op) r)(ha:PE X a ta)(hb:PE X b tb):PE X (.BinOp a op b pos) (tOp r ta tb):=by
 intro pins s σ H Q I h
 exact wpAny_BinOp (Dw ha hb I h λv u s2 x y H2 I2 rx ry q=>ho pins s2 σ H2 x y v u Q I2 rx ry q)
theorem qp {op:UnaryOp}{r:V->Hp->VK->Prop}(ho:UnR X (unaryOp op) r)(ha:PE X a ta):PE X (.UnaryOp op a pos) (tUn r ta):=by
 intro pins s σ H Q I h
 exact UnaryOp_ (thn (ha pins s σ H _ I h) λv s1 ⟨x,H1,I1,r1,q1⟩=>ho pins s1 σ H1 x v Q I1 r1 q1)
theorem opI {f:Value->Value->Sem Value}{C:Int->Int->Prop}{g:Int->Int->Int}
  (rule:∀ (i j:Int) (t u:Tok) (s:Shared) (Q:Value->Shared->Prop) (E:Value->Shared->Prop),C i j->Q (.int (g i j) s.toks) {s with toks:=s.toks+1} ->wpAny (model X.prog X.w) X.A (f (.int i t) (.int j u)) Q E s):
  OpR X f (rI C λi j=>.int (g i j)):=by
 intro pins s σ H x y v u Q I rx ry h
 obtain⟨i,j,rfl,rfl,hc,q⟩:=h
 obtain⟨t,rfl⟩:=rx
 obtain⟨t',rfl⟩:=ry
 exact rule i j t t' s _ _ hc ⟨.int (g i j),H,I.tok _,⟨_,rfl⟩,q⟩
theorem Cw {f:Value->Value->Sem Value}{g:Int->Int->Int}
  (rule:∀ (i j:Int) (t u:Tok) (s:Shared) (Q:Value->Shared->Prop) (E:Value->Shared->Prop),Q (.int (g i j) s.toks) {s with toks:=s.toks+1} ->wpAny (model X.prog X.w) X.A (f (.int i t) (.int j u)) Q E s):
  OpR X f (rI0 λi j=>.int (g i j)):=by
 intro pins s σ H x y v u Q I rx ry h
 obtain⟨i,j,rfl,rfl,q⟩:=h
 obtain⟨t,rfl⟩:=rx
 obtain⟨t',rfl⟩:=ry
 exact rule i j t t' s _ _ ⟨.int (g i j),H,I.tok _,⟨_,rfl⟩,q⟩
def Kk (i j:Int):Prop:=0<j/\j<1073741824
def Kj (i j:Int):Prop:=0<=j/\j<=1000000/\i.natAbs<2 ^ 64
def DC (i j:Int):Prop:=(-(2 ^ 64)<i/\i<2 ^ 64)\/(-(2 ^ 64)<j/\j<2 ^ 64)
theorem DC.ok {i j:Int}(h:DC i j):IntMulOk i j:=by
 rcases h with⟨h1,h2⟩|⟨h1,h2⟩
 ·exact .of_left (intBits_le_64 h1 h2)
 ·exact .of_right (intBits_le_64 h1 h2)
theorem gJ:OpR X (binaryOp .Add) (rI0 λi j=>.int (i+j)):=Cw λ_ _ _ _ _ _ _ q=>add_int q
theorem zh:OpR X (binaryOp .Sub) (rI0 λi j=>.int (i-j)):=Cw λ_ _ _ _ _ _ _ q=>sub_int q
theorem iC:OpR X (binaryOp .Mult) (rI DC λi j=>.int (i*j)):=opI λ_ _ _ _ _ _ _ hc q=>mul_int q hc.ok
theorem iM:OpR X (binaryOp .FloorDiv) (rI Kk λi j=>.int (i/j)):=opI λi j _ _ _ _ _ hc q=>by
 have h1:(0:Int)<j:=hc.1
 have h2:j<1073741824:=hc.2
 exact floordiv_int (by omega) (by rw[Int.fdiv_eq_ediv_of_nonneg i (by omega)];exact q) (.inl (PyProof.noPylong_small (by omega)))
theorem gI:OpR X (binaryOp .Mod) (rI (λ_ j=>0<j) λi j=>.int (i%j)):=opI λi j _ _ _ _ _ hc q=>by
 have h1:(0:Int)<j:=hc
 exact mod_int' (by omega) (by rw[Int.fmod_eq_emod_of_nonneg i (by omega)];exact q)
theorem vQ:OpR X (binaryOp .Pow) (rI Kj λi j=>.int (i ^ j.toNat)):=opI λ_ _ _ _ _ _ _ hc q=>pow_int_small hc.1 hc.2.1 hc.2.2 q
theorem Cu:OpR X (binaryOp .BitXor) (rI0 λi j=>.int (Builtin.bitXor i j)):=Cw λ_ _ _ _ _ _ _ q=>xor_int q
theorem unI {f:Value->Sem Value}{g:Int->Int}
  (rule:∀ (i:Int) (t:Tok) (s:Shared) (Q:Value->Shared->Prop) (E:Value->Shared->Prop),Q (.int (g i) s.toks) {s with toks:=s.toks+1} ->wpAny (model X.prog X.w) X.A (f (.int i t)) Q E s):
  UnR X f (rU λi=>.int (g i)):=by
 intro pins s σ H x v Q I rx h
 obtain⟨i,rfl,q⟩:=h
 obtain⟨t,rfl⟩:=rx
 exact rule i t s _ _ ⟨.int (g i),H,I.tok _,⟨_,rfl⟩,q⟩
theorem nC:UnR X (unaryOp .USub) (rU λi=>.int (-i)):=unI λ_ _ _ _ _ q=>neg_int q
end
def F7:V->V->Bool
 |.non,.non=>true |.non,.int _=>true |.int _,.non=>true |.non,.bl _=>true |.bl _,.non=>true |.non,.str _=>true |.str _,.non=>true
 |.int _,.int _=>true |.bl _,.bl _=>true |.str _,.str _=>true |.byt _,.byt _=>true
 |.int _,.str _=>true |.str _,.int _=>true |.bl _,.str _=>true |.str _,.bl _=>true
 |_,_=>false
def rNe:R2:=λx y H Q=>F7 x y=true/\Q (.bl (!decide (x=y))) H
theorem Bj {i j:Int} :decide (V.int i=V.int j)=(i==j):=by
 rw[cg]
 simp
theorem Ds {i j:Bool} :decide (V.bl i=V.bl j)=(i==j):=by
 rw[cg]
 simp
theorem Bi {i j:Str} :decide (V.str i=V.str j)=(i==j):=by
 rw[cg]
 simp
theorem Bo {i j:Array UInt8} :decide (V.byt i=V.byt j)=(i.toList==j.toList):=by
 rw[cg]
 cases i
 cases j
 simp
section
variable {X:Cx}{a b c:Expr}{ta tb tc:TE}{pos:Pos}
theorem iQ {pins:List (Addr×Obj)}{σ:St}{H:Hp}{s:Shared}{Q:VK}{k k':Bool}(I:Inv X pins σ H s)(q:Q (.bl k) H)(e:k=k'):EP X pins σ Q (.bool k') s:=by
 subst e
 exact⟨.bl k,H,I,rfl,q⟩
theorem Eg:OpR X (compareOp .NotEq) rNe:=by
 intro pins s σ H x y v u Q I rx ry h
 obtain⟨hs,q⟩:=h
 cases x with
 |non=>
  cases rx
  cases y with
  |non=>cases ry;exact PySem.EqNone.ne_none_none (iQ I q (by simp))
  |bl j=>cases ry;exact PySem.EqNone.ne_none_bool (iQ I q (by simp))
  |int j=>obtain⟨t',rfl⟩:=ry;exact PySem.EqNone.ne_none_int (iQ I q (by simp))
  |str j=>obtain⟨t',rfl⟩:=ry;exact PySem.EqNone.ne_none_str (iQ I q (by simp))
  |_=>exact absurd (show false=true from hs) aW
 |bl i=>
  cases rx
  cases y with
  |non=>cases ry;exact PySem.EqNone.ne_bool_none (iQ I q (by simp))
  |bl j=>cases ry;exact ne_bool (iQ I q (cH not Ds))
  |str j=>obtain⟨t',rfl⟩:=ry;exact PySem.EqMixed.ne_bool_str (iQ I q (by simp))
  |_=>exact absurd (show false=true from hs) aW
 |int i=>
  obtain⟨t,rfl⟩:=rx
  cases y with
  |non=>cases ry;exact PySem.EqNone.ne_int_none (iQ I q (by simp))
  |int j=>obtain⟨t',rfl⟩:=ry;exact ne_int (iQ I q (cH not Bj))
  |str j=>obtain⟨t',rfl⟩:=ry;exact PySem.EqMixed.ne_int_str (iQ I q (by simp))
  |_=>exact absurd (show false=true from hs) aW
 |str i=>
  obtain⟨t,rfl⟩:=rx
  cases y with
  |non=>cases ry;exact PySem.EqNone.ne_str_none (iQ I q (by simp))
  |bl j=>cases ry;exact PySem.EqMixed.ne_str_bool (iQ I q (by simp))
  |int j=>obtain⟨t',rfl⟩:=ry;exact PySem.EqMixed.ne_str_int (iQ I q (by simp))
  |str j=>obtain⟨t',rfl⟩:=ry;exact ne_str (iQ I q (cH not Bi))
  |_=>exact absurd (show false=true from hs) aW
 |byt i=>
  obtain⟨t,rfl⟩:=rx
  cases y with
  |byt j=>obtain⟨t',rfl⟩:=ry;exact PySem.W.ne_bytes (iQ I q (cH not Bo))
  |_=>exact absurd (show false=true from hs) aW
 |_=>cases y<;>exact absurd (show false=true from hs) aW
theorem kA (b:Expr){op:CmpOp}(h:op≠ .In:=by decide)(h2:op≠ .NotIn:=by decide):behindInMarks op b=false:=by
 have e1:(op==CmpOp.In)=false:=by cases op<;>first |rfl |exact absurd rfl h
 have e2:(op==CmpOp.NotIn)=false:=by cases op<;>first |rfl |exact absurd rfl h2
 cases b<;>simp[behindInMarks,e1,e2]
theorem tq {op:CmpOp}{r:R2}(ho:OpR X (compareOp op) r)(ha:PE X a ta)(hb:PE X b tb)(hm:behindInMarks op b=false):PE X (.Compare a [op] [b] pos) (tOp r ta tb):=by
 intro pins s σ H Q I h
 exact wpAny_Compare1 (Dw ha hb I h λv u s2 x y H2 I2 rx ry q=>ho pins s2 σ H2 x y v u Q I2 rx ry q) hm
def DR (t:TE):TT:=λσ H Q=>t σ H λx H'=>∃ k,x = .bl k/\Q k H'
theorem iu {op:CmpOp}{r:R2}(ho:OpR X (compareOp op) r)(ha:PE X a ta)(hb:PE X b tb)(hm:behindInMarks op b=false):PT X (.Compare a [op] [b] pos) (DR (tOp r ta tb)):=by
 intro pins s σ H Q I h
 refine wpAny_isTrue_Compare1 (thn (ha pins s σ H _ I h) λv s1 ⟨x,H1,I1,r1,q1⟩=>thn (hb pins s1 σ H1 _ I1 q1) λu s2 ⟨y,H2,I2,r2,q2⟩=>
  thn (ho pins s2 σ H2 x y v u _ I2 r1 r2 q2) λc s3 ⟨z,H3,I3,r3,k,e,q3⟩=>?_) hm
 subst e
 cases r3
 exact cX ⟨H3,I3,q3⟩
def Fh (K:PySem.W.Frag)(x:V)(H:Hp)(k:Bool):Prop:=
 match x with
 |.non=>k=false
 |.bl b=>k=b
 |.int i=>k=(i !=0)
 |.str y=>y.length<=sizeLine/\k=((y.length:Int) !=0)
 |.byt y=>y.size<=sizeLine/\k=((y.size:Int) !=0)
 |.ref p=>(∃ xs,SqL K H p xs/\k = !xs.isEmpty)\/(∃ xs,SqT K H p xs/\k = !xs.isEmpty)\/∃ kvs,H p=some (.dK kvs)/\k = !kvs.isEmpty
 |_=>False
theorem v9 {κ:Type}{kvs:List (κ×V)}{vs:List (κ×Value)}(r:KV kvs vs):(!vs.isEmpty) = !kvs.isEmpty:=by
 cases r<;>rfl
theorem qK {xs:List V}{its:List Value}(r:Vals xs its):(!its.toArray.isEmpty) = !xs.isEmpty:=by
 cases r<;>simp
theorem tO:(sizeLine:Nat)<2 ^ 63:=by rw[cZ];decide
theorem BV:Ke X (λx H Q=>∃ k,Fh X.K x H k/\Q k H):=by
 intro pins s σ H x v Q I rx h
 obtain⟨k,e,q⟩:=h
 have hl:=tO
 have hs:sizeLine=16777216:=cZ
 cases x with
 |non=>
  cases rx
  have e':k=false:=e
  subst e'
  exact truthy_none ⟨H,I,q⟩
 |bl b=>
  cases rx
  have e':k=b:=e
  subst e'
  exact cX ⟨H,I,q⟩
 |int i=>
  obtain⟨t,rfl⟩:=rx
  have e':k=(i !=0):=e
  subst e'
  exact PySem.P.truthy_int ⟨H,I,q⟩
 |str y=>
  obtain⟨t,rfl⟩:=rx
  obtain⟨hy,e'⟩:y.length<=sizeLine/\k=((y.length:Int) !=0):=e
  subst e'
  exact PySem.P.truthy_str (by omega) ⟨H,I.tok _,q⟩
 |byt y=>
  obtain⟨t,rfl⟩:=rx
  obtain⟨hy,e'⟩:y.size<=sizeLine/\k=((y.size:Int) !=0):=e
  subst e'
  exact PySem.W.truthy_bytes (by omega) ⟨H,I.tok _,q⟩
 |ref p=>
  cases rx
  have e':(∃ xs,SqL X.K H p xs/\k = !xs.isEmpty)\/(∃ xs,SqT X.K H p xs/\k = !xs.isEmpty)\/∃ kvs,H p=some (.dK kvs)/\k = !kvs.isEmpty:=e
  rcases e' with⟨xs,hx,e'⟩|⟨xs,hx,e'⟩|⟨kvs,hx,e'⟩
  ·subst e'
   obtain⟨its,r,pl,hz⟩:=I.list hx
   have hlen:=r.length
   exact wpAny_truthy_list pl.isList (by simp only[aG];omega) ⟨H,I.tok _,by rw[qK r];exact q⟩
  ·subst e'
   obtain⟨its,r,pl,hz⟩:=I.tuple hx
   have hlen:=r.length
   exact truthy_tuple pl (by simp only[aG];omega) ⟨H,I.tok _,by rw[qK r];exact q⟩
  ·subst e'
   obtain⟨hz,hS,vs,r,m⟩:kvs.length<=sizeLine/\(p==sysModules)=false/\∃ vs,KV kvs vs/\s.heap.DictOf (g9 X.prog X.w) p vs:=I.hok p _ hx
   have hlen:kvs.length=vs.length:=ei r
   exact wpAny_truthy_dict hS m (by omega) ⟨H,I.tok _,by rw[v9 r];exact q⟩
 |_=>exact(show False from e).elim
theorem yW (ha:PE X a ta)(he:∀ whole,isTrue a X.env whole=(do let v <-whole;standAt a.pos;holding [v] (truthy v))):
  PT X a (λσ H Q=>ta σ H λx H'=>∃ k,Fh X.K x H' k/\Q k H'):=by
 intro pins s σ H Q I h
 exact isTrue_plain (thn (ha pins s σ H _ I h) λv s1 ⟨x,H1,I1,r1,q1⟩=>BV pins s1 σ H1 x v Q I1 r1 q1) (he _)
theorem vals1 {x:V}{us:List Value}(r:Vals [x] us):∃ u,us = [u]/\RelV x u:=by
 cases r with
 |cons r1 r2=>cases r2;exact⟨_,rfl,r1⟩
theorem vals2 {x y:V}{us:List Value}(r:Vals [x,y] us):∃ u w',us = [u,w']/\RelV x u/\RelV y w':=by
 cases r with
 |cons r1 r2=>
  cases r2 with
  |cons r3 r4=>cases r4;exact⟨_,_,rfl,r1,r3⟩
theorem m7 (hc:X.calm=true):jh X (.builtin "max") (λxs H Q=>∃ i j,xs = [.int i,.int j]/\Q (.int (if j>i then j else i)) H):=by
 intro pins s σ H xs us Q I r h
 obtain⟨i,j,rfl,q⟩:=h
 obtain⟨u,w',rfl,⟨t,rfl⟩,⟨t',rfl⟩⟩:=vals2 r
 refine max_two_ints (I.ok.hd hc) λh' tk k=>⟨_,H,I.kept k,?_,q⟩
 by_cases hj:j>i
 ·rw[aH hj,aH hj];exact⟨_,rfl⟩
 ·rw[ax hj,ax hj];exact⟨_,rfl⟩
theorem m6 (hc:X.calm=true):jh X (.builtin "min") (λxs H Q=>∃ i j,xs = [.int i,.int j]/\Q (.int (if j<i then j else i)) H):=by
 intro pins s σ H xs us Q I r h
 obtain⟨i,j,rfl,q⟩:=h
 obtain⟨u,w',rfl,⟨t,rfl⟩,⟨t',rfl⟩⟩:=vals2 r
 refine min_two_ints (I.ok.hd hc) λh' tk k=>⟨_,H,I.kept k,?_,q⟩
 by_cases hj:j<i
 ·rw[aH hj,aH hj];exact⟨_,rfl⟩
 ·rw[ax hj,ax hj];exact⟨_,rfl⟩
end
structure Dz (h:Heap)(x dx C:Addr)(mA:Str->Option Value):Prop where
 obj:h.get? x=some (PySem.W.instObj C dx)
 ns:h.Ns1 dx mA
 ne:dx≠x
theorem yf {h:Heap}{dx:Addr}{mA:Str->Option Value}(n:h.Ns1 dx mA):∃ od,h.get? dx=some od/\∀ name,PySem.W.lookIn name od=some (mA name):=by
 obtain⟨o,es,ep,ho,hd,hk,_,hm⟩:=n
 refine⟨o,ho,λname=>?_⟩
 have e:=hm name
 unfold nsFind findBy at e
 rw[<-Array.find?_toList]at e
 unfold PySem.W.lookIn
 rw[hd]
 dsimp only
 split
 ·rename_i y q
  rw[q]at e
  exact cH some e
 ·rename_i q
  rw[q]at e
  have a:es.toList.any (·.refKey)=false:=by
   rw[List.any_eq_false]
   intro y hy
   obtain⟨z,t,Iy⟩:=hk y (Array.mem_toList_iff.mp hy)
   simp[DictEntry.refKey,Iy]
  have a':¬es.toList.any (·.refKey)=true:=by rw[a];exact aW
  rw[ax a']
  exact cH some e
theorem Dz.look {h:Heap}{x dx C:Addr}{mA:Str->Option Value}(I:Dz h x dx C mA):∃ od,PySem.W.InstAt h x (PySem.W.instObj C dx) C (some od)/\∀ name,PySem.W.lookIn name od=some (mA name):=
 let ⟨od,ho,hl⟩:=yf I.ns
 ⟨od,⟨I.obj,rfl,rfl,ho⟩,hl⟩
section
variable {prog:Program}{w:World}{A:Around}{E:Value->Shared->Prop}{s:Shared}{K:PySem.W.Frag}{x dx C f:Addr}{mA:Str->Option Value}{name:Str}{v:Value}
end
theorem ra.some_of {v:V}{o:Option Value}(r:ra (some v) o):∃ u,o=some u/\RelV v u:=by
 cases o with
 |none=>exact(show False from r).elim
 |some u=>exact⟨u,rfl,r⟩
section
variable {P:Program}{w:World}{H H':Hp}{h h':Heap}{a C dx:Addr}{fs fs':List (Str×V)}
theorem A3 (hok:HOk P w H h)(e:H a=some (.ins C dx fs)):∃ mA,Dz h a dx C mA/\(∀ f,ra (fs.lookup f) (mA f))/\PySem.Within mA (fs.map (·.1))/\fs.length<=1000/\H dx=some (.own a):=by
 obtain⟨d,z,ne,ob,mA,n,r,q⟩:=(show gO P w H h a (.ins C dx fs) from hok a _ e)
 exact⟨mA,⟨ob,n,ne⟩,r,q,z,d⟩
end
structure Cls (K:PySem.W.Frag)(C:Addr):Prop where
 pg:PySem.W.plainGet K C Str.empty=true
 hd:PySem.W.hasDictIn K C=true
 po:PySem.W.plainOver K C=true
 sa:PySem.W.findIn K (.ref C) "__setattr__" = some (some (.builtin "object.__setattr__"))
theorem Cls.get {K:PySem.W.Frag}{C:Addr}(c:Cls K C)(f:Str):PySem.W.plainGet K C f=true:=c.pg
section
variable {X:Cx}{pins:List (Addr×Obj)}{σ:St}{H:Hp}{s:Shared}{a C dx:Addr}{fs:List (Str×V)}{f:Str}{v:V}{A:Around}{E:Value->Shared->Prop}
end
section
variable {X:Cx}{o e value:Expr}{f:Str}{pos pos' DM:Pos}{ta tv:TE}
end
section
variable {X:Cx}{pins:List (Addr×Obj)}{σ:St}{H:Hp}{s:Shared}{A:Around}{E:Value->Shared->Prop}{Q:Value->Shared->Prop}{c:Value}{b:Bool}
inductive o3 (K:PySem.W.Frag) (H:Hp):V->Value->Prop where
 |non:o3 K H .non (.type "NoneType")
 |bl (x:Bool):o3 K H (.bl x) (.type "bool")
 |int (i:Int):o3 K H (.int i) (.type "int")
 |str (x:Str):o3 K H (.str x) (.type "str")
 |flt (x:UInt64):o3 K H (.flt x) (.type "float")
 |lst {a:Addr}{xs:List V} (e:H a=some (.lst xs)):o3 K H (.ref a) (.type "list")
 |frz {a:Addr}{o:Obj}{xs:List V} (e:H a=some (.frz o (.lst xs))):o3 K H (.ref a) (.type "list")
 |tup {a:Addr}{xs:List V} (e:H a=some (.tup xs)):o3 K H (.ref a) (.type "tuple")
 |dK {a:Addr}{kvs:List (Key×V)} (e:H a=some (.dK kvs)):o3 K H (.ref a) (.type "dict")
 |dT {a:Addr}{kvs:List (List Key×V)} (e:H a=some (.dT kvs)):o3 K H (.ref a) (.type "dict")
 |ins {a C dx:Addr}{fs:List (Str×V)} (e:H a=some (.ins C dx fs)) (cl:Cls K C) (ha:PySem.W.findIn K (.ref C) "__class__" = some (some (.builtin "object.__class__")))
   (hn:PySem.W.specialIn K (.builtin "object.__class__") "__get__" = some (some (.builtin "getset_descriptor.__get__"))) (htk:PySem.W.takesIn K (.builtin "object.__class__")=some true)
   (hm:PySem.W.mroIn K C (.type "object")=some true):o3 K H (.ref a) (.ref C)
theorem yj {x:V}{u t:Value}(I:Inv X pins σ H s)(rx:RelV x u)(ty:o3 X.K H x t)(e:PySem.W.kitOne X.K t c=some b)(h:∀ tk,Q (.bool b) {s with toks:=tk}):
  wpAny (model X.prog X.w) A (call (.builtin "isinstance") [u,c]) Q E s:=by
 cases ty with
 |non=>cases(show u=Value.none from rx);exact bN PySem.W.kitx_none I.kIn True.intro e (λz=>nomatch z) h
 |bl y=>cases(show u=Value.bool y from rx);exact bN PySem.W.kitx_bool I.kIn True.intro e (λz=>nomatch z) h
 |int i=>obtain⟨t,q⟩:=(show ∃ t,u=Value.int i t from rx);cases q;exact bN PySem.W.kitx_int I.kIn True.intro e (λz=>nomatch z) h
 |str y=>obtain⟨t,q⟩:=(show ∃ t,u=Value.str y t from rx);cases q;exact bN PySem.W.kitx_str I.kIn True.intro e (λz=>nomatch z) h
 |flt y=>obtain⟨t,q⟩:=(show ∃ t,u=Value.float y t from rx);cases q;exact bN PySem.W.kitx_float I.kIn True.intro e (λz=>nomatch z) h
 |@lst a xs ea=>
  cases(show u=Value.ref a from rx)
  obtain⟨_,_,n,_,h1⟩:=(show gO X.prog X.w H s.heap a (.lst xs) from I.hok a _ ea)
  exact bN PySem.W.kitx_list I.kIn ⟨_,h1,rfl⟩ e (λz=>nomatch z) h
 |@frz a ob xs ea=>
  cases(show u=Value.ref a from rx)
  obtain⟨_,_,_,n,_,h1⟩:=(show gO X.prog X.w H s.heap a (.frz ob (.lst xs)) from I.hok a _ ea)
  exact bN PySem.W.kitx_list I.kIn ⟨_,h1,rfl⟩ e (λz=>nomatch z) h
 |@tup a xs ea=>
  cases(show u=Value.ref a from rx)
  obtain⟨_,_,_,p⟩:=(show gO X.prog X.w H s.heap a (.tup xs) from I.hok a _ ea)
  obtain⟨o,h1,h2,_⟩:=p
  exact bN PySem.W.kitx_tuple I.kIn ⟨o,h1,h2⟩ e (λz=>nomatch z) h
 |@dK a kvs ea=>
  cases(show u=Value.ref a from rx)
  obtain⟨_,_,vs,_,p⟩:=(show gO X.prog X.w H s.heap a (.dK kvs) from I.hok a _ ea)
  obtain⟨o,es,ep,h1,h2,_⟩:=p
  exact bN PySem.W.kitx_dict I.kIn ⟨o,h1,h2.1⟩ e (λz=>nomatch z) h
 |@dT a kvs ea=>
  cases(show u=Value.ref a from rx)
  obtain⟨_,_,xs,_,o,es,ep,h1,h2,_⟩:=(show gO X.prog X.w H s.heap a (.dT kvs) from I.hok a _ ea)
  exact bN PySem.W.kitx_dict I.kIn ⟨o,h1,h2.1⟩ e (λz=>nomatch z) h
 |@ins a C dx fs ea cl ha hn htk hm=>
  cases(show u=Value.ref a from rx)
  obtain⟨mA,O,_⟩:=A3 I.hok ea
  obtain⟨od,J,_⟩:=O.look
  exact bN (PySem.W.kitx_own (cl.get _) cl.hd ha hn htk hm) I.kIn J e (λz=>nomatch z) h
end
structure kS (k:Nat)(A:Around):Prop where
 hd:A.handled=none
 dp:A.depth+3*k+5<recursionLimit
 un:A.units+16*k+200<cLine
theorem kS.mono {j k:Nat}{A:Around}(r:kS k A)(h:j<=k):kS j A:=⟨r.hd,by have:=r.dp;omega,by have:=r.un;omega⟩
theorem kS.deeper {k:Nat}{A:Around}(r:kS (k+1) A)(env:Env):kS k (A.deeper env):=
 ⟨r.hd,by have:=r.dp;show A.depth+1+3*k+5<_;omega,by have:=r.un;show A.units+3+16*k+200<_;omega⟩
theorem kS.depth {k:Nat}{A:Around}(r:kS k A):A.depth<recursionLimit:=by have:=r.dp;omega
theorem kS.units {k:Nat}{A:Around}(r:kS k A):A.units+64<cLine:=by have:=r.un;omega
def Fx:TA:=λ_ H Q=>Q [] H
def DZ (ta:TE)(tr:TA):TA:=λσ H Q=>ta σ H λx H1=>tr σ H1 λxs H2=>Q (x::xs) H2
section
variable {X:Cx}{e:Expr}{es:List Expr}{te:TE}{t:TA}{pos:Pos}
theorem eX:PA X [] Fx:=λ_ _ _ _ H Q I h=>Calls.spliced_nil ⟨[],H,I,.nil,h⟩
theorem eU (ha:PE X e te)(hr:PA X es t)(hs:starEach (e::es) X.env=(false,eval e X.env)::starEach es X.env:=by rfl):PA X (e::es) (DZ te t):=by
 intro pos pins s σ H Q I h
 rw[hs]
 show wpAny _ _ (spliced ((false,eval e X.env)::backTo pos (starEach es X.env))) _ _ s
 refine Calls.spliced_cons (thn (ha pins s σ H _ I h) λu s1 ⟨x,H1,I1,r1,q1⟩=>?_)
 exact thn (hr pos pins s1 σ H1 _ I1 q1) λus s2 ⟨xs,H2,I2,r2,q2⟩=>⟨x::xs,H2,I2,.cons r1 r2,q2⟩
def Ft (t:TA):TE:=λσ H Q=>t σ H λxs H1=>xs.length<=sizeLine/\∀ p,H1 p=none->Q (.ref p) (upd H1 p (.tup xs))
def Fz (t:TA):TE:=λσ H Q=>t σ H λxs H1=>xs.length<=sizeLine/\∀ p,H1 p=none->Q (.ref p) (upd H1 p (.lst xs))
theorem gR {x1}(h:PA X es t):PE X (.Tuple es x1 pos) (Ft t):=by
 intro pins s σ H Q I hq
 refine wpAny_Tuple_spliced (thn (h pos pins s σ H _ I hq) λus s1 ⟨xs,H1,I1,r,z,q⟩=>⟨by rw[<-r.length];exact z,?_⟩)
 have hf:H1 s1.heap.objs.size=none:=I1.hok.fresh (aq _)
 refine⟨.ref s1.heap.objs.size,upd H1 s1.heap.objs.size (.tup xs),I1.laid (t':=s1.toks) (λb u e=>aJ _ e) (aq _) ?_,rfl,q _ hf⟩
 exact⟨z,us,r,⟨_,aY _ rfl,rfl,_,rfl⟩⟩
theorem fS (h:PA X es t):PE X (.List es pos) (Fz t):=by
 intro pins s σ H Q I hq
 refine wpAny_List_spliced (thn (h pos pins s σ H _ I hq) λus s1 ⟨xs,H1,I1,r,z,q⟩=>⟨by rw[<-r.length];exact z,?_⟩)
 have hf:H1 s1.heap.objs.size=none:=I1.hok.fresh (aq _)
 refine⟨.ref s1.heap.objs.size,upd H1 s1.heap.objs.size (.lst xs),I1.laid (t':=s1.toks) (λb u e=>aJ _ e) (aq _) ?_,rfl,q _ hf⟩
 exact⟨z,us,0,r,aY _ rfl⟩
end
abbrev Sp:=List V->Hp->VK->XK->Prop
abbrev CXT:=List Env->Hp->Shared->XK->Value->Shared->Prop
structure Bx (P:Program)(w:World)(K:PySem.W.Frag)(mg:Str->Option Value)(base:Heap)(A:Around)(outer:List Env)(s:Shared)(H:Hp):Prop where
 frames:A.frames=some outer
 mod:Mod K mg base
 bs:∀ b o,base.get? b=some o->s.heap.get? b=some o/\H b=none
 bsz:base.objs.size<=s.heap.objs.size
 oV:s.heap.FunFrames base outer
 frf:∀ b∈frs outer,H b=none
 hok:HOk P w H s.heap
 bare:AllBare s.gens
def CE (outer:List Env)(P:Program)(w:World)(H:Hp)(s:Shared)(Q:VK)(u:Value)(s':Shared):Prop:=
 ∃ v H',s'.os=s.os/\AllBare s'.gens/\Un (frs outer) [] H H' s.heap s'.heap/\HOk P w H' s'.heap/\RelV v u/\Q v H'
def CR (CX:CXT)(outer:List Env)(P:Program)(w:World)(H:Hp)(s:Shared)(Q:VK)(E:XK)(r:Result)(s':Shared):Prop:=
 match r with
 |.ok (.ret u)=>CE outer P w H s Q u s'
 |.ok _=>False
 |.error e=>CX outer H s E e s'
structure fG (P:Program)(w:World)(K:PySem.W.Frag)(mg:Str->Option Value)(base:Heap)(CX:CXT)(k:Nat)(f:Addr)(fd:FuncData)(ps:List Str)(sp:Sp):Prop where
 len:∀ vs H Q E,sp vs H Q E->vs.length=ps.length
 run:∀ (A:Around) (outer:List Env) (s:Shared) (H:Hp) (args:Args) (us:List Value) (vs:List V) (Q:VK) (E:XK),kS k A->Bx P w K mg base A outer s H->BindsTo s fd args (ps.zip us)->Vals vs us->sp vs H Q E->
  codeAny (model P w) A (.call (.ref f) args) (CR CX outer P w H s Q E) s
section
variable {X:Cx}{pins:List (Addr×Obj)}{σ:St}{H:Hp}{s s':Shared}
theorem Inv.E3 (I:Inv X pins σ H s):Bx X.prog X.w X.K X.mg X.base X.A X.stack s H:=
 ⟨I.ok.frames,I.ok.mod,I.bs,bF I.ok.bsz I.sz,I.stack,I.sM,I.hok,I.bare⟩
theorem Inv.after {Q:VK}{u:Value}(I:Inv X pins σ H s)(h:CE X.stack X.prog X.w H s Q u s'):EP X pins σ Q u s':=by
 obtain⟨v,H',os,bare,un,hok,r,q⟩:=h
 obtain⟨hh,g,d,t,os'⟩:=s'
 obtain rfl:os'=s.os:=os
 exact⟨v,H',I.call (h':=hh) (g':=g) (d':=d) (t':=t) (ch:=[]) un hok bare (λb z=>absurd z (by simp)),r,q⟩
end
def D2 (sp:Sp)(dvs:List V)(E:XK)(t:TA):TE:=λσ H Q=>t σ H λvs H1=>sp (vs++dvs) H1 Q E
def Binds (K:PySem.W.Frag)(fd:FuncData)(ps:List Str)(ds:List Value):Prop:=
 ∀ (s:Shared) (us:List Value),K.In s.heap->(us++ds).length=ps.length->BindsTo s fd ⟨us,[]⟩ (ps.zip (us++ds))
theorem Binds.all {K:PySem.W.Frag}{fd:FuncData}{ps:List Str}(h:∀ us:List Value,us.length=ps.length->bindArgs fd ⟨us,[]⟩=pure (ps.zip us)):Binds K fd ps []:=λs us _ hl=>by
 rw[bO]at hl ⊢
 exact .of_eq (h us hl)
def Passes (CX:CXT)(X:Cx)(E:XK):Prop:=∀ (pins:List (Addr×Obj)) (σ:St) (H:Hp) (s:Shared) (e:Value) (s':Shared),Inv X pins σ H s->CX X.stack H s E e s'->X.xe e s'
section
variable {X:Cx}{CX:CXT}{k:Nat}{f C:Addr}{fd:FuncData}{ps:List Str}{sp:Sp}{dvs:List V}{ds:List Value}{E:XK}{x m:Str}{p pos apos:Pos}{e o:Expr}{es:List Expr}{ta:TE}{t:TA}
theorem Cc {pins:List (Addr×Obj)}{σ:St}{H:Hp}{s:Shared}{Q:VK}{us:List Value}{vs:List V}(F:fG X.prog X.w X.K X.mg X.base CX k f fd ps sp)(hr:kS k X.A)(hb:Binds X.K fd ps ds)(hd:Vals dvs ds)(hx:Passes CX X E)
  (I:Inv X pins σ H s) (r:Vals vs us) (h:sp (vs++dvs) H Q E):wpAny (model X.prog X.w) X.A (call (.ref f) us) (EP X pins σ Q) X.xe s:=by
 have r2:Vals (vs++dvs) (us++ds):=r.append hd
 have hl:(us++ds).length=ps.length:=by rw[<-r2.length];exact F.len _ _ _ _ h
 refine wpAny_call (codeAny_mono (F.run X.A X.stack s H ⟨us,[]⟩ (us++ds) (vs++dvs) Q E hr I.E3 (hb s us I.kIn hl) r2 h) λr s' hq=>?_)
 cases r with
 |error e=>exact hx pins σ H s e s' I hq
 |ok fl=>
  cases fl with
  |ret u=>exact I.after hq
  |next=>exact False.elim hq
  |brk=>exact False.elim hq
  |cont=>exact False.elim hq
theorem fo (F:fG X.prog X.w X.K X.mg X.base CX k f fd ps sp)(hr:kS k X.A)(hg:Gl X x)(hm:X.mg x=some (.ref f))(hk:PySem.W.keepIn X.K (.ref f)=true)(hb:Binds X.K fd ps ds)(hd:Vals dvs ds)(hx:Passes CX X E)
  (ha:PA X (e::es) t) (hdb:(x==("__debug__" :Str))=false:=by decide) (he:starEach (e::es) X.env=(false,eval e X.env)::starEach es X.env:=by rfl) (hpl:(backTo pos (starEach es X.env)).any (·.1)=false:=by rfl):
  PE X (.Call (.Name x p) (e::es) [] pos) (D2 sp dvs E t):=by
 intro pins s σ H Q I h
 refine eP (mW I hg hm ?_ hdb)
 refine PySem.W.callWith_K (h₀:=X.base) I.ok.mod.kin hk (thn (ha pos pins s σ H _ I h) λus s1 ⟨vs,H1,I1,r,q⟩=>⟨I1.kIn,?_⟩) he hpl
 exact Cc F hr hb hd hx I1 r q
end
section
variable {X:Cx}{CX:CXT}{k:Nat}{f C:Addr}{fd:FuncData}{ps ks:List Str}{sp:Sp}{E:XK}{x m:Str}{p pos apos Kq:Pos}{e o:Expr}{es:List Expr}{kws:List Keyword}{te ta:TE}{t tk:TA}{nm:Option Str}
variable {g:List Value->List Value->List Value}{gV:List V->List V->List V}
end
structure fM (N P:List Str)(sc:Scope):Prop where
 kind:sc.kind = .function
 co:sc.isCoroutine=false
 gen:sc.isGenerator=false
 nd:N.Nodup
 pre:N.take P.length=P
 par:∀ x∈P,sc.names.lookup x=some .local\/sc.names.lookup x=some .cell
 CB:∀ y∈sc.names,y.2≠ .free
theorem sD {kindOf:Str->Option NameKind}{x:Str} :∀ {binds:List (Str×Value)}{m:Str->Option Value},(∀ v,(x,v)∉binds)->bindL kindOf binds m x=m x
 |[],_,_=>rfl
 |(n,v)::r,m,h=>by
  unfold bindL
  rw[sD λw hw=>h w (aE _ hw)]
  split
  ·have:x≠n:=by rintro rfl;exact h v aC
   simp[this]
  ·rfl
theorem sF {kindOf:Str->Option NameKind}{x:Str} :∀ {binds:List (Str×Value)}{m:Str->Option Value},(∀ v,(x,v)∉binds)->bindC kindOf binds m x=m x
 |[],_,_=>rfl
 |(n,v)::r,m,h=>by
  unfold bindC
  rw[sF λw hw=>h w (aE _ hw)]
  split
  ·rfl
  ·have:x≠n:=by rintro rfl;exact h v aC
   simp[this]
theorem sE {kindOf:Str->Option NameKind}{x:Str}{v:Value} :∀ {P:List Str}{vs:List Value}{i:Nat}{m:Str->Option Value},P.Nodup->P[i]? = some x->vs[i]? = some v->kindOf x=some .local->
  bindL kindOf (P.zip vs) m x=some v
 |[],_,_,_,_,h,_,_=>by simp at h
 |_::_,[],_,_,_,_,h,_=>by simp at h
 |p::P,w::vs,0,m,nd,h1,h2,hk=>by
  simp at h1 h2;subst h1;subst h2
  show bindL kindOf ((p,w)::P.zip vs) m p=_
  unfold bindL
  rw[sD λv hv=>(cn.mp nd).1 (cI hv).1,aH hk]
  simp
 |p::P,w::vs,i+1,m,nd,h1,h2,hk=>by
  show bindL kindOf ((p,w)::P.zip vs) m x=_
  unfold bindL
  exact sE (i:=i) (cn.mp nd).2 (by simpa using h1) (by simpa using h2) hk
theorem sI {kindOf:Str->Option NameKind}{x:Str}{v:Value} :∀ {P:List Str}{vs:List Value}{i:Nat}{m:Str->Option Value},P.Nodup->P[i]? = some x->vs[i]? = some v->kindOf x≠some .local->
  bindC kindOf (P.zip vs) m x=some v
 |[],_,_,_,_,h,_,_=>by simp at h
 |_::_,[],_,_,_,_,h,_=>by simp at h
 |p::P,w::vs,0,m,nd,h1,h2,hk=>by
  simp at h1 h2;subst h1;subst h2
  show bindC kindOf ((p,w)::P.zip vs) m p=_
  unfold bindC
  rw[sF λv hv=>(cn.mp nd).1 (cI hv).1,ax hk]
  simp
 |p::P,w::vs,i+1,m,nd,h1,h2,hk=>by
  show bindC kindOf ((p,w)::P.zip vs) m x=_
  unfold bindC
  exact sI (i:=i) (cn.mp nd).2 (by simpa using h1) (by simpa using h2) hk
def start (N:List Str)(vs:List V):St:=vs.map some++List.replicate (N.length-vs.length) none
def t6 (CX:CXT)(P:Program)(w:World)(K:PySem.W.Frag)(mg:Str->Option Value)(base:Heap)(N:List Str)(qual:Str)(scope:Scope)(f:Addr)(cd:Value)(A:Around)(outer:List Env)(s:Shared)(H:Hp)(E:XK):Cx where
 prog:=P
 w:=w
 K:=K
 mg:=mg
 base:=base
 A:=A.deeper (envOfC qual scope s.heap.objs.size f cd)
 N:=N
 s₀:=s
 H₀:=H
 env:=envOfC qual scope s.heap.objs.size f cd
 outer:=outer
 stack:=envOfC qual scope s.heap.objs.size f cd::outer
 ex:=[]
 calm:=true
 fn:=λ_=>true
 pn:=[]
 xe:=λe s'=>wpAny (model P w) (A.deeper (envOfC qual scope s.heap.objs.size f cd)) (leaving (envOfC qual scope s.heap.objs.size f cd) e) (λ_ s''=>CX outer H s E e s'') (λe' s''=>CX outer H s E e' s'') s'
theorem vA {sc:Scope}{n:Nat}{x:Str}(h:sc.names.lookup x=some .cell):∃ c,(cellsFrom n sc.names []).lookup x=some c:=by
 have q:=PySem.W.cellsFrom_some sc.names n [] (.inl h)
 exact Option.isSome_iff_exists.mp q
theorem yk {CX:CXT}{P:Program}{w:World}{K:PySem.W.Frag}{mg:Str->Option Value}{base:Heap}{N ps:List Str}{qual:Str}{scope:Scope}{f:Addr}{cd:Value}{A:Around}{outer:List Env}{s s1:Shared}{H:Hp}{E:XK}{us:List Value}{vs:List V}
  (S:fM N ps scope) (hd:A.handled=none) (e0:Bx P w K mg base A outer s H) (hl:vs.length=ps.length) (r:Vals vs us)
  (x:InCallC s s.heap.objs.size (bindL (envOfC qual scope s.heap.objs.size f cd).kindOf (ps.zip us) λ_=>none) (cellsFrom (s.heap.objs.size+1) scope.names []) (bindC (envOfC qual scope s.heap.objs.size f cd).kindOf (ps.zip us) λ_=>none) s1):
  Inv (t6 CX P w K mg base N qual scope f cd A outer s H E) [] (start N vs) H s1:=by
 have hpl:ps.length<=N.length:=by have:=cH List.length S.pre;rw[bB]at this;omega
 obtain⟨h1,tk,rfl,hk⟩:=x.done
 have noA:∀ b:Addr,b∉(t6 CX P w K mg base N qual scope f cd A outer s H E).ex:=λb z=>absurd (show b∈([]:List Addr) from z) (by simp)
 refine⟨⟨e0.mod,S.kind,rfl,rfl,aq _,λy z c h1 h2=>?_,λy hy=>?_,λy c _ h=>?_,λ_=>hd,Around.frames_deeper e0.frames,.inr ⟨rfl,rfl⟩,λb z=>absurd z (noA b),e0.bs,e0.bsz,λb _ _=>noA b,λb z=>absurd z (noA b),e0.oV,e0.frf⟩,
  rfl,e0.bare,Un.kept hk,⟨_,x.toInCall.ns,λi y v h1 h2 h3=>?_⟩,λy c h=>⟨_,x.cell y c h⟩,e0.hok.fresh (aq _),λy c h=>?_,λp hp=>absurd (show p∈([]:List (Addr×Obj)) from hp) (by simp),e0.hok.kept hk,?_⟩
 ·exact name_of_addr x.apart (cw h1) (cw h2)
 ·have hy:scope.names.lookup y=some .cell\/scope.names.lookup y=some .free:=hy
  rcases hy with hy |hy
  ·exact vA hy
  ·exact absurd rfl (S.CB _ (cw hy))
 ·exact b9 (x.above y c (cw h))
 ·have hi:i<vs.length:=by
   unfold start at h2
   by_cases hi:i<vs.length
   ·exact hi
   ·rw[ar (by simpa using hi)]at h2
    rw[List.getElem?_replicate]at h2
    split at h2<;>cases h2
  have ha:vs[i]? = some v:=by
   unfold start at h2
   rw[ao (by simpa using hi),aj]at h2
   cases e:vs[i]? with
   |none=>rw[e]at h2;cases h2
   |some a=>rw[e]at h2;cases h2;rfl
  obtain⟨u,hu,rv⟩:=r.get ha
  have hp:ps[i]? = some y:=by
   rw[<-S.pre,List.getElem?_take_of_lt (by omega)];exact h1
  have ndP:ps.Nodup:=by rw[<-S.pre];exact S.nd.sublist (List.take_sublist _ _)
  refine⟨u,rv,?_⟩
  rcases S.par y (aA hp)with k |k
  ·exact .inl ⟨k,sE ndP hp hu k⟩
  ·obtain⟨c,e⟩:=vA (n:=s.heap.objs.size+1) k
   refine .inr ⟨.inl k,c,e,?_⟩
   have q:=x.cell y c e
   rw[sI ndP hp hu (by show scope.names.lookup y≠_;rw[k];decide)]at q
   exact q
 ·exact e0.hok.fresh (b9 (x.above y c (cw h)))
 ·unfold start
  show _=N.length
  rw[ah,aa,List.length_replicate]
  omega
theorem BJ {CX:CXT}{P:Program}{w:World}{K:PySem.W.Frag}{mg:Str->Option Value}{base:Heap}{k:Nat}{f:Addr}{name qual:Str}{params:Arguments}{body:List Stmt}{scope:Scope}{dV kV doc pm cdv ct oc:Value}{an od:Option Addr}
  {osl:Array (Option Value)}{N ps:List Str}{sp:Sp} (lk:K.lookup f=some ⟨oc,od,.func (PySem.W.fnOf name qual params body scope dV kV doc pm an cdv ct),osl⟩) (hcd:PySem.W.codeIn K cdv qual=true) (S:fM N ps scope)
  (len:∀ vs H Q E,sp vs H Q E->vs.length=ps.length)
  (u0:∀ (A:Around) (outer:List Env) (s:Shared) (H:Hp) (vs:List V) (Q:VK) (E:XK),kS k (A.deeper (envOfC qual scope s.heap.objs.size f cdv))->sp vs H Q E->
   ∃ t,PSs (t6 CX P w K mg base N qual scope f cdv A outer s H E) body t/\t {nx:=λ_ H'=>Q .non H',rt:=Q} (start N vs) H):
  fG P w K mg base CX (k+1) f (PySem.W.fnOf name qual params body scope dV kV doc pm an cdv ct) ps sp:=by
 refine⟨len,λA outer s H args us vs Q E hr e0 hb r hsp=>?_⟩
 have hl:=len _ _ _ _ hsp
 have KX:K.In s.heap:=e0.mod.kin.keeps λb o e=>(e0.bs b o e).1
 have lim:s.heap.NoLimit:=e0.mod.nolimit.keeps λb o e=>(e0.bs b o e).1
 have EM:∀ y∈ps.zip us,scope.names.lookup y.1=some .local\/(scope.names.lookup y.1=some .cell/\((cellsFrom (s.heap.objs.size+1) scope.names []).lookup y.1).isSome=true):=λ⟨n,v⟩ hy=>by
  rcases S.par n (cI hy).1 with q |q
  ·exact .inl q
  ·exact .inr ⟨q,PySem.W.cellsFrom_some _ _ _ (.inl q)⟩
 refine codeAny_call_function hr.depth (KX _ _ lk) rfl S.co S.gen rfl (PySem.W.codeRec_of KX hcd) (hb _ _ _ _ ?_)
 refine wpAny_newFunctionEnv_cells S.kind EM λenv he s1 x=>?_
 subst he
 refine⟨lim.keeps x.toInCall.keep,codeAny_func ?_⟩
 obtain⟨t,ht,hq⟩:=u0 A outer s H vs Q E (hr.deeper _) hsp
 have I:Inv (t6 CX P w K mg base N qual scope f cdv A outer s H E) [] (start N vs) H s1:=yk S hr.hd e0 hl r x
 refine bQ (ht [] s1 (start N vs) H _ I hq) (λfl s' hs=>?_) λe s' hs=>hs
 have fin:∀ {σ':St}{H':Hp}{v:V}{u:Value},Inv (t6 CX P w K mg base N qual scope f cdv A outer s H E) [] σ' H' s'->RelV v u->Q v H'->CE outer P w H s Q u s':=
  λ{σ' H' v u} J rv q=>⟨v,H',J.os,J.bare,J.base,J.hok,rv,q⟩
 cases fl with
 |ret u=>
  obtain⟨v,σ',H',J,rv,q⟩:=hs
  exact fin J rv q
 |next=>
  obtain⟨σ',H',J,q⟩:=hs
  exact fin (v:=V.non) (u:=Value.none) J rfl q
 |brk=>
  obtain⟨_,_,_,q⟩:=hs
  exact False.elim q
 |cont=>
  obtain⟨_,_,_,q⟩:=hs
  exact False.elim q
section
variable {X:Cx}{x:Str}{p pos:Pos}{e:Expr}{es:List Expr}{t:TA}{id T:String}{r:List V->Hp->VK->Prop}
def tCB (r:List V->Hp->VK->Prop)(t:TA):TE:=λσ H Q=>t σ H λvs H1=>r vs H1 Q
theorem fx (hc:jh X (.builtin id) r)(hg:Gl X x)(hm:X.mg x=none)(hv:bootBuiltins x=some (.builtin id))(ha:PA X (e::es) t)(hn:x≠ "__name__" :=by decide)(hdb:(x==("__debug__" :Str))=false:=by decide)
  (he:starEach (e::es) X.env=(false,eval e X.env)::starEach es X.env:=by rfl) (hpl:(backTo pos (starEach es X.env)).any (·.1)=false:=by rfl):PE X (.Call (.Name x p) (e::es) [] pos) (tCB r t):=by
 intro pins s σ H Q I h
 refine eP (lX I hg hm hv ?_ hn hdb)
 exact PyProof.Rows.callWith_builtin1 (thn (ha pos pins s σ H _ I h) λus s1 ⟨vs,H1,I1,r1,q1⟩=>hc pins s1 σ H1 vs us Q I1 r1 q1) he hpl
theorem gA (hc:jh X (.type T) r)(hg:Gl X x)(hm:X.mg x=none)(hv:bootBuiltins x=some (.type T))(ha:PA X (e::es) t)(hn:x≠ "__name__" :=by decide)(hdb:(x==("__debug__" :Str))=false:=by decide)
  (he:starEach (e::es) X.env=(false,eval e X.env)::starEach es X.env:=by rfl) (hpl:(backTo pos (starEach es X.env)).any (·.1)=false:=by rfl):PE X (.Call (.Name x p) (e::es) [] pos) (tCB r t):=by
 intro pins s σ H Q I h
 refine eP (lX I hg hm hv ?_ hn hdb)
 exact bX (thn (ha pos pins s σ H _ I h) λus s1 ⟨vs,H1,I1,r1,q1⟩=>hc pins s1 σ H1 vs us Q I1 r1 q1) he hpl
end
end L2
namespace HT
open PySem PyProof.Rows
section
open PySem.SeqAt
open PySem.AutoSeq1 (wpAny_loadPart')
open PySem.MeetsSeq PySem.MeetsSeq2 PySem.MeetsSeq3
end
section
variable {prog:Program}{w:World}{A:Around}{E:Value->Shared->Prop}{s:Shared}
def sIx (n d:Nat):Option Int->Nat
 |none=>d
 |some v=>if v<0 then(v+(n:Int)).toNat else min v.toNat n
theorem uC (n d:Nat):sIx n d none=d:=rfl
theorem AG (n d k:Nat):sIx n d (some (k:Int))=min k n:=by
 show(if(k:Int)<0 then((k:Int)+(n:Int)).toNat else min (k:Int).toNat n)=min k n
 rw[ax (by omega),Int.toNat_natCast]
theorem Br (v:Int)(n d:Nat):(if v<0 then max (v+(n:Int)) 0 else min v (n:Int))=((sIx n d (some v):Nat):Int):=by
 show(if v<0 then max (v+(n:Int)) 0 else min v (n:Int))=(((if v<0 then(v+(n:Int)).toNat else min v.toNat n):Nat):Int)
 by_cases hv:v<0
 ·simp only[aH hv];omega
 ·simp only[ax hv];omega
end
end HT
namespace L2
open PySem PySem.Spec PyProof.Rows
abbrev TO:=St->Hp->(Option Int->Hp->Prop)->Prop
def PO (X:Cx)(e:Option Expr)(t:TO):Prop:=
 ∀ (pins:List (Addr×Obj)) (s:Shared) (σ:St) (H:Hp) (Q:Option Int->Hp->Prop),Inv X pins σ H s->t σ H Q->
  wpAny (model X.prog X.w) X.A (evalPart e X.env) (λu s'=>∃ o H',Inv X pins σ H' s'/\IsPart u o/\Q o H') X.xe s
def AA:TO:=λ_ H Q=>Q none H
def DT (t:TE):TO:=λσ H Q=>t σ H λx H1=>∃ i,x = .int i/\Q (some i) H1
theorem intsAre_of {ns:List Int} :∀ {us:List Value},Vals (ns.map V.int) us->IntsAre us ns:=by
 induction ns with
 |nil=>intro us r;rw[List.map_nil]at r;cases r;exact .nil
 |cons n ns ih=>
  intro us r
  rw[aS]at r
  cases r with
  |cons r1 r2=>
   obtain⟨t,e⟩:=r1
   subst e
   exact .cons n t (ih r2)
section
variable {X:Cx}{e:Expr}{te:TE}{lo hi:Option Expr}{tl th:TO}{pos p2:Pos}
theorem pN:PO X none AA:=by
 intro pins s σ H Q I h
 rw[evalPart_none]
 exact aD ⟨none,H,I,.none,h⟩
theorem n8 (h:PE X e te):PO X (some e) (DT te):=by
 intro pins s σ H Q I hw
 rw[evalPart_some]
 refine thn (h pins s σ H _ I hw) λu s1 ⟨x,H1,I1,r1,q1⟩=>?_
 obtain⟨i,rfl,q⟩:=q1
 obtain⟨t,rfl⟩:=r1
 exact⟨some i,H1,I1,.int i t,q⟩
def SlR (X:Cx)(r:V->Option Int->Option Int->Hp->VK->Prop):Prop:=
 ∀ (pins:List (Addr×Obj)) (s:Shared) (σ:St) (H:Hp) (x:V) (v vl vu:Value) (lo hi:Option Int) (sl:Addr) (Q:VK),Inv X pins σ H s->RelV x v->s.heap.IsSliceOf sl vl vu .none->IsPart vl lo->IsPart vu hi->r x lo hi H Q->
  ∃ T id,typeLookup (.type T) "__getitem__" = pure (some (.builtin id))/\s.TypeIs v T/\wpAny (model X.prog X.w) X.A (getItem v (.ref sl)) (EP X pins σ Q) X.xe s
def tSl (r:V->Option Int->Option Int->Hp->VK->Prop)(te:TE)(tl th:TO):TE:=λσ H Q=>te σ H λx H1=>tl σ H1 λl H2=>th σ H2 λu H3=>r x l u H3 Q
theorem oa {r:V->Option Int->Option Int->Hp->VK->Prop}(hr:SlR X r)(he:PE X e te)(hl:PO X lo tl)(hu:PO X hi th):PE X (.Subscript e (.Slice lo hi none p2) pos) (tSl r te tl th):=by
 intro pins s σ H Q I h
 refine Subscript_ (thn (he pins s σ H _ I h) λv s1 ⟨x,H1,I1,r1,q1⟩=>?_)
 refine wpAny_Slice (thn (hl pins s1 σ H1 _ I1 q1) λvl s2 ⟨l,H2,I2,pl,q2⟩=>thn (hu pins s2 σ H2 _ I2 q2) λvu s3 ⟨u,H3,I3,pu,q3⟩=>?_)
 rw[evalPart_none]
 refine aD ?_
 have I4:Inv X pins σ H3 {s3 with heap:=s3.heap.push {cls:=.type "slice",data:=.fields #[vl,vu,.none]}} :=I3.kept (t':=s3.toks) λb ob q=>aJ _ q
 obtain⟨T,id,hT,ht,hg⟩:=hr pins {s3 with heap:=s3.heap.push {cls:=.type "slice",data:=.fields #[vl,vu,.none]}} σ H3 x v vl vu l u s3.heap.objs.size Q I4 r1 (Heap.IsSliceOf.new ..) pl pu q3
 show wpAny (model X.prog X.w) X.A (subscriptTail e (.Slice lo hi none p2) v (.ref s3.heap.objs.size)) (EP X pins σ Q) X.xe {s3 with heap:=s3.heap.push {cls:=.type "slice",data:=.fields #[vl,vu,.none]}}
 exact tail_any (ops:=[.ref s3.heap.objs.size,v]) ht hT hg (by with_unfolding_all rfl)
def ou (xs:List V)(lo hi:Option Int):List V:=(xs.drop (HT.sIx xs.length 0 lo)).take (HT.sIx xs.length xs.length hi-HT.sIx xs.length 0 lo)
theorem vt (xs:List V)(lo hi:Option Int):(ou xs lo hi).length<=xs.length:=by
 unfold ou
 rw[bB,cS]
 omega
end
def ixN (n:Nat)(i:Int):Option Nat:=if 0<=i then(if i<n then some i.toNat else none)else if -(n:Int)<=i then some (i+n).toNat else none
def atI {α:Type}(xs:List α)(i:Int):Option α:=(ixN xs.length i).bind λj=>xs[j]?
theorem A1 {n:Nat}{i:Int}{j:Nat}(h:ixN n i=some j):seqIndex? i n=some j/\j<n/\ -(n:Int)<=i/\i<n:=by
 unfold ixN at h
 by_cases h0:0<=i
 ·rw[aH h0]at h
  by_cases h1:i<n
  ·rw[aH h1]at h
   have e:i.toNat=j:=aZ h
   exact⟨by rw[seqIndex_of h0 h1,e],by omega,by omega,h1⟩
  ·rw[ax h1]at h;cases h
 ·rw[ax h0]at h
  by_cases h1: -(n:Int)<=i
  ·rw[aH h1]at h
   have e:(i+n).toNat=j:=aZ h
   exact⟨by rw[seqIndex_neg (by omega) h1,e],by omega,h1,by omega⟩
  ·rw[ax h1]at h;cases h
theorem xt {α:Type}{xs:List α}{i:Int}{v:α}(h:atI xs i=some v):∃ j,seqIndex? i xs.length=some j/\xs[j]? = some v/\j<xs.length/\ -(xs.length:Int)<=i/\i<xs.length:=by
 unfold atI at h
 cases e:ixN xs.length i with
 |none=>rw[e]at h;cases h
 |some j=>
  rw[e]at h
  obtain⟨h1,h2,h3,h4⟩:=A1 e
  exact⟨j,h1,h,h2,h3,h4⟩
theorem kr {α:Type}{xs:List α}{j:Nat}{v:α}(h:xs[j]? = some v):atI xs (j:Int)=some v:=by
 have hj:j<xs.length:=(af.mp h).1
 have e:ixN xs.length (j:Int)=some j:=by
  unfold ixN
  rw[aH (by omega),aH (by omega)];simp
 unfold atI;rw[e];exact h
theorem Ai {α:Type}(xs:List α)(v:α):atI (xs ++ [v]) (-1)=some v:=by
 have hl:(xs ++ [v]).length=xs.length+1:=by simp
 have e:ixN (xs ++ [v]).length (-1)=some xs.length:=by
  unfold ixN
  rw[hl,ax (by decide),aH (by omega)]
  congr 1
  omega
 unfold atI
 rw[e]
 show(xs ++ [v])[xs.length]? = some v
 simp
def Bv (b:Expr):Prop:=∀ o i,subscripted b false o i=operate [o,i] (getItem o i)
def IxR (X:Cx)(r:R2):Prop:=
 ∀ (value slice:Expr) (pins:List (Addr×Obj)) (s:Shared) (σ:St) (H:Hp) (x y:V) (v u:Value) (Q:VK),Inv X pins σ H s->RelV x v->RelV y u->r x y H Q->
  subscripted slice false v u=operate [v,u] (getItem v u)->wpAny (model X.prog X.w) X.A (subscriptTail value slice v u) (EP X pins σ Q) X.xe s
def MtR (X:Cx)(id:String)(r:V->List V->Hp->VK->Prop):Prop:=
 ∀ (pins:List (Addr×Obj)) (s:Shared) (σ:St) (H:Hp) (x:V) (xs:List V) (v:Value) (us:List Value) (Q:VK),Inv X pins σ H s->RelV x v->Vals xs us->r x xs H Q->
  wpAny (model X.prog X.w) X.A (call (.builtin id) (v::us)) (EP X pins σ Q) X.xe s
section
variable {X:Cx}{a b:Expr}{ta tb:TE}{pos:Pos}
theorem gz {r:R2}(hr:IxR X r)(ha:PE X a ta)(hb:PE X b tb)(hs:Bv b):PE X (.Subscript a b pos) (tOp r ta tb):=by
 intro pins s σ H Q I h
 exact Subscript_ (Dw ha hb I h λv u s2 x y H2 I2 rx ry q=>hr a b pins s2 σ H2 x y v u Q I2 rx ry q (hs _ _))
def Eb (K:PySem.W.Frag):R2:=λx y H Q=>∃ p xs i v,x = .ref p/\y = .int i/\SqL K H p xs/\atI xs i=some v/\Q v H
def Gb (K:PySem.W.Frag):R2:=λx y H Q=>∃ p xs i v,x = .ref p/\y = .int i/\SqT K H p xs/\atI xs i=some v/\Q v H
theorem gh:IxR X (Eb X.K):=by
 intro value slice pins s σ H x y v u Q I rx ry h hs
 obtain⟨p,xs,i,z,rfl,rfl,hq,he,q⟩:=h
 cases rx
 obtain⟨t,rfl⟩:=ry
 obtain⟨its,r,pl,hz⟩:=I.list hq
 obtain⟨j,h1,h2,h3,h4,h5⟩:=xt he
 obtain⟨w,ew,rw'⟩:=r.get h2
 have hl:=r.length
 have hn:=tO
 have fin:EP X pins σ Q w s:=⟨z,H,I,rw',q⟩
 by_cases h0:0<=i
 ·have hj:i.toNat=j:=by
   rw[seqIndex_of h0 h5]at h1
   exact aZ h1
  exact item_listR pl.isList h0 (by omega) (by rw[hj];simpa using ew) fin hs
 ·have hj:(i+(its.toArray.size:Int)).toNat=j:=by
   rw[seqIndex_neg (by omega) h4]at h1
   rw[aG,<-hl]
   exact aZ h1
  exact subscriptTail_builtinR (x:=w) pl.isList.typeIs slot_list_getitem.lookup
   (wpAny_getItem_list_neg (Q:=λr s'=>r=w/\EP X pins σ Q r s') pl.isList (by omega) (by rw[aG]<;>omega) (by omega) (by rw[hj];simpa using ew) ⟨rfl,fin⟩) hs
theorem kD:IxR X (Gb X.K):=by
 intro value slice pins s σ H x y v u Q I rx ry h hs
 obtain⟨p,xs,i,z,rfl,rfl,hq,he,q⟩:=h
 cases rx
 obtain⟨t,rfl⟩:=ry
 obtain⟨its,r,pl,hz⟩:=I.tuple hq
 obtain⟨j,h1,h2,h3,h4,h5⟩:=xt he
 obtain⟨w,ew,rw'⟩:=r.get h2
 have hl:=r.length
 have hn:=tO
 have fin:EP X pins σ Q w s:=⟨z,H,I,rw',q⟩
 exact subscriptTail_builtinR (x:=w) pl.typeIs slot_tuple_getitem.lookup
  (getItem_tuple (j:=j) (Q:=λr s'=>r=w/\EP X pins σ Q r s') pl (by omega) (by omega) (by rw[aG,<-hl];exact h1) (by simpa using ew) ⟨rfl,fin⟩) hs
theorem sR (lo hi:Option Int)(n:Nat):(sliceBounds lo hi none n).1=((HT.sIx n 0 lo:Nat):Int)/\(sliceBounds lo hi none n).2.1=((HT.sIx n n hi:Nat):Int)/\(sliceBounds lo hi none n).2.2=1:=by
 refine⟨?_,?_,rfl⟩
 ·cases lo with
  |none=>simp[sliceBounds,HT.sIx]
  |some i=>
   simp only[sliceBounds,HT.sIx,Option.getD_none,show(1:Int)>0 by decide,if_true]
   by_cases h:i<0
   ·simp only[h,if_true]<;>omega
   ·simp only[h,dc]<;>omega
 ·cases hi with
  |none=>simp[sliceBounds,HT.sIx]
  |some i=>
   simp only[sliceBounds,HT.sIx,Option.getD_none,show(1:Int)>0 by decide,if_true]
   by_cases h:i<0
   ·simp only[h,if_true]<;>omega
   ·simp only[h,dc]<;>omega
theorem rm (its:List Value)(lo hi:Option Int):slicePick its.toArray lo hi none=((its.drop (HT.sIx its.length 0 lo)).take (HT.sIx its.length its.length hi-HT.sIx its.length 0 lo)).toArray:=by
 obtain⟨h1,h2,h3⟩:=sR lo hi its.toArray.size
 unfold slicePick
 rw[h1,h2,h3]
 simp only[sliceRange_one,pick_run,aG]<;>rfl
def F8 (K:PySem.W.Frag):V->Option Int->Option Int->Hp->VK->Prop:=λx lo hi H Q=>∃ a xs,x = .ref a/\SqL K H a xs/\∀ p,H p=none->Q (.ref p) (upd H p (.lst (ou xs lo hi)))
theorem pM:SlR X (F8 X.K):=by
 intro pins s σ H x v vl vu lo hi sl Q I rx hs pl pu h
 obtain⟨a,xs,rfl,hx,q⟩:=h
 cases rx
 obtain⟨its,r,ht,hz⟩:=I.list hx
 have hlen:=r.length
 refine⟨"list",_,slot_list_getitem.lookup,ht.isList.typeIs,?_⟩
 refine wpAny_getItem_list_slice ht.isList hs pl pu .none (by simp) ?_ (by rw[aG]<;>omega)
 rw[rm,<-hlen]
 refine⟨.ref s.heap.objs.size,_,I.laid (t':=s.toks) (o:=.lst (ou xs lo hi)) (λb ob q=>aJ _ q) (aq _) ?_,rfl,q _ (I.hok.fresh (aq _))⟩
 exact⟨bF (vt xs lo hi) hz,_,0,(r.drop (HT.sIx xs.length 0 lo)).take (HT.sIx xs.length xs.length hi-HT.sIx xs.length 0 lo),aY _ rfl⟩
theorem fR:jh X (.builtin "len") (λxs H Q=>∃ p ys,xs = [.ref p]/\(SqL X.K H p ys\/SqT X.K H p ys)/\Q (.int ys.length) H):=by
 intro pins s σ H xs us Q I r h
 obtain⟨p,ys,rfl,hq,q⟩:=h
 obtain⟨u,rfl,rx⟩:=vals1 r
 cases rx
 have hn:=tO
 rcases hq with hq |hq
 ·obtain⟨its,r',pl,hz⟩:=I.list hq
  have hlen:=r'.length
  exact Calls.call_len_list pl.isList (by simp only[aG]<;>omega) ⟨.int ys.length,H,I.tok _,⟨s.toks+1,by rw[aG,hlen]⟩,q⟩
 ·obtain⟨its,r',pl,hz⟩:=I.tuple hq
  have hlen:=r'.length
  exact len_tuple pl (by simp only[aG]<;>omega) ⟨.int ys.length,H,I.tok _,⟨s.toks+1,by rw[aG,hlen]⟩,q⟩
theorem lG:jh X (.type "list") (λxs H Q=>∃ p ys,xs = [.ref p]/\(SqL X.K H p ys\/SqT X.K H p ys)/\∀ l,H l=none->Q (.ref l) (upd H l (.lst ys))):=by
 intro pins s σ H xs us Q I r h
 obtain⟨p,ys,rfl,hq,q⟩:=h
 obtain⟨u,rfl,rx⟩:=vals1 r
 cases rx
 have fin:∀ (its:List Value),Vals ys its->ys.length<=sizeLine->∀ (h':Heap) (c':Nat),(∀ b o',s.heap.get? b=some o'->h'.get? b=some o')->
   h'.get? s.heap.objs.size=some {cls:=.type "list",dict:=none,data:=.seq its.toArray c',slots:= #[]} ->EP X pins σ Q (.ref s.heap.objs.size) {s with heap:=h'} :=λits r' hz h' c' kp e=>
  ⟨.ref s.heap.objs.size,_,I.laid (t':=s.toks) kp (aq _) (show gO X.prog X.w _ h' _ (.lst ys) from⟨hz,its,c',r',e⟩),rfl,q _ (I.hok.fresh (aq _))⟩
 rcases hq with hq |hq
 ·obtain⟨its,r',pl,hz⟩:=I.list hq
  have hlen:=r'.length
  obtain⟨o,ho,hc,n,hd⟩:=pl.isList
  exact call_list_seq p (.inl rfl) ho hc hd (λh' c' kp e=>fin its r' hz h' c' kp e) (by simp only[aG]<;>omega)
 ·obtain⟨its,r',pl,hz⟩:=I.tuple hq
  have hlen:=r'.length
  obtain⟨o,ho,hc,n,hd⟩:=pl
  exact call_list_seq p (.inr rfl) ho hc hd (λh' c' kp e=>fin its r' hz h' c' kp e) (by simp only[aG]<;>omega)
theorem gE:jh X (.type "tuple") (λxs H Q=>∃ p ys,xs = [.ref p]/\((SqL X.K H p ys/\∀ l,H l=none->Q (.ref l) (upd H l (.tup ys)))\/(SqT X.K H p ys/\Q (.ref p) H))):=by
 intro pins s σ H xs us Q I r h
 obtain⟨p,ys,rfl,h⟩:=h
 obtain⟨u,rfl,rx⟩:=vals1 r
 cases rx
 rcases h with⟨hq,q⟩|⟨hq,q⟩
 ·obtain⟨its,r',pl,hz⟩:=I.list hq
  have hlen:=r'.length
  refine call_tuple_list pl.isList (λh' kp=>?_) (by simp only[aG]<;>omega)
  have I1:Inv X pins σ H {s with heap:=h'} :=I.kept (t':=s.toks) kp
  have I2:Inv X pins σ (upd H h'.objs.size (.tup ys)) {s with heap:=h'.push {cls:=.type "tuple",data:=.seq its.toArray}} :=
   I1.laid (t':=s.toks) (λb o e=>aJ _ e) (aq _) (show gO X.prog X.w _ _ _ (.tup ys) from⟨hz,its,r',IsTup.new _ _⟩)
  exact⟨.ref h'.objs.size,_,I2,rfl,q _ (I1.hok.fresh (aq _))⟩
 ·obtain⟨its,r',pl,hz⟩:=I.tuple hq
  exact call_tuple_same pl ⟨.ref p,H,I,rfl,q⟩
def tyV (K:PySem.W.Frag)(T:String)(x:V)(H:Hp):Prop:=match x with
 |.str _=>T = "str"
 |.int _=>T = "int"
 |.ref p=>(T = "list" /\∃ xs,SqL K H p xs)\/(T = "tuple" /\∃ o,K.lookup p=some o/\o.cls = .type "tuple" /\o.dict=none)\/
   (T = "dict" /\((∃ kvs,H p=some (.dK kvs))\/∃ kvs,H p=some (.dT kvs)))\/(T = "set" /\∃ S n,H p=some (.set S n))
 |_=>False
theorem yI {pins:List (Addr×Obj)}{σ:St}{H:Hp}{s:Shared}{T:String}{x:V}{v:Value}(I:Inv X pins σ H s)(r:RelV x v)(ty:tyV X.K T x H):
  s.TypeIs v T/\∀ a,v = .ref a->∃ ob,s.heap.get? a=some ob/\ob.dict=none:=by
 cases x with
 |str z=>
  obtain⟨t,rfl⟩:=r
  cases(show T = "str" from ty)
  exact⟨typeIs_str s z t,λ_ e=>nomatch e⟩
 |int i=>
  obtain⟨t,rfl⟩:=r
  cases(show T = "int" from ty)
  exact⟨typeIs_int s i t,λ_ e=>nomatch e⟩
 |ref p=>
  cases r
  rcases ty with⟨rfl,xs,hq⟩|⟨rfl,o,hk,hc,hd⟩|⟨rfl,hk⟩|⟨rfl,S,n,hk⟩
  ·obtain⟨its,_,pl,_⟩:=I.list hq
   refine⟨pl.isList.typeIs,λa e=>?_⟩
   cases e
   obtain⟨o,n,e,c,hd,_⟩:=pl
   exact⟨o,e,hd⟩
  ·refine⟨⟨o,I.kIn p o hk,hc⟩,λa e=>?_⟩
   cases e
   exact⟨o,I.kIn _ o hk,hd⟩
  ·have z:∃ o,s.heap.get? p=some o/\o.ExactDict:=by
    rcases hk with⟨kvs,hk⟩|⟨kvs,hk⟩
    ·obtain⟨_,_,_,_,o,_,_,e,ex,_⟩:=I.hok p _ hk
     exact⟨o,e,ex⟩
    ·obtain⟨_,_,_,_,o,_,_,e,ex,_⟩:=I.hok p _ hk
     exact⟨o,e,ex⟩
   obtain⟨o,e,ex⟩:=z
   refine⟨⟨o,e,ex.1⟩,λa e2=>?_⟩
   cases e2
   exact⟨o,e,ex.2.1⟩
  ·obtain⟨o,_,_,_,e,ex,_⟩:=I.hok p _ hk
   refine⟨⟨o,e,ex.1⟩,λa e2=>?_⟩
   cases e2
   exact⟨o,e,ex.2.1⟩
 |_=>exact False.elim ty
def FF (K:PySem.W.Frag)(T:String)(r:V->List V->Hp->VK->Prop)(to:TE):TE:=λσ H Q=>to σ H λx H1=>tyV K T x H1/\r x [] H1 Q
def tBM (K:PySem.W.Frag)(T:String)(r:V->List V->Hp->VK->Prop)(to:TE)(t:TA):TE:=λσ H Q=>to σ H λx H1=>tyV K T x H1/\t σ H1 λxs H2=>r x xs H2 Q
variable {o e:Expr}{es:List Expr}{to:TE}{t:TA}{name:Str}{apos lI:Pos}{T id:String}{r:V->List V->Hp->VK->Prop}
theorem tu (pa:PlainAttrs T)(slot:Slot T name id)(hty:typeOf (.builtin id)=pure (.type "method_descriptor"))(hm:MtR X id r)(ho:PE X o to)
  (zT:attributeBase o name X.env (eval o X.env)=eval o X.env:=by rfl) (zO:(apos.endLine==lI.line)=true:=by rfl):PE X (.Call (.Attribute o name apos) [] [] lI) (FF X.K T r to):=by
 intro pins s σ H Q I h
 refine wpAny_Call_method0_late zT zO (thn (ho pins s σ H _ I h) λv s1 ⟨x,H1,I1,r1,ty,q1⟩=>?_)
 obtain⟨h1,h2⟩:=yI I1 r1 ty
 exact⟨T,id,pa,slot,hty,h1,h2,Calls.callWith_builtin rfl (PySem.evalArgs_none (hm pins s1 σ H1 x [] v [] Q I1 r1 .nil q1))⟩
theorem iV (pa:PlainAttrs T)(slot:Slot T name id)(hty:typeOf (.builtin id)=pure (.type "method_descriptor"))(hm:MtR X id r)(ho:PE X o to)(ha:PA X (e::es) t)
  (zT:attributeBase o name X.env (eval o X.env)=eval o X.env:=by rfl)
  (Iz:((backTo lI (starEach (e::es) X.env)).all (λx=> !x.1)&&(backToKw lI (keywordEach [] X.env)).all (λx=>x.1.isSome)
   && decide ((e::es).length+([]:List Keyword).length+(if([]:List Keyword).isEmpty then 0 else 1)<30))=true:=by rfl)
  (zO:(apos.endLine==lI.line)=true:=by rfl) (hs:starEach (e::es) X.env=(false,eval e X.env)::starEach es X.env:=by rfl) (CZ:(backTo lI (starEach es X.env)).any (·.1)=false:=by rfl):
  PE X (.Call (.Attribute o name apos) (e::es) [] lI) (tBM X.K T r to t):=by
 intro pins s σ H Q I h
 refine wpAny_Call_method_late zT Iz zO rfl (thn (ho pins s σ H _ I h) λv s1 ⟨x,H1,I1,r1,ty,q1⟩=>?_)
 obtain⟨h1,h2⟩:=yI I1 r1 ty
 refine⟨T,id,pa,slot,hty,h1,h2,?_⟩
 have hA:=ha lI pins s1 σ H1 _ I1 q1
 rw[hs]at hA ⊢
 refine Calls.callWith_builtin (by show(false||(backTo lI (starEach es X.env)).any (·.1))=false;rw[CZ]<;>rfl) (Calls.evalArgs_plain ?_)
 exact thn hA λus s2 ⟨vs,H2,I2,r2,q2⟩=>hm pins s2 σ H2 x vs v us Q I2 r1 r2 q2
/- xs.append(e),list.index on a Ep tuple .. are MtR facts of 06m -/
end
def MtM (X:Cx)(id:String)(r:V->List V->Hp->VK->Prop):Prop:=
 ∀ (pins:List (Addr×Obj)) (s:Shared) (σ:St) (H:Hp) (x:V) (xs:List V) (v:Value) (us:List Value) (Q:VK),Inv X pins σ H s->RelV x v->Vals xs us->r x xs H Q->
  wpAny (model X.prog X.w) X.A (call (.builtin id) (v::us)) (EP X pins σ Q) X.xe s
theorem Vals.one:∀ {x:V}{us:List Value},Vals [x] us->∃ u,us = [u]/\RelV x u
 |_,_,.cons r .nil=>⟨_,rfl,r⟩
theorem Vals.two {x y:V}{us:List Value}(h:Vals [x,y] us):∃ u v,us = [u,v]/\RelV x u/\RelV y v:=by
 cases h with
 |cons r t=>
  cases t with
  |cons q n=>
   cases n
   exact⟨_,_,rfl,r,q⟩
theorem Vals.zero:∀ {us:List Value},Vals [] us->us = []
 |_,.nil=>rfl
theorem Vals.dropLast {xs:List V}{us:List Value}(h:Vals xs us):Vals xs.dropLast us.dropLast:=by
 induction h with
 |nil=>exact .nil
 |cons r t ih=>
  cases t with
  |nil=>exact .nil
  |cons q t'=>exact .cons r ih
theorem Vals.reverse {xs:List V}{us:List Value}(h:Vals xs us):Vals xs.reverse us.reverse:=by
 induction h with
 |nil=>exact .nil
 |cons r t ih=>rw[List.reverse_cons,List.reverse_cons];exact Vals.append ih (.cons r .nil)
theorem wq {α:Type}(l:List α):l.eraseIdx (l.length-1)=l.dropLast:=by
 induction l with
 |nil=>rfl
 |cons a r ih=>
  cases r with
  |nil=>rfl
  |cons b r=>
   have e:(a::b::r).length-1=((b::r).length-1)+1:=by
    have h1:(a::b::r).length=r.length+2:=rfl
    have h2:(b::r).length=r.length+1:=rfl
    omega
   rw[e,List.eraseIdx_cons_succ,ih]
   all_goals rfl
section
variable {X:Cx}{pins:List (Addr×Obj)}{σ:St}{H:Hp}{s:Shared}{l b:Addr}{xs ys zs:List V}
theorem Inv.zE {its its':List Value}{n:Nat}{f:Array Value->Array Value}{t':Nat}(I:Inv X pins σ H s)(hH:H l=some (.lst xs))
  (e:s.heap.get? l=some {cls:=.type "list",data:=.seq its.toArray n}) (hf:f its.toArray=its'.toArray) (hv:Vals ys its') (hz:ys.length<=sizeLine):
  Inv X pins σ (upd H l (.lst ys)) {s with heap:=s.heap.update l (Obj.mapSeq f),toks:=t'} :=by
 have q:=PySem.IsL.update e f
 rw[hf]at q
 refine I.write (x:=l) (e:=l) (by rw[hH];exact trivial) (.inl rfl) (λb' u hb hu=>(Heap.get?_update_other s.heap (Obj.mapSeq f) (bZ hb)).trans hu) ⟨_,q⟩ ?_
 exact⟨hz,its',_,hv,q⟩
theorem Inv.Es {its:List Value}{t':Nat}(I:Inv X pins σ H s)(hv:Vals ys its)(hz:ys.length<=sizeLine):
  Inv X pins σ (upd H s.heap.objs.size (.lst ys)) {s with heap:=s.heap.push {cls:=.type "list",data:=.seq its.toArray},toks:=t'} :=
 I.laid (λ_ _ q=>aJ _ q) (aq _) ⟨hz,its,0,hv,aY _ rfl⟩
theorem Inv.fresh (I:Inv X pins σ H s):H s.heap.objs.size=none:=I.hok.fresh (aq _)
theorem Inv.rz (I:Inv X pins σ H s)(hH:H l=some (.lst xs)):xs.length<=sizeLine/\∃ (its:List Value) (n:Nat),Vals xs its/\xs.length=its.length/\s.heap.get? l=some {cls:=.type "list",data:=.seq its.toArray n} :=by
 obtain⟨z,its,n,r,e⟩:=I.hok l _ hH
 exact⟨z,its,n,r,r.length,e⟩
theorem zk {n:Nat}(h:n<=sizeLine):Builtin.List.listTooLong n=false:=by
 unfold Builtin.List.listTooLong
 exact bo (by omega)
end
section
variable {X:Cx}
def AN:V->List V->Hp->VK->Prop:=λx vs H Q=>∃ l xs y,x = .ref l/\vs = [y]/\H l=some (.lst xs)/\xs.length<sizeLine/\Q .non (upd H l (.lst (xs ++ [y])))
theorem gk:MtM X "list.append" AN:=by
 intro pins s σ H x vs v us Q I rx rv h
 obtain⟨l,xs,y,rfl,rfl,hH,hz,q⟩:=h
 cases rx
 obtain⟨u,rfl,ru⟩:=rv.one
 obtain⟨z,its,n,r,hl,e⟩:=I.rz hH
 refine d8 F.slot_list_append ⟨_,e,rfl⟩ F.entry_list_append (F.args_list_append_2 _ _) (PySem.list_append l its.toArray n u (by rw[aG];omega)) ⟨e,?_⟩
 refine⟨.non,_,I.zE (its':=its ++ [u]) hH e (by simp) (r.append (.cons ru .nil)) ?_,rfl,q⟩
 rw[ah,bG]
 omega
def AL:V->List V->Hp->VK->Prop:=λx vs H Q=>∃ l b xs zs,x = .ref l/\vs = [.ref b]/\H l=some (.lst xs)/\H b=some (.lst zs)/\xs.length+zs.length<=sizeLine/\Q .non (upd H l (.lst (xs++zs)))
theorem ye:MtM X "list.extend" AL:=by
 intro pins s σ H x vs v us Q I rx rv h
 obtain⟨l,b,xs,zs,rfl,rfl,hH,hB,hz,q⟩:=h
 cases rx
 obtain⟨u,rfl,ru⟩:=rv.one
 cases ru
 obtain⟨z,its,n,r,hl,e⟩:=I.rz hH
 obtain⟨z2,v7,n2,r2,hl2,e2⟩:=I.rz hB
 have hsz:its.toArray.size+v7.toArray.size<=sizeLine:=by rw[aG,aG];omega
 have EL:¬(!its.toArray.isEmpty&&Builtin.List.listTooLong (its.toArray.size+v7.toArray.size))=true:=by
  rw[zk hsz,Bool.and_false]
  exact aW
 refine d8 F.slot_list_extend ⟨_,e,rfl⟩ F.entry_list_extend (F.args_list_extend_2 _ _)
  (AutoSeq1.list_extend_list_list_0 l its.toArray n b v7.toArray n2 EL (by rw[aG];omega) (by omega)) ⟨e,e2,?_⟩
 refine⟨.non,_,I.zE (its':=its++v7) hH e (by simp) (r.append r2) ?_,rfl,q⟩
 rw[ah]
 omega
def F9:V->List V->Hp->VK->Prop:=λx vs H Q=>∃ l xs y,x = .ref l/\vs = []/\H l=some (.lst xs)/\xs[xs.length-1]? = some y/\Q y (upd H l (.lst xs.dropLast))
theorem CC:MtM X "list.pop" F9:=by
 intro pins s σ H x vs v us Q I rx rv h
 obtain⟨l,xs,y,rfl,rfl,hH,hy,q⟩:=h
 cases rx
 have hus:=rv.zero
 subst hus
 obtain⟨z,its,n,r,hl,e⟩:=I.rz hH
 obtain⟨u,hu,ru⟩:=r.get hy
 have hy':its.toArray[its.toArray.size-1]? = some u:=by
  show its.toArray[its.length-1]? = some u
  rw[<-aB,<-hl]
  exact hu
 refine d8 F.slot_list_pop ⟨_,e,rfl⟩ F.entry_list_pop (F.args_list_pop_1 _) (MeetsSeq.list_pop_last l its.toArray n u hy' (by rw[aG];omega)) ⟨e,?_⟩
 refine⟨y,_,I.zE (its':=its.dropLast) hH e ?_ r.dropLast ?_,ru,q⟩
 ·show its.toArray.eraseIdxIfInBounds (its.toArray.size-1)=its.dropLast.toArray
  rw[aG,List.eraseIdxIfInBounds_toArray,wq]
 ·rw[cm]
  omega
def Ci:V->List V->Hp->VK->Prop:=λx vs H Q=>∃ l xs,x = .ref l/\vs = []/\H l=some (.lst xs)/\Q .non (upd H l (.lst []))
theorem qD:MtM X "list.clear" Ci:=by
 intro pins s σ H x vs v us Q I rx rv h
 obtain⟨l,xs,rfl,rfl,hH,q⟩:=h
 cases rx
 have hus:=rv.zero
 subst hus
 obtain⟨z,its,n,r,hl,e⟩:=I.rz hH
 refine d8 F.slot_list_clear ⟨_,e,rfl⟩ F.entry_list_clear (F.args_list_clear_1 _) (AutoSeq1.list_clear_list_0 l its.toArray n (by rw[aG];omega)) ⟨e,?_⟩
 exact⟨.non,_,I.zE (its':=[]) (ys:=[]) hH e rfl .nil (aM _),rfl,q⟩
def Ge:R2:=λx y H Q=>∃ l b xs zs,x = .ref l/\y = .ref b/\H l=some (.lst xs)/\H b=some (.lst zs)/\xs.length+zs.length<=sizeLine/\∀ p,H p=none->Q (.ref p) (upd H p (.lst (xs++zs)))
theorem kz:OpR X (binaryOp .Add) Ge:=by
 intro pins s σ H x y v u Q I rx ry h
 obtain⟨l,b,xs,zs,rfl,rfl,hH,hB,hz,q⟩:=h
 cases rx
 cases ry
 obtain⟨z,its,n,r,hl,e⟩:=I.rz hH
 obtain⟨z2,v7,n2,r2,hl2,e2⟩:=I.rz hB
 refine PySem.P.add_list e e2 ?_ (by rw[aG,aG];omega)
 have ea:its.toArray++v7.toArray=(its++v7).toArray:=by simp
 rw[ea]
 exact⟨.ref _,_,I.Es (t':=s.toks) (r.append r2) (by rw[ah];omega),rfl,q _ I.fresh⟩
end
section
variable {prog:Program}{w:World}{A:Around}{E:Value->Shared->Prop}{s:Shared}
end
section
variable {X:Cx}
end
end L2
namespace Att
open PySem PySem.W PySem.Calls PyProof.Rows
theorem pG {P:Params}{h:Heap} :∀ (ns:List Int) (vs:List Value),WellAll P h vs (ns.map WData.int)->IntsAre vs ns:=by
 intro ns
 induction ns with
 |nil=>
  intro vs w
  rw[List.map_nil]at w
  cases w
  exact .nil
 |cons n ns ih=>
  intro vs w
  rw[aS]at w
  cases w with
  |cons a b=>
   cases a
   exact .cons _ _ (ih _ b)
theorem xN {l:OpenLaw}{n:Nat}(hn:l.most=some n){P:Params}{h:Heap}{args:List WData}{vals:List Value}
  (yl:l.row.toRowW.claim.pre args=true) (hwl:WellAll P h vals args):
  ∃ a vs ns,vals = [Value.ref a]/\args = [WData.list (ns.map WData.int)]/\h.get? a=some {cls:=.type "list",data:=.seq vs.toArray} /\IntsAre vs ns/\ns.length<=n:=by
 have hsh:WShape.hasAll [] args [.list .int]=true:=(pre_splitW yl).1
 have hc:l.pre.holds [] {args:=args} = true:=(pre_splitW yl).2
 obtain⟨d,r,rfl,h1,h2⟩:=hasAllW_cons hsh
 obtain rfl:=hasAllW_nil h2
 obtain⟨xs,rfl,h3⟩:=hasW_list h1
 obtain⟨ns,rfl⟩:=items_int h3
 have hlen:ns.length<=n:=by
  unfold OpenLaw.pre at hc
  have h4:(WTm.not (.lt (.lit (.int (n:Int))) (.len (.arg 0)))).holds [] {args:=[.list (ns.map .int)]} = true:=by
   have h4:=(holds_andW hc).1
   rw[hn]at h4
   exact h4
  have h5:=condW_of h4 (w_not (w_lt w_lit (w_len_list (w_arg rfl))))
  rw[aa]at h5
  refine Nat.le_of_not_lt λq=>?_
  have q':(n:Int)<((ns.length:Nat):Int):=by omega
  first
   |(rw[bC q']at h5;exact absurd h5 (by decide))
   |(simp at h5;omega)
 cases hwl with
 |cons w1 w2=>
  cases w2
  cases w1 with
  |list ho ID=>exact⟨_,_,ns,rfl,rfl,ho,pG ns _ ID,hlen⟩
theorem xW (l:OpenLaw)(args:List WData):l.row.toRowW.claim.post args (.bool true) args=true:=
 postW_of (r:=l.row.toRowW) (X:=(true==true))
  (show WShape.has [] (.bool true) .bool=true by first |rfl |decide |simp[WShape.has,WShape.arms,WShape.armsAll])
  (show(WTm.eq .res (.lit (.bool true))).value [] {args:=args,res:=some (.bool true),after:=args} = some (.bool (true==true)) from w_eq_bool (w_res rfl) w_lit) rfl
theorem vC {l:OpenLaw}{n:Nat}{q:Program}{loose:List Str}{XP:(Str->Option Value)->Heap->Prop}{YP:World->Heap->Prop}{d:DefRec}
  (hn:l.most=some n) (hdf:d.params.defaults = [])
  (call:∀ (w:World) (s₀ s₁:Shared) (mg mb:Str->Option Value) (fa:Addr) (o:Obj) (pm cd doc:Value) (a:Addr) (vs:List Value) (ns:List Int),
   Ground q loose [] XP w s₀ mg mb s₁.heap->YP w s₁.heap->
   s₁.heap.get? fa=some o->o.data = .func (docDef d.name d.params d.body d.scope pm cd doc)->s₁.heap.CodeRec cd d.name->mg d.name=some (.ref fa)->
   s₁.heap.get? a=some {cls:=.type "list",data:=.seq vs.toArray} ->IntsAre vs ns->ns.length<=n->s₁.gens = #[]->
   codeAny (model l.prog w) callerA (.call (.ref fa) ⟨[.ref a],[]⟩) (λr s'=>r = .ok (.ret (.bool true))/\OldK s₁.heap s'.heap/\s'.os=s₁.os/\AllBare s'.gens) s₁):
  WalkO q loose XP YP l.row.toRowW d [] (λf vs=>PySem.call f vs):=by
 intro w s₀ s₁ mg mb G Y fa o pm cd doc dV kV ho hd hcd hD hmg hg args vals as yl Ks hrd hwl hlo
 obtain rfl:dV = .none:=Dflts.none hD hdf
 obtain rfl:kV = .none:=Dflts.noKw hD
 obtain⟨a,vs,ns,rfl,rfl,C9,hints,hlen⟩:=xN hn yl hwl
 refine enter_call (codeAny_mono (call w s₀ s₁ mg mb fa o pm cd doc a vs ns G Y ho (fd_plain hd) hcd hmg C9 hints hlen hg) λr s' hq=>?_)
 obtain⟨rfl,h2,h3,h4⟩:=hq
 exact⟨.inl ⟨.bool true,.bool true,[],rfl,λ_=>rfl,.bool true,xW l _,λ_=>⟨List.Pairwise.nil,λ_ hm=>(nomatch hm)⟩⟩,h2,h3,h4⟩
section
variable {prog:Program}{w:World}{A:Around}{E:Value->Shared->Prop}{s:Shared}{K:Frag}
end
end Att
namespace L2
open PySem PySem.Spec PyProof.Rows
theorem oG:∀ {vs:List Value}{ns:List Int},IntsAre vs ns->Vals (ns.map V.int) vs
 |_,_,.nil=>.nil
 |_,_,.cons n t h=>.cons ⟨t,rfl⟩ (oG h)
def Dy (H:Hp):Prop:=∀ b,H b=none\/∃ o xs,H b=some (.frz o (.lst xs))
theorem zG {P:Program}{w:World}{K:PySem.W.Frag}{mg mb:Str->Option Value}{CX:CXT}{k:Nat}{fa a:Addr}{fd:FuncData}{x:Str}{sp:Sp}{s₁:Shared}{vs:List Value}{ns:List Int}
  (KX:K.In s₁.heap) (hns:s₁.heap.Ns mainGlobals mg) (hb:s₁.heap.Ns builtinsNs mb) (hbb:∀ x:Str,x≠ "__name__" ->mb x=bootBuiltins x) (Iw:s₁.heap.NoLimit) (hg:s₁.gens = #[])
  (ha:s₁.heap.get? a=some {cls:=.type "list",data:=.seq vs.toArray}) (hi:IntsAre vs ns) (hl:ns.length<=sizeLine) (hr:kS k callerA)
  (F:∀ base:Heap,K.In base->base.Ns mainGlobals mg->fG P w K mg base CX k fa fd [x] sp) (ET:∀ (s:Shared) (u:Value),BindsTo s fd ⟨[u],[]⟩ [(x,u)])
  (hsp:∀ H:Hp,Dy H->SqL K H a (ns.map V.int)->sp [.ref a] H (λv _=>v = .bl true) λ_ _ _=>False)
  (hCX:∀ H e s',CX [] H s₁ (λ_ _ _=>False) e s'->False):
  codeAny (model P w) callerA (.call (.ref fa) ⟨[.ref a],[]⟩) (λr s'=>r = .ok (.ret (.bool true))/\OldK s₁.heap s'.heap/\s'.os=s₁.os/\AllBare s'.gens) s₁:=by
 have rv:=oG hi
 have HE:=hi.length
 have core:∀ H:Hp,Dy H->SqL K H a (ns.map V.int)->HOk P w H s₁.heap->(∀ b,H b≠none->b=a)->(H a≠none->K.lookup a=none)->
   codeAny (model P w) callerA (.call (.ref fa) ⟨[.ref a],[]⟩) (λr s'=>r = .ok (.ret (.bool true))/\OldK s₁.heap s'.heap/\s'.os=s₁.os/\AllBare s'.gens) s₁:=by
  intro H hO hS hok hA hK
  have xr:∀ {b:Addr}{o:Obj},s₁.heap.get? b=some o->H b=none->(tT s₁.heap H).get? b=some o:=λe n=>zR e n
  have noA:∀ {b:Addr}{o:Obj}{es:Array DictEntry}{ep:Nat},s₁.heap.get? b=some o->o.data = .dict es ep->H b=none:=λ{b o es ep} e d=>by
   cases q:H b with
   |none=>rfl
   |some u=>
    have e':b=a:=hA b (by rw[q];simp)
    subst e'
    rw[ha]at e;cases e
    have d':Data.seq vs.toArray _=Data.dict es ep:=d
    cases d'
  have nsK:∀ {b:Addr}{m:Str->Option Value},s₁.heap.Ns b m->(tT s₁.heap H).Ns b m:=λ{b m} ⟨o,es,ep,e,d,r⟩=>⟨o,es,ep,xr e (noA e d),d,r⟩
  have hKb:K.In (tT s₁.heap H):=λb o e=>xr (KX b o e) (by
   cases q:H b with
   |none=>rfl
   |some u=>
    have e':b=a:=hA b (by rw[q];simp)
    subst e'
    rw[hK (by rw[q];simp)]at e;cases e)
  have hM:Mod K mg (tT s₁.heap H):=⟨hKb,nsK hns,⟨mb,nsK hb,hbb⟩,let ⟨mc,h1,h2⟩:=Iw;⟨mc,nsK h1,h2⟩⟩
  have e0:Bx P w K mg (tT s₁.heap H) callerA [] s₁ H:=⟨rfl,hM,λb o e=>AX e,Nat.le_of_eq (ym _ _),trivial,λb hb=>absurd (show b∈([]:List Addr) from hb) (by simp),hok,.of_eq hg⟩
  refine codeAny_mono ((F _ hKb (nsK hns)).run callerA [] s₁ H ⟨[.ref a],[]⟩ [.ref a] [.ref a] _ _ hr e0 (ET s₁ (.ref a)) (.cons rfl .nil) (hsp H hO hS)) λr s' h=>?_
  cases r with
  |error e=>exact(hCX H e s' h).elim
  |ok fl=>
   cases fl with
   |next=>exact False.elim h
   |brk=>exact False.elim h
   |cont=>exact False.elim h
   |ret u=>
    obtain⟨v,H',os,bare,un,Im,r',q⟩:=h
    have q':v = .bl true:=q
    subst q'
    obtain rfl:u=Value.bool true:=r'
    refine⟨rfl,OldK.of_keep λb o e=>?_,os,bare⟩
    cases q:H b with
    |none=>exact un.keep b o e q (by intro z;exact absurd (show b∈([]:List Addr) from z) (by simp)) (by simp)
    |some u=>
     rcases hO b with z |⟨ob,xs,z⟩
     ·rw[q]at z;cases z
     ·have z2:=un.l0 b ob _ z
      obtain⟨e1,_⟩:=hok b _ z
      obtain⟨e2,_⟩:=Im b _ z2
      rw[e]at e1;cases e1
      exact e2
 cases hk:K.lookup a with
 |some o=>
  have e:=KX a o hk
  rw[ha]at e
  cases e
  refine core (λ_=>none) (λ_=>.inl rfl) (.inr ⟨_,vs.toArray,_,hk,rfl,rfl,rfl,by rw[aG,HE];exact hl,by simpa using rv⟩) (λb u z=>by have z':(none:Option HO)=some u:=z;cases z') (λb z=>absurd rfl z) λz=>absurd rfl z
 |none=>
  refine core (λb=>if b=a then some (.frz {cls:=.type "list",data:=.seq vs.toArray} (.lst (ns.map V.int)))else none) (λb=>?_) (.inl (.inr ⟨{cls:=.type "list",data:=.seq vs.toArray},aH rfl⟩)) (λb u z=>?_) (λb z=>?_) λ_=>hk
  ·by_cases hb:b=a
   ·exact .inr ⟨_,_,aH hb⟩
   ·exact .inl (ax hb)
  ·by_cases hb:b=a
   ·have z':=(aH hb).symm.trans z
    cases z'
    subst hb
    exact⟨ha,by rw[aa];exact hl,vs,_,rv,ha⟩
   ·have z':=(ax hb).symm.trans z
    cases z'
  ·by_cases hb:b=a
   ·exact hb
   ·exact absurd (ax hb) z
abbrev KOf {K:PySem.W.Frag}{h:Heap}(_:K.In h):PySem.W.Frag:=K
theorem Aw {l:PySem.W.OpenLaw}{n k:Nat}{q:Program}{loose:List Str}{XP:(Str->Option Value)->Heap->Prop}{YP:World->Heap->Prop}{d:DefRec}{K:Params->PySem.W.Frag}{CX:World->CXT}{sp:World->Sp}{x:Str}
  (hn:l.most=some n) (hn2:n<=sizeLine) (hdf:d.params.defaults = []) (hr:kS k callerA)
  (hY:∀ (w:World) (h:Heap),YP w h->(K w.params).In h)
  (F:∀ (w:World) (mg:Str->Option Value) (fa:Addr) (h:Heap),(K w.params).In h->h.Ns mainGlobals mg->mg d.name=some (.ref fa)->
   ∃ fd:FuncData,(∀ (s:Shared) (u:Value),BindsTo s fd ⟨[u],[]⟩ [(x,u)])/\
    ∀ base:Heap,(K w.params).In base->base.Ns mainGlobals mg->fG l.prog w (K w.params) mg base (CX w) k fa fd [x] (sp w))
  (hsp:∀ (w:World) (H:Hp) (a:Addr) (ns:List Int),ns.length<=n->Dy H->SqL (K w.params) H a (ns.map V.int)->sp w [.ref a] H (λv _=>v = .bl true) λ_ _ _=>False)
  (hCX:∀ (w:World) (H:Hp) (s:Shared) (e:Value) (s':Shared),CX w [] H s (λ_ _ _=>False) e s'->False):
  PySem.W.WalkO q loose XP YP l.row.toRowW d [] (λf vs=>PySem.call f vs):=by
 refine Att.vC hn hdf λw s₀ s₁ mg mb fa o pm cd doc a vs ns G Y ho hd hcd hmg C9 hints hlen hg=>?_
 have KX:=hY w _ Y
 obtain⟨fd,hb,hF⟩:=F w mg fa _ KX G.T.g hmg
 exact zG KX G.T.g G.T.b G.T.builtins G.T.nolimit hg C9 hints (bF hlen hn2) hr hF hb (λH hO hS=>hsp w H a ns hlen hO hS) λH e s'=>hCX w H s₁ e s'
def kn (s:Stmt):Arguments:=match s with
 |.FunctionDef _ a _ _ _ _ _ _ _ _=>a
 |_=>{posonlyargs:=[],args:=[],vararg:=none,kwonlyargs:=[],kw_defaults:=[],kwarg:=none,defaults:=[]}
def jy (s:Stmt):List Stmt:=match s with
 |.FunctionDef _ _ b _ _ _ _ _ _ _=>b
 |_=>[]
def fi (s:Stmt):Scope:=match s with
 |.FunctionDef _ _ _ _ _ _ sc _ _ _=>sc
 |_=>{kind:=.function,names:=[],isGenerator:=false,isCoroutine:=false}
abbrev CX0:CXT:=λ_ _ _ _ _ _=>False
abbrev E0:XK:=λ_ _ _=>False
theorem fK {X:Cx} :Passes CX0 X E0:=λ_ _ _ _ _ _ _ h=>h.elim
structure Fun (K:PySem.W.Frag)(x qual:Str)(st:Stmt)(f:Addr)(fd:FuncData):Prop where
 ex:∃ (oc:Value) (od:Option Addr) (kV doc pm:Value) (an:Option Addr) (cdv ct:Value) (osl:Array (Option Value)),
  fd=PySem.W.fnOf x qual (kn st) (jy st) (fi st) .none kV doc pm an cdv ct/\K.lookup f=some ⟨oc,od,.func fd,osl⟩/\PySem.W.codeIn K cdv qual=true
 kp:PySem.W.keepIn K (.ref f)=true
section
variable {P:Program}{w:World}{K:PySem.W.Frag}{mg:Str->Option Value}{base:Heap}
theorem Fun.ok {x qual:Str}{st:Stmt}{f:Addr}{fd:FuncData}{N ps:List Str}{k:Nat}{sp:Sp}(F:Fun K x qual st f fd)(S:fM N ps (fi st))(len:∀ vs H Q E,sp vs H Q E->vs.length=ps.length)
  (u0:∀ (cdv:Value) (A:Around) (outer:List Env) (s:Shared) (H:Hp) (vs:List V) (Q:VK) (E:XK),kS k (A.deeper (envOfC qual (fi st) s.heap.objs.size f cdv))->sp vs H Q E->
   ∃ t,PSs (t6 CX0 P w K mg base N qual (fi st) f cdv A outer s H E).nox (jy st) t/\t {nx:=λ_ H'=>Q .non H',rt:=Q} (start N vs) H):fG P w K mg base CX0 (k+1) f fd ps sp:=by
 obtain⟨oc,od,kV,doc,pm,an,cdv,ct,osl,rfl,lk,hcd⟩:=F.ex
 refine BJ lk hcd S len λA outer s H vs Q E hr hsp=>?_
 obtain⟨t,h,q⟩:=u0 cdv A outer s H vs Q E hr hsp
 exact⟨t,h.nox,q⟩
theorem Fun.binds {x qual:Str}{st:Stmt}{f:Addr}{fd:FuncData}{ps:List Str}(F:Fun K x qual st f fd)
  (h:∀ (kV doc pm:Value) (an:Option Addr) (cdv ct:Value) (us:List Value),us.length=ps.length->bindArgs (PySem.W.fnOf x qual (kn st) (jy st) (fi st) .none kV doc pm an cdv ct) ⟨us,[]⟩=pure (ps.zip us)):Binds K fd ps []:=by
 obtain⟨oc,od,kV,doc,pm,an,cdv,ct,osl,rfl,lk,hcd⟩:=F.ex
 exact .all (h kV doc pm an cdv ct)
theorem zX {x qual:Str}{st:Stmt}{f:Addr}{oc:Value}{od an:Option Addr}{osl:Array (Option Value)}{kV doc pm cdv ct:Value}(l:K.lookup f=some ⟨oc,od,.func (PySem.W.fnOf x qual (kn st) (jy st) (fi st) .none kV doc pm an cdv ct),osl⟩)
  (c:PySem.W.codeIn K cdv qual=true) (k:PySem.W.keepIn K (.ref f)=true):Fun K x qual st f (PySem.W.fnOf x qual (kn st) (jy st) (fi st) .none kV doc pm an cdv ct):=⟨⟨oc,od,kV,doc,pm,an,cdv,ct,osl,rfl,l,c⟩,k⟩
end
theorem nz {A:Around}{k:Nat}(hr:kS k A):A.units+1<cLine:=er (Nat.add_le_add_left (by decide:1<=64) _) hr.units
section
variable {X:Cx}
theorem pv (i:Nat){x:Str}{pos:Pos}(hN:X.N[i]? = some x:=by rfl)(hv:Vis X.env.scope x:=by first |exact Or.inl rfl |exact Or.inr (Or.inl rfl)|exact Or.inr (Or.inr rfl))(hd:(x==("__debug__" :Str))=false:=by decide)
  (hcd:(x==("__classdict__" :Str))=false:=by decide):PE X (.Name x pos) (DQ i):=Cp hN hv hd hcd
end
theorem oQ {A B:Prop}(h:B):if false=true then A else B:=by
 rw[ax aW]
 exact h
theorem A2 {A B:Prop}(h:A):if true=true then A else B:=by
 rw[aH rfl]
 exact h
theorem iE {c A B:Prop} [Decidable c] (h1:c->A)(h2:¬c->B):if c then A else B:=by
 by_cases h:c
 ·rw[aH h]
  exact h1 h
 ·rw[ax h]
  exact h2 h
def fg (H H':Hp):Prop:=∀ b o,H b=some o->H' b=some o
theorem fg.refl (H:Hp):fg H H:=λ_ _ h=>h
theorem fg.trans {H H1 H2:Hp}(a:fg H H1)(b:fg H1 H2):fg H H2:=λc o h=>b c o (a c o h)
theorem fg.free {H H':Hp}(e:fg H H'){l:Addr}(h:H' l=Option.none):H l=Option.none:=by
 cases q:H l with
 |none=>rfl
 |some o=>
  rw[e l o q]at h
  cases h
theorem fg.seq {K:PySem.W.Frag}{H H':Hp}{a:Addr}{xs:List V}(e:fg H H')(h:SqL K H a xs):SqL K H' a xs:=by
 rcases h with(h |⟨o,h⟩)|h
 ·exact .inl (.inl (e _ _ h))
 ·exact .inl (.inr ⟨o,e _ _ h⟩)
 ·exact .inr h
section
variable {κ:Type} [DecidableEq κ]
def i8 (kvs:List (κ×V))(k:κ):Option V:=(kvs.find? λkv=>decide (kv.1=k)).map (·.2)
def putK (kvs:List (κ×V))(k:κ)(v:V):List (κ×V):=
 if(kvs.any λkv=>decide (kv.1=k))=true then kvs.map (λkv=>if kv.1=k then(kv.1,v)else kv)else kvs ++ [(k,v)]
theorem pX {p:κ×V}{r:List (κ×V)}{k:κ}(e:p.1=k):i8 (p::r) k=some p.2:=by simp[i8,df,e]
theorem pY {p:κ×V}{r:List (κ×V)}{k:κ}(e:¬p.1=k):i8 (p::r) k=i8 r k:=by simp[i8,df,e]
theorem nR (k:κ):∀ kvs:List (κ×V),(kvs.any λkv=>decide (kv.1=k))=(i8 kvs k).isSome
 |[]=>rfl
 |p::r=>by
  rw[List.any_cons]
  by_cases e:p.1=k
  ·simp only[pX e,bC e,Bool.true_or,Option.isSome_some]
  ·rw[pY e,bo e,Bool.false_or];exact nR k r
theorem lW (kvs:List (κ×V))(k:κ)(v:V):(putK kvs k v).length<=kvs.length+1:=by
 unfold putK
 split
 ·rw[aa];omega
 ·rw[ah,aX,List.length_nil];omega
theorem qj {kvs:List (κ×V)}{k:κ}(v:V)(h:i8 kvs k=none):putK kvs k v=kvs ++ [(k,v)]:=by
 unfold putK
 rw[nR,h]
 exact ax (by decide)
theorem ra.oR {o:Option V}{u:Option Value}(r:ra o u):o.isSome=u.isSome:=by
 cases o with
 |none=>cases u with
  |none=>rfl
  |some _=>exact(show False from r).elim
 |some _=>cases u with
  |none=>exact(show False from r).elim
  |some _=>rfl
theorem KV.val {kvs:List (κ×V)}{vs:List (κ×Value)}(r:KV kvs vs)(k:κ):ra (i8 kvs k) (valueAt vs k):=by
 unfold KV at r
 induction r with
 |nil=>exact True.intro
 |@cons p q ps qs h t ih=>
  obtain⟨h1,h2⟩:=h
  by_cases e:p.1=k
  ·have e':q.1=k:=h1.symm.trans e
   have b:valueAt (q::qs) k=some q.2:=by simp[valueAt,df,e']
   rw[pX e,b];exact h2
  ·have e':¬q.1=k:=λz=>e (h1.trans z)
   have b:valueAt (q::qs) k=valueAt qs k:=by simp[valueAt,df,e']
   rw[pY e,b];exact ih
theorem KV.any {kvs:List (κ×V)}{vs:List (κ×Value)}(r:KV kvs vs)(k:κ):(kvs.any λkv=>decide (kv.1=k))=vs.any λkv=>decide (kv.1=k):=by
 unfold KV at r
 induction r with
 |nil=>rfl
 |cons h t ih=>rw[List.any_cons,List.any_cons,ih,h.1]
theorem KV.Cf {kvs:List (κ×V)}{vs:List (κ×Value)}(r:KV kvs vs)(k:κ){y:V}{u:Value}(ry:RelV y u):
  KV (kvs.map λkv=>if kv.1=k then(kv.1,y)else kv) (vs.map λkv=>if kv.1=k then(kv.1,u)else kv):=by
 unfold KV at r ⊢
 induction r with
 |nil=>exact .nil
 |@cons p q ps qs h t ih=>
  rw[aS,aS]
  refine .cons ?_ ih
  obtain⟨h1,h2⟩:=h
  by_cases e:p.1=k
  ·rw[aH e,aH (h1.symm.trans e)];exact⟨h1,ry⟩
  ·rw[ax e,ax (λz=>e (h1.trans z))];exact⟨h1,h2⟩
theorem KV.put {kvs:List (κ×V)}{vs:List (κ×Value)}(r:KV kvs vs)(k:κ){y:V}{u:Value}(ry:RelV y u):KV (putK kvs k y) (stored vs k u):=by
 unfold putK stored
 rw[r.any k]
 by_cases e:(vs.any λkv=>decide (kv.1=k))=true
 ·rw[aH e,aH e];exact r.Cf k ry
 ·rw[ax e,ax e];exact Paired.snoc r ⟨rfl,ry⟩
theorem KV.length {kvs:List (κ×V)}{vs:List (κ×Value)}(r:KV kvs vs):kvs.length=vs.length:=ei r
end
theorem xi {P:Program}{w:World}{k:Key}{u:Value}(r:RelV (kV k) u):(g9 P w).is k u=true:=by
 cases k with
 |inl i=>obtain⟨t,e⟩:=(show ∃ t,u=Value.int i t from r);subst e;exact uU P w i t
 |inr x=>obtain⟨t,e⟩:=(show ∃ t,u=Value.str x t from r);subst e;exact uT P w x t
theorem si {P:Program}{w:World} :∀ {ks:List Key}{us:List Value},Vals (ks.map kV) us->ItemsAre (g9 P w) ks us
 |[],_,r=>by rw[List.map_nil]at r;cases r;exact .nil
 |k::ks,_,r=>by
  rw[aS]at r
  cases r with
  |cons h t=>exact .cons (xi h) (si t)
abbrev KT (H:Hp):List (List Key×V)->List (List Key×Addr×Value)->Prop:=Paired λp q=>p.1=q.1/\H q.2.1=some (.tup (p.1.map kV))/\RelV p.2 q.2.2
theorem KT.val {H:Hp}{kvs:List (List Key×V)}{xs:List (List Key×Addr×Value)}(r:KT H kvs xs)(k:List Key):ra (i8 kvs k) ((atKey xs k).map (·.2)):=by
 induction r with
 |nil=>exact True.intro
 |@cons p q ps qs h t ih=>
  obtain⟨h1,_,h2⟩:=h
  by_cases e:p.1=k
  ·have e':q.1=k:=h1.symm.trans e
   have b:atKey (q::qs) k=some q.2:=by simp[atKey,df,e']
   rw[pX e,b];exact h2
  ·have e':¬q.1=k:=λz=>e (h1.trans z)
   have b:atKey (q::qs) k=atKey qs k:=by simp[atKey,df,e']
   rw[pY e,b];exact ih
theorem KT.Cf {H:Hp}{kvs:List (List Key×V)}{xs:List (List Key×Addr×Value)}(r:KT H kvs xs)(k:List Key){y:V}{u:Value}(ry:RelV y u):
  KT H (kvs.map λkv=>if kv.1=k then(kv.1,y)else kv) (xs.map (putAt k u)):=by
 induction r with
 |nil=>exact .nil
 |@cons p q ps qs h t ih=>
  rw[aS,aS]
  refine .cons ?_ ih
  obtain⟨h1,h2,h3⟩:=h
  unfold putAt
  by_cases e:p.1=k
  ·rw[aH e,aH (h1.symm.trans e)];exact⟨h1,h2,ry⟩
  ·rw[ax e,ax (λz=>e (h1.trans z))];exact⟨h1,h2,h3⟩
theorem KT.put {H:Hp}{kvs:List (List Key×V)}{xs:List (List Key×Addr×Value)}(r:KT H kvs xs)(k:List Key){b:Addr}{y:V}{u:Value}(hb:H b=some (.tup (k.map kV)))(ry:RelV y u):
  KT H (putK kvs k y) (storedH xs k b u):=by
 have e:(kvs.any λkv=>decide (kv.1=k))=(atKey xs k).isSome:=by
  rw[nR,(r.val k).oR,Option.isSome_map]
 unfold putK storedH
 rw[e]
 by_cases q:(atKey xs k).isSome=true
 ·rw[aH q,aH q];exact r.Cf k ry
 ·rw[ax q,ax q];exact Paired.snoc r ⟨rfl,hb,ry⟩
theorem KT.keeps {H H':Hp}{kvs:List (List Key×V)}{xs:List (List Key×Addr×Value)}(r:KT H kvs xs)(ht:∀ b ys,H b=some (.tup ys)->H' b=some (.tup ys)):KT H' kvs xs:=
 Paired.CF r λ_ _ z=>⟨z.1,ht _ _ z.2.1,z.2.2⟩
section
variable {P:Program}{w:World}{H:Hp}{h:Heap}{a:Addr}
theorem BB {u:HO}(ok:HOk P w H h)(e:Rd H a u):gO P w H h a u:=e.ok ok
theorem xp {kvs:List (Key×V)}(ok:HOk P w H h)(e:Rd H a (.dK kvs)):kvs.length<=sizeLine/\(a==sysModules)=false/\∃ vs,KV kvs vs/\h.DictOf (g9 P w) a vs:=
 show gO P w H h a (.dK kvs) from BB ok e
theorem E7 {kvs:List (Key×V)}(ok:HOk P w H h)(e:H a=some (.dK kvs)):kvs.length<=sizeLine/\(a==sysModules)=false/\∃ vs,KV kvs vs/\h.DictOf (g9 P w) a vs:=xp ok (.inl e)
theorem qJ {ks:List Key}(ok:HOk P w H h)(e:H a=some (.tup (ks.map kV))):(tupleKind (g9 P w)).is h ks a:=by
 obtain⟨_,its,r,o,h1,h2,n,h3⟩:=(show gO P w H h a (.tup (ks.map kV)) from ok a _ e)
 exact⟨o,its.toArray,n,h1,h2,h3,by simpa using si r⟩
theorem xo {kvs:List (List Key×V)}(ok:HOk P w H h)(e:Rd H a (.dT kvs)):kvs.length<=sizeLine/\(a==sysModules)=false/\
  ∃ xs,KT H kvs xs/\h.DictOfH (tupleKind (g9 P w)) a xs:=by
 obtain⟨z,y,xs,r,o,es,ep,h1,h2,h3,h4,h5⟩:=(show gO P w H h a (.dT kvs) from BB ok e)
 refine⟨z,y,xs,r,o,es,ep,h1,h2,h3,h4,λx hx=>?_,h5⟩
 have all:∀ {l:List (List Key×V)}{m:List (List Key×Addr×Value)},KT H l m->∀ x∈m,(tupleKind (g9 P w)).is h x.1 x.2.1:=by
  intro l m q
  induction q with
  |nil=>intro x hx;exact nomatch hx
  |@cons p q ps qs hq t ih=>
   intro x hx
   rcases aO.mp hx with e |hx
   ·subst e
    exact qJ ok (by rw[<-hq.1];exact hq.2.1)
   ·exact ih x hx
 exact all r x hx
theorem BM {kvs:List (List Key×V)}(ok:HOk P w H h)(e:H a=some (.dT kvs)):kvs.length<=sizeLine/\(a==sysModules)=false/\
  ∃ xs,KT H kvs xs/\h.DictOfH (tupleKind (g9 P w)) a xs:=xo ok (.inl e)
end
def pK (H:Hp)(a:Addr)(y:V)(r:Option V):Prop:=
 (∃ kvs k,Rd H a (.dK kvs)/\y=kV k/\r=i8 kvs k)\/∃ kvs k b,Rd H a (.dT kvs)/\y = .ref b/\H b=some (.tup (k.map kV))/\r=i8 kvs k
def wC (H:Hp)(a:Addr)(y v:V)(H':Hp):Prop:=
 (∃ kvs k,H a=some (.dK kvs)/\y=kV k/\kvs.length<sizeLine/\H'=upd H a (.dK (putK kvs k v)))\/
 ∃ kvs k b,H a=some (.dT kvs)/\y = .ref b/\H b=some (.tup (k.map kV))/\kvs.length<sizeLine/\H'=upd H a (.dT (putK kvs k v))
theorem pK.t {H:Hp}{a b:Addr}{kvs:List (List Key×V)}{k:List Key}(e:H a=some (.dT kvs))(eb:H b=some (.tup (k.map kV))):pK H a (.ref b) (i8 kvs k):=.inr ⟨kvs,k,b,.inl e,rfl,eb,rfl⟩
theorem wC.t {H:Hp}{a b:Addr}{kvs:List (List Key×V)}{k:List Key}{v:V}(e:H a=some (.dT kvs))(eb:H b=some (.tup (k.map kV)))(hl:kvs.length<sizeLine):
  wC H a (.ref b) v (upd H a (.dT (putK kvs k v))):=.inr ⟨kvs,k,b,e,rfl,eb,hl,rfl⟩
section
variable {X:Cx}{pins:List (Addr×Obj)}{σ:St}{H:Hp}{s:Shared}{a:Addr}{y v:V}{u r:Value}{o:Option V}{A:Around}{E:Value->Shared->Prop}
theorem Inv.big (I:Inv X pins σ H s):sysModules<s.heap.objs.size:=by
 have h:mainGlobals<s.heap.objs.size:=(I.mod.glob.keeps I.bk).lt
 exact Nat.lt_trans (by decide) h
theorem yt {Q:Value->Shared->Prop}(hu:A.units+1<cLine)(I:Inv X pins σ H s)(g:pK H a y (some v))(ry:RelV y u)(h:∀ w' s',Inv X pins σ H s'->RelV v w'->Q w' s'):
  wpAny (model X.prog X.w) A (getItem (.ref a) u) Q E s:=by
 rcases g with⟨kvs,k,e,ey,l⟩|⟨kvs,k,b,e,ey,eb,l⟩
 ·subst ey
  obtain⟨z,hd,vs,rel,dd⟩:=xp I.hok e
  obtain⟨w',hw,rw'⟩:=ra.some_of (v:=v) (o:=valueAt vs k) (by rw[l];exact rel.val k)
  exact wpAny_getItem_of (xi ry) dd.mapOf hw (h w' _ (I.tok _) rw')
 ·subst ey
  cases(show u=Value.ref b from ry)
  obtain⟨z,hd,xs,rel,dd⟩:=xo I.hok e
  obtain⟨w',hw,rw'⟩:=ra.some_of (v:=v) (o:=(atKey xs k).map (·.2)) (by rw[l];exact rel.val k)
  obtain⟨p,hp,hp2⟩:=Option.map_eq_some_iff.mp hw
  refine wpAny_getItem_heap (tupleKind_room_in1 hu) (qJ I.hok eb) dd hp ?_
  rw[hp2]
  exact h w' _ (I.tok _) rw'
theorem Bp {Q:Value->Shared->Prop}(hu:A.units+1<cLine)(I:Inv X pins σ H s)(g:pK H a y o)(ry:RelV y u)(h:∀ s',Inv X pins σ H s'->Q (.bool (!o.isSome)) s'):
  wpAny (model X.prog X.w) A (compareOp .NotIn u (.ref a)) Q E s:=by
 rcases g with⟨kvs,k,e,ey,l⟩|⟨kvs,k,b,e,ey,eb,l⟩
 ·subst ey
  obtain⟨z,hd,vs,rel,dd⟩:=xp I.hok e
  refine wpAny_notIn_of (xi ry) hd dd.mapOf ?_
  rw[<-(rel.val k).oR,<-l]
  exact h _ (I.tok _)
 ·subst ey
  cases(show u=Value.ref b from ry)
  obtain⟨z,hd,xs,rel,dd⟩:=xo I.hok e
  refine wpAny_notIn_heap (tupleKind_room_in1 hu) (qJ I.hok eb) hd dd ?_
  have q:=(rel.val k).oR
  rw[Option.isSome_map]at q
  rw[<-q,<-l]
  exact h _ (I.tok _)
theorem t5 {h':Heap}{t':Nat}{ob:HO}(I:Inv X pins σ H s)(mu:Mut (H a))(hs:Heap.SameBut a s.heap h')(he:∃ q,h'.get? a=some q)(new:gO X.prog X.w (upd H a ob) h' a ob):
  Inv X pins σ (upd H a ob) {s with heap:=h',toks:=t'} :=
 I.write (x:=a) (e:=a) mu (.inl rfl) (λb q hb z=>(hs.2 b hb).trans z) he new
theorem Dr {P:Program}{w:World}{H':Hp}{h':Heap}{kvs:List (Key×V)}{vs:List (Key×Value)}(z:kvs.length<=sizeLine)(hd:(a==sysModules)=false)(rel:KV kvs vs)(dd:h'.DictOf (g9 P w) a vs):
  gO P w H' h' a (.dK kvs):=⟨z,hd,vs,rel,dd⟩
theorem yr {H':Hp}{Q:Unit->Shared->Prop}(hu:A.units+1<cLine)(I:Inv X pins σ H s)(g:wC H a y v H')(ry:RelV y u)(rv:RelV v r)(h:∀ s',Inv X pins σ H' s'->Q () s'):
  wpAny (model X.prog X.w) A (setItem (.ref a) u r) Q E s:=by
 rcases g with⟨kvs,k,e,ey,l,eH⟩|⟨kvs,k,b,e,ey,eb,l,eH⟩
 ·subst ey eH
  obtain⟨z,hd,vs,rel,dd⟩:=E7 I.hok e
  have hz:vs.length<=sizeLine:=by rw[<-rel.length];exact z
  have hl:(putK kvs k v).length<=sizeLine:=by have:=lW kvs k v;omega
  refine wpAny_setItem_pairs (hsz:=hz) (xi ry) dd λh' dd' hs=>h _ ?_
  have he:∃ q,h'.get? a=some q:=let ⟨q,_,_,hq,_⟩:=dd';⟨q,hq⟩
  exact t5 I (by rw[e];exact True.intro) hs he (Dr hl hd (rel.put k rv) dd')
 ·subst ey eH
  cases(show u=Value.ref b from ry)
  obtain⟨z,hd,xs,rel,dd⟩:=BM I.hok e
  have hz:xs.length<=sizeLine:=by rw[<-ei rel];exact z
  have hl:(putK kvs k v).length<=sizeLine:=by have:=lW kvs k v;omega
  refine wpAny_setItem_heap (hsz:=hz) (tupleKind_room_in1 hu) (qJ I.hok eb) dd λh' dd' hs=>h _ ?_
  obtain⟨q,es,ep,hq,h2,h3,h4,_,h5⟩:=dd'
  refine t5 I (by rw[e];exact True.intro) hs ⟨q,hq⟩ ⟨hl,hd,_,(rel.put k eb rv).keeps λc ys ec=>?_,q,es,ep,hq,h2,h3,h4,h5⟩
  rw[fc (gL ec e (λz=>nomatch z))]
  exact ec
end
section
variable {X:Cx}{pins:List (Addr×Obj)}{σ:St}{H:Hp}{s:Shared}{a:Addr}{kvs:List (Key×V)}{k:Key}{u:Value}{A:Around}{E:Value->Shared->Prop}
end
def Fi (i:Expr):Prop:=∀ ov iv,subscripted i false ov iv=operate [ov,iv] (getItem ov iv)
theorem AD {prog:Program}{w:World}{A:Around}{E:Value->Shared->Prop}{s:Shared}{env:Env}{value slice:Expr}{pos:Pos}{T id:String}{Q:Value->Shared->Prop}
  (hl:typeLookup (.type T) "__getitem__" = pure (some (.builtin id))) (hs:Fi slice)
  (h:wpAny (model prog w) A (eval value env) (λo s₁=>wpAny (model prog w) A (eval slice env) (λi s₂=>s₂.TypeIs o T/\wpAny (model prog w) A (getItem o i) Q E s₂) E s₁) E s):
  wpAny (model prog w) A (eval (.Subscript value slice pos) env) Q E s:=by
 refine Subscript_ (bQ h (λo s₁ h₁=>bQ h₁ (λi s₂ h₂=>?_) λ_ _ x=>x) λ_ _ x=>x)
 obtain⟨hT,h₂⟩:=h₂
 unfold subscriptTail
 refine ak ?_
 rw[getitemInPython_of_ne hT.not_modules]
 refine ak (wpAny_specialOf hT hl ?_)
 have fin:wpAny (model prog w) A (subscripted slice false o i) (λr s₃=>wpAny (model prog w) A (letTemporaryGo value o r >>= λ_=>pure r) Q E s₃) E s₂:=by
  rw[hs o i]
  exact wpAny_operating (bQ h₂ (λr s₃ h₃=>ak (wpAny_letTemporaryGo (aD h₃))) λ_ _ x=>x)
 first
  |exact aD (ak fin)
  |exact ak (aD (ak fin))
  |exact ak fin
theorem vn {X:Cx}{pins:List (Addr×Obj)}{σ:St}{H:Hp}{s:Shared}{a:Addr}{y:V}{o:Option V}(I:Inv X pins σ H s)(g:pK H a y o):s.TypeIs (.ref a) "dict" :=by
 rcases g with⟨kvs,k,e,_,_⟩|⟨kvs,k,b,e,_,_,_⟩
 ·obtain⟨_,_,vs,_,dd⟩:=xp I.hok e
  exact dd.typeIs
 ·obtain⟨_,_,xs,_,dd⟩:=xo I.hok e
  exact dd.typeIs
def DY (td ty:TE):TE:=λσ H Q=>td σ H λx H1=>ty σ H1 λy H2=>∃ a v,x = .ref a/\pK H2 a y (some v)/\Q v H2
def AB (ty td:TE):TE:=λσ H Q=>ty σ H λy H1=>td σ H1 λx H2=>∃ a o,x = .ref a/\pK H2 a y o/\Q (.bl (!o.isSome)) H2
def D9 (td ty tv:TE):TS:=λD σ H=>tv σ H λv H1=>td σ H1 λx H2=>ty σ H2 λy H3=>∃ a H4,x = .ref a/\wC H3 a y v H4/\D.nx σ H4
section
variable {X:Cx}{o i e value:Expr}{pos pos' DM:Pos}{td ty tv:TE}
theorem wZ (hu:X.A.units+1<cLine)(ho:PE X o td)(hi:PE X i ty)(hs:Fi i):PE X (.Subscript o i pos) (DY td ty):=by
 intro pins s σ H Q I h
 refine AD PySem.F.slot_dict_getitem.lookup hs (thn (ho pins s σ H _ I h) λu s1 ⟨x,H1,I1,rx,q1⟩=>thn (hi pins s1 σ H1 _ I1 q1) λiv s2 ⟨y,H2,I2,ry,a,v,ex,g,q2⟩=>?_)
 subst ex
 obtain rfl:u=Value.ref a:=rx
 exact⟨vn I2 g,yt hu I2 g ry λw' s3 I3 rw'=>⟨v,H2,I3,rw',q2⟩⟩
theorem oN (hu:X.A.units+1<cLine)(hi:PE X i ty)(ho:PE X o td):PC X .NotIn i o (AB ty td):=by
 intro pins s σ H Q I h
 refine thn (hi pins s σ H _ I h) λiv s1 ⟨y,H1,I1,ry,q1⟩=>thn (ho pins s1 σ H1 _ I1 q1) λu s2 ⟨x,H2,I2,rx,a,ov,ex,g,q2⟩=>?_
 subst ex
 obtain rfl:u=Value.ref a:=rx
 exact Bp hu I2 g ry λs3 I3=>⟨.bl (!ov.isSome),H2,I3,rfl,q2⟩
theorem sZ (hu:X.A.units+1<cLine)(ho:PE X o td)(hi:PE X i ty)(hv:PE X value tv)(hs:swapsWith value (some (.Subscript o i pos')) pos.line X.env=pure false):
  PS X (.Assign [.Subscript o i pos'] value pos) (D9 td ty tv):=by
 intro pins s σ H D I h
 refine wpAny_Assign_Subscript (thn (hv pins s σ H _ I h) λr s1 ⟨v,H1,I1,rv,q1⟩=>thn (ho pins s1 σ H1 _ I1 q1) λu s2 ⟨x,H2,I2,rx,q2⟩=>thn (hi pins s2 σ H2 _ I2 q2) λiv s3 ⟨y,H3,I3,ry,a,H4,ex,g,q3⟩=>?_) hs
 subst ex
 obtain rfl:u=Value.ref a:=rx
 exact yr hu I3 g ry rv λs4 I4=>⟨σ,H4,I4,q3⟩
end
theorem vj {P:Program}{w:World}{H:Hp}(h:Heap)(hb:sysModules<h.objs.size):gO P w H (h.push {cls:=.type "dict",data:=.dict #[]}) h.objs.size (.dT []):=
 ⟨aM _,beq_eq_false_iff_ne.mpr (bZ (bw hb)),[],.nil,_,#[],0,aY _ rfl,⟨rfl,rfl,rfl⟩,rfl,rfl,List.nodup_nil⟩
def B4:TE:=λ_ H Q=>∀ p,H p=none->Q (.ref p) (upd H p (.dT []))
section
variable {X:Cx}{pos:Pos}
theorem y4:PE X (.Dict [] [] pos) B4:=λpins s σ H Q I h=>
 wpAny_Dict_empty ⟨.ref s.heap.objs.size,_,I.laid (a:=s.heap.objs.size) (o:=.dT []) (t':=s.toks) (λ_ _ q=>aJ _ q) (aq _) (vj s.heap I.big),rfl,h _ (I.hok.fresh (aq _))⟩
end
def vI:List (TE×TE)->St->Hp->(List (V×V)->Hp->Prop)->Prop
 |[],_,H,Q=>Q [] H
 |(tk,tv)::r,σ,H,Q=>tk σ H λx H1=>tv σ H1 λy H2=>vI r σ H2 λps H3=>Q ((x,y)::ps) H3
abbrev VV:List (V×V)->List (Value×Value)->Prop:=Paired λp q=>RelV p.1 q.1/\RelV p.2 q.2
def PPs (X:Cx)(pos:Pos)(keys:List (Option Expr))(values:List Expr)(trs:List (TE×TE)):Prop:=
 ∀ (pins:List (Addr×Obj)) (s:Shared) (σ:St) (H:Hp) (Q:List (V×V)->Hp->Prop),Inv X pins σ H s->vI trs σ H Q->
  wpAny (model X.prog X.w) X.A (evalPairs (pairTrees keys values X.env pos)) (λvs s'=>∃ ps H',Inv X pins σ H' s'/\VV ps vs/\Q ps H') X.xe s
theorem AO {X:Cx}{pos:Pos} :PPs X pos [] [] []:=λpins s σ H Q I h=>pairTrees_nil_walk ⟨[],H,I,.nil,h⟩
theorem yY {X:Cx}{pos:Pos}{k v:Expr}{ks:List (Option Expr)}{vs:List Expr}{tk tv:TE}{trs:List (TE×TE)}(hk:PE X k tk)(hv:PE X v tv)(hr:PPs X pos ks vs trs):
  PPs X pos (some k::ks) (v::vs) ((tk,tv)::trs):=λpins s σ H Q I h=>
 pairTrees_cons_walk (thn (hk pins s σ H _ I h) λu s1 ⟨x,H1,I1,rx,q1⟩=>thn (hv pins s1 σ H1 _ I1 q1) λw2 s2 ⟨y,H2,I2,ry,q2⟩=>
  thn (hr pins s2 σ H2 _ I2 q2) λws s3 ⟨ps,H3,I3,rel,q3⟩=>⟨(x,y)::ps,H3,I3,.cons ⟨rx,ry⟩ rel,q3⟩)
section
variable {X:Cx}{pins:List (Addr×Obj)}{σ:St}{H:Hp}{s:Shared}{a:Addr}{y d:V}{u r:Value}{o:Option V}{A:Around}{E:Value->Shared->Prop}
end
section
variable {X:Cx}{o e f:Expr}{apos lI:Pos}{td ty tx:TE}
end
section
variable {X:Cx}{pins:List (Addr×Obj)}{σ:St}{H:Hp}{s:Shared}{a:Addr}{kvs:List (Key×V)}{A:Around}{E:Value->Shared->Prop}
end
section
variable {X:Cx}{pins:List (Addr×Obj)}{σ:St}{H:Hp}{s:Shared}{a:Addr}{y:V}{u:Value}{A:Around}{E:Value->Shared->Prop}
end
end L2
namespace TL
open PySem
theorem qP {α β:Type}{f:α->β->Sem (ForInStep β)}(P:List α->β->Prop)
  (step:∀ x l c,P (x::l) c->∃ c',f x c=pure (.yield c')/\P l c'):∀ (l:List α) (c:β),P l c->∃ c',forIn l c f=pure c'/\P [] c'
 |[],c,h=>⟨c,rfl,h⟩
 |x::l,c,h=>by
  obtain⟨c1,e,h1⟩:=step x l c h
  obtain⟨c2,e2,h2⟩:=qP P step l c1 h1
  refine⟨c2,?_,h2⟩
  rw[List.forIn_cons,e,pure_bind]
  exact e2
theorem qS {scope:Scope}{env:Env}(h:∀ y∈scope.names,y.2 = .free->∃ c,env.cells.lookup y.1=some c):
  ∃ cl,closureFor scope env=pure cl/\(∀ x c,cl.lookup x=some c->env.cells.lookup x=some c)/\(∀ y∈scope.names,y.2 = .free->∃ c,cl.lookup y.1=some c):=by
 let P:List (Str×NameKind)->List (Str×Addr)->Prop:=λl c=>(∀ y∈l,y.2 = .free->∃ c,env.cells.lookup y.1=some c)/\(∀ x a,c.lookup x=some a->env.cells.lookup x=some a)/\
  (∀ y∈scope.names,y.2 = .free->y∈l\/∃ a,c.lookup y.1=some a)
 simp only[closureFor]
 obtain⟨cl,e,_,h2,h3⟩:=qP (f:=λ(x:Str×NameKind) (r:List (Str×Addr))=>if(x.2==NameKind.free)=true then cellOf env x.1 >>= λc=>pure (ForInStep.yield ((x.1,c)::r))else pure (ForInStep.yield r)) P (by
  rintro⟨n,k⟩ l c ⟨p1,p2,p3⟩
  by_cases hk:k = .free
  ·subst hk
   obtain⟨a,ha⟩:=p1 _ aC rfl
   refine⟨(n,a)::c,?_,λy hy=>p1 y (aE _ hy),λx b hb=>?_,λy hy hf=>?_⟩
   ·have ha':env.cells.lookup n=some a:=ha
    simp[cellOf,ha']
   ·rw[bJ]at hb
    by_cases hx:(x==n)=true
    ·rw[hx]at hb
     have e1:x=n:=by simpa using hx
     subst e1
     cases hb
     exact ha
    ·have hx':(x==n)=false:=by simpa using hx
     rw[hx']at hb
     exact p2 x b hb
   ·by_cases hx:(y.1==n)=true
    ·exact .inr ⟨a,by rw[bJ,hx]⟩
    ·have hx':(y.1==n)=false:=by simpa using hx
     rcases p3 y hy hf with q |⟨b,q⟩
     ·rcases aO.mp q with q |q
      ·exact absurd (by rw[q];simp) hx
      ·exact .inl q
     ·exact .inr ⟨b,by rw[bJ,hx'];exact q⟩
  ·refine⟨c,?_,λy hy=>p1 y (aE _ hy),p2,λy hy hf=>?_⟩
   ·have:(k==NameKind.free)=false:=by simpa using hk
    simp[this]
   ·rcases p3 y hy hf with q |q
    ·rcases aO.mp q with q |q
     ·subst q;exact absurd hf hk
     ·exact .inl q
    ·exact .inr q) scope.names [] ⟨h,λx a hx=>by simp at hx,λy hy _=>.inl hy⟩
 refine⟨cl,?_,h2,λy hy hf=>?_⟩
 ·refine Eq.trans ?_ (cH (λt:Sem (List (Str×Addr))=>t >>= λr=>pure r) e)
  rfl
 ·rcases h3 y hy hf with q |q
  ·cases q
  ·exact q
theorem jJ {env:Env} :∀ {names:List (Str×NameKind)}{x:Str},names.lookup x=some .free->
  (names.map λ(n,k)=>if(k==NameKind.free&&env.scope.kind == .function&&env.kindOf n==some .cell)then(n,NameKind.cell)else(n,k)).lookup x=some .cell\/
  (names.map λ(n,k)=>if(k==NameKind.free&&env.scope.kind == .function&&env.kindOf n==some .cell)then(n,NameKind.cell)else(n,k)).lookup x=some .free
 |[],_,h=>by simp at h
 |(n,k)::r,x,h=>by
  have ih:=@jJ env r x
  show List.lookup x ((if(k==NameKind.free&&env.scope.kind == .function&&env.kindOf n==some .cell)=true then(n,NameKind.cell)else(n,k))::_)=_\/List.lookup x ((if(k==NameKind.free&&env.scope.kind == .function&&env.kindOf n==some .cell)=true then(n,NameKind.cell)else(n,k))::_)=_
  cases hx:x==n with
  |true=>
   simp only[bJ,hx]at h
   cases h
   by_cases hc:(NameKind.free==NameKind.free&&env.scope.kind == .function&&env.kindOf n==some .cell)=true
   ·rw[aH hc];left;simp[bJ,hx]
   ·rw[ax hc];right;simp[bJ,hx]
  |false=>
   simp only[bJ,hx]at h
   by_cases hc:(k==NameKind.free&&env.scope.kind == .function&&env.kindOf n==some .cell)=true
   ·rw[aH hc];simp only[bJ,hx];exact ih h
   ·rw[ax hc];simp only[bJ,hx];exact ih h
theorem jC {env:Env} :∀ {names:List (Str×NameKind)}{x:Str},(∀ y∈names,y.2≠ .cell)->
  ((names.map λ(n,k)=>if(k==NameKind.free&&env.scope.kind == .function&&env.kindOf n==some .cell)then(n,NameKind.cell)else(n,k)).lookup x=some .cell\/
  (names.map λ(n,k)=>if(k==NameKind.free&&env.scope.kind == .function&&env.kindOf n==some .cell)then(n,NameKind.cell)else(n,k)).lookup x=some .free)->∃ y∈names,y.1=x/\y.2 = .free
 |[],_,_,h=>by simp at h
 |(n,k)::r,x,hn,h=>by
  have ih:=@jC env r x (λy hy=>hn y (aE _ hy))
  change List.lookup x ((if(k==NameKind.free&&env.scope.kind == .function&&env.kindOf n==some .cell)=true then(n,NameKind.cell)else(n,k))::_)=_\/List.lookup x ((if(k==NameKind.free&&env.scope.kind == .function&&env.kindOf n==some .cell)=true then(n,NameKind.cell)else(n,k))::_)=_ at h
  cases hx:x==n with
  |true=>
   have e:x=n:=by simpa using hx
   by_cases hc:(k==NameKind.free&&env.scope.kind == .function&&env.kindOf n==some .cell)=true
   ·have hk:k = .free:=by
     simp only[dN,beq_iff_eq]at hc
     exact hc.1.1
    exact⟨(n,k),aC,e.symm,hk⟩
   ·rw[ax hc]at h
    simp only[bJ,hx]at h
    rcases h with h |h
    ·exact absurd (aZ h) (hn (n,k) aC)
    ·exact⟨(n,k),aC,e.symm,aZ h⟩
  |false=>
   have h':(r.map λ(n,k)=>if(k==NameKind.free&&env.scope.kind == .function&&env.kindOf n==some .cell)then(n,NameKind.cell)else(n,k)).lookup x=some .cell\/
     (r.map λ(n,k)=>if(k==NameKind.free&&env.scope.kind == .function&&env.kindOf n==some .cell)then(n,NameKind.cell)else(n,k)).lookup x=some .free:=by
    by_cases hc:(k==NameKind.free&&env.scope.kind == .function&&env.kindOf n==some .cell)=true
    ·rw[aH hc]at h;simpa only[bJ,hx]using h
    ·rw[ax hc]at h;simpa only[bJ,hx]using h
   obtain⟨y,hy,e⟩:=ih h'
   exact⟨y,aE _ hy,e⟩
section
variable {prog:Program}{w:World}{A:Around}{R:Result->Shared->Prop}{s:Shared}
abbrev wG (ifs:List Expr)(env:Env):Sem Bool:=forIn ifs true λc r=>if r=true then do let ok <-isTrue c env (eval c env);pure (ForInStep.yield ok)else pure (ForInStep.yield r)
theorem vz {elt target iter:Expr}{ifs:List Expr}{scope:Scope}{pos:Pos}{it acc:Value}{env:Env}(I:Nat->Shared->Prop)
  (turn:∀ n s,I n s->wpAny (model prog w) A (pyNext it) (λr s₁=>match r with
   |none=>R (.ok .next) s₁
   |some v=>wpAny (model prog w) A (letOwnedTupleGo target it v) (λ_ s₀=>wpAny (model prog w) A (assign target env v) (λ_ s₂=>
     wpAny (model prog w) A (wG ifs env) (λok s₃=>
      if ok=true then wpAny (model prog w) A (eval elt env) (λx s₄=>
       wpAny (model prog w) A (call (.builtin "list.append") [acc,x]) (λ_ s₅=>∃ m,m<n/\I m s₅) (λ_ _=>False) s₄) (λ_ _=>False) s₃
      else ∃ m,m<n/\I m s₃) (λ_ _=>False) s₂) (λ_ _=>False) s₀) (λ_ _=>False) s₁) (λ_ _=>False) s)
  (n:Nat) (h:I n s):
  codeAny (model prog w) A (.compLoop (.ListComp elt [⟨target,iter,ifs,0⟩] scope pos) 0 it acc env) R s:=by
 refine codeAny_loop rfl I (λn s hI=>?_) n h
 show wpAny _ A ((compTurn (.ListComp elt [⟨target,iter,ifs,0⟩] scope pos) 0 it acc env).onRaise (λx=>do noteFrame x env;theTreesLotGoes x)) _ _ s
 refine wpAny_noted ?_
 rw[compTurn_list]
 refine ak (wpAny_standAt (ak (bQ (turn n s hI) (λr s₁ h₁=>?_) λ_ _ h'=>h'.elim)))
 cases r with
 |none=>exact aD h₁
 |some v=>
  refine ak (bQ h₁ (λ_ s₀ h₀=>?_) λ_ _ h'=>h'.elim)
  refine ak (bQ h₀ (λ_ s₂ h₂=>ak (bQ h₂ (λok s₃ h₃=>?_) λ_ _ h'=>h'.elim)) λ_ _ h'=>h'.elim)
  cases ok with
  |false=>exact aD ⟨rfl,h₃⟩
  |true=>
   exact ak (ak (bQ h₃ (λx s₄ h₄=>ak (bQ h₄ (λ_ s₅ h₅=>aD (aD ⟨rfl,h₅⟩)) λ_ _ h'=>h'.elim)) λ_ _ h'=>h'.elim))
end
open PyProof.Rows
def oth (e:Int):Int:=e+1-2*(e%2)
theorem Au (x:Int):Builtin.bitXor x 1=oth x:=by
 rw[bitXor_and,bitAnd_m1];unfold oth;omega
theorem mU (e:Int):oth (oth e)=e:=by unfold oth;omega
theorem qu (e:Int):oth e/2=e/2:=by unfold oth;omega
theorem vP {e:Int}(h:0<=e):0<=oth e:=by unfold oth;omega
end TL
set_option maxHeartbeats 4000000
namespace TL
open PySem PySem.Spec PyProof.Rows L2
abbrev St:=L2.St
def h8 (X:Cx)(scope:Scope)(cl:List (Str×Addr))(N:List Str)(fp:List Addr)(s3:Shared)(H3:Hp):Cx where
 prog:=X.prog
 w:=X.w
 K:=X.K
 mg:=X.mg
 base:=X.base
 A:=X.A
 N:=N
 s₀:=s3
 H₀:=H3
 env:=compEnvC scope cl s3.heap.objs.size X.env
 outer:=X.stack
 stack:=X.stack
 ex:=fp
 fn:=λ_=>false
 calm:=X.calm
 pn:=[]
 xe:=λ_ _=>False
def BO (NX:List Str)(scope:Scope)(N:List Str)(cap:List (Option Nat)):Bool:=
 (N.zip cap).all λp=>match p.2 with
  |none=>true
  |some j=>decide (NX[j]? = some p.1)&&decide (scope.names.lookup p.1=some .free)
structure gG (scX:Scope)(NX:List Str)(scope:Scope)(N:List Str)(own:Nat)(cap:List (Option Nat)):Prop where
 kind:scope.kind = .function
 zq:∀ y∈scope.names,y.2≠ .cell
 loc:∀ y∈scope.names,y.2 = .local->scope.names.lookup y.1=some .local
 fre:∀ y∈scope.names,y.2 = .free->scX.names.lookup y.1=some .cell\/scX.names.lookup y.1=some .free
 len:cap.length=N.length
 JM:BO NX scope N cap=true
 GH:(cap.take own).all (·.isNone)=true
 nd:N.Nodup
def jK (cap:List (Option Nat))(σ:St):St:=cap.map λo=>o.bind λj=>(σ[j]?).bind id
theorem yw {cap:List (Option Nat)}{σ:St} :(jK cap σ).length=cap.length:=by simp[jK]
theorem sA {cap:List (Option Nat)}{σ:St}{i:Nat}{v:V}(h:(jK cap σ)[i]? = some (some v)):∃ j,cap[i]? = some (some j)/\σ[j]? = some (some v):=by
 unfold jK at h
 rw[aj]at h
 cases e:cap[i]? with
 |none=>rw[e]at h;cases h
 |some o=>
  rw[e]at h
  cases o with
  |none=>cases h
  |some j=>
   refine⟨j,rfl,?_⟩
   have h':(σ[j]?).bind id=some v:=by simpa using h
   cases q:σ[j]? with
   |none=>rw[q]at h';cases h'
   |some z=>rw[q]at h';exact cH some h'
theorem gG.at {scX:Scope}{NX:List Str}{scope:Scope}{N:List Str}{own:Nat}{cap:List (Option Nat)}(C:gG scX NX scope N own cap){i j:Nat}{x:Str}(h1:N[i]? = some x)(h2:cap[i]? = some (some j)):
  NX[j]? = some x/\scope.names.lookup x=some .free:=by
 have h:=C.JM
 unfold BO at h
 have hm:(x,some j)∈N.zip cap:=by
  refine List.mem_iff_getElem?.mpr ⟨i,?_⟩
  rw[eE]
  exact⟨h1,h2⟩
 have:=List.all_eq_true.mp h _ hm
 simpa using this
theorem gG.zd {scX:Scope}{NX:List Str}{scope:Scope}{N:List Str}{own:Nat}{cap:List (Option Nat)}(C:gG scX NX scope N own cap){i j:Nat}(hi:i<own)(h:cap[i]? = some (some j)):False:=by
 have hm:some j∈cap.take own:=by
  refine List.mem_iff_getElem?.mpr ⟨i,?_⟩
  rw[List.getElem?_take_of_lt hi]
  exact h
 have:=List.all_eq_true.mp C.GH _ hm
 cases this
section
variable {X:Cx}{pins:List (Addr×Obj)}{σ:St}{H H3:Hp}{s s3:Shared}{scope:Scope}{N:List Str}{own:Nat}{cap:List (Option Nat)}{cl:List (Str×Addr)}{fp:List Addr}
theorem zJ (I3:Inv X pins σ H3 s3)(C:gG X.env.scope X.N scope N own cap)(oT:∀ x c,cl.lookup x=some c->X.env.cells.lookup x=some c)(uZ:∀ y∈scope.names,y.2 = .free->∃ c,cl.lookup y.1=some c)
  (hf:∀ b∈fp,pJ X pins H3 b/\b<s3.heap.objs.size) {h4:Heap}{tk:Nat}{m4:Str->Option Value} (hn:h4.Ns s3.heap.objs.size m4) (hk:∀ b u,s3.heap.get? b=some u->h4.get? b=some u):
  Inv (h8 X scope cl N fp s3 H3) [] (jK cap σ) H3 {s3 with heap:=h4,toks:=tk} :=by
 refine⟨⟨I3.ok.mod,C.kind,I3.ok.glob,I3.ok.blt,aq _,λx y c e1 e2=>I3.ok.inj x y c (oT _ _ e1) (oT _ _ e2),λx hx=>?_,λx c h=>?_,I3.ok.hd,I3.ok.frames,.inl rfl,λb hb=>?_,
  I3.bs,bF I3.ok.bsz I3.sz,λb o e hb=>?_,λb hb hz=>?_,I3.stack,I3.sM⟩,rfl,I3.bare,Un.kept hk,⟨m4,hn,λi x v e1 e2 e3=>?_⟩,λx c e=>?_,I3.hok.fresh (aq _),λx c e=>I3.je x c (oT x c e),
  λp hp=>absurd (show p∈([]:List (Addr×Obj)) from hp) (by simp),I3.hok.kept hk,?_⟩
 ·obtain⟨y,hy,e,f⟩:=jC (env:=X.env) C.zq hx
  obtain⟨c,q⟩:=uZ y hy f
  exact⟨c,by rw[<-e];exact q⟩
 ·exact absurd (show false=true from h) aW
 ·obtain⟨⟨f0,f1,f2,f3,f4,f5⟩,hlt⟩:=hf b hb
  exact⟨bw hlt,λx c e=>f4 x c (oT x c e)⟩
 ·obtain⟨⟨f0,f1,f2,f3,f4,f5⟩,hlt⟩:=hf b hb
  rcases f3 with z |z
  ·exact I3.ok.vW b o e z
  ·exact absurd (aU (aK e) (bF I3.ok.bsz z)) (cK _)
 ·obtain⟨⟨f0,f1,f2,f3,f4,f5⟩,hlt⟩:=hf b hb
  rcases aO.mp (I3.oJ b hz)with z |z
  ·exact f1 z
  ·exact f2 z
 ·obtain⟨j,c1,c2⟩:=sA e2
  obtain⟨d1,d2⟩:=C.at e1 c1
  have hk2:=C.fre (x,.free) (cw d2) rfl
  obtain⟨mX,hnX,hl⟩:=I3.loc
  obtain⟨u,r,l⟩:=hl j x v d1 c2 (.inr hk2)
  refine⟨u,r,?_⟩
  rcases l with⟨k,_⟩|⟨k,c,e,z⟩
  ·exfalso
   have k':X.env.scope.names.lookup x=some .local:=k
   rcases hk2 with q |q
   ·rw[k']at q;cases q
   ·rw[k']at q;cases q
  ·obtain⟨c',q⟩:=uZ (x,.free) (cw d2) rfl
   have e':=oT x c' q
   rw[e]at e'
   cases e'
   obtain⟨o,ho,hd⟩:=z
   exact .inr ⟨jJ (env:=X.env) d2,c,q,o,hk _ _ ho,hd⟩
 ·obtain⟨v,o,ho,hd⟩:=I3.cell x c (oT x c e)
  exact⟨v,o,hk _ _ ho,hd⟩
 ·rw[yw];exact C.len
theorem comp_back {qo:List (Addr×Obj)}{σ':St}{H':Hp}{s':Shared}(I3:Inv X pins σ H3 s3)(hf:∀ b∈fp,pJ X pins H3 b)(I':Inv (h8 X scope cl N fp s3 H3) qo σ' H' s'):Inv X pins σ H' s':=
 I3.BP (ch:=fp) I'.os I'.base I'.hok I'.bare λb hb=>by
  obtain⟨f0,f1,f2,f3,f4,f5⟩:=hf b hb
  exact⟨f3,f1,f4,f5⟩
structure Apart (X:Cx)(pins:List (Addr×Obj))(C:Addr):Prop where
 loc:C≠X.env.locals
 new:X.s₀.heap.objs.size<=C
 cel:∀ x c,X.env.cells.lookup x=some c->c≠C
 pin:∀ p∈X.pn++pins,p.1≠C
theorem Inv.apart (I3:Inv X pins σ H3 s3):Apart X pins s3.heap.objs.size:=
 ⟨Nat.ne_of_gt I3.lt,I3.sz,λx c e=>by obtain⟨v,o,ho,_⟩:=I3.cell x c e;exact bw (aK ho),λp hp=>bw (aK (I3.pin p hp).1)⟩
theorem sv {C:Addr}{h':Heap}(I:Inv X pins σ H s)(P:Apart X pins C)(hn:H C=none)(hs:Heap.SameBut C s.heap h'):Inv X pins σ H {s with heap:=h'} :=
 I.turned (t':=s.toks) (λb o hb e=>(hs.2 b hb).trans e) hn P.loc (.inr P.new) P.cel P.pin
end
structure vF (own:Nat)(g:TG):Prop where
 mono:∀ v σ H Q Q',(∀ σ' H',Q σ' H'->Q' σ' H')->g v σ H Q->g v σ H Q'
 own:∀ v σ H Q,g v σ H Q->g v σ H λσ' H'=>Q σ' H'/\σ'.length=σ.length/\∀ i,own<=i->σ'[i]? = σ[i]?
structure sJ (own:Nat)(g:TGs):Prop where
 mono:∀ v σ H Q Q',(∀ σ' H',Q σ' H'->Q' σ' H')->g v σ H Q->g v σ H Q'
 own:∀ v σ H Q,g v σ H Q->g v σ H λσ' H'=>Q σ' H'/\σ'.length=σ.length/\∀ i,own<=i->σ'[i]? = σ[i]?
theorem vF.name {own i:Nat}(h:i<own):vF own (kL i):=
 ⟨λv σ H Q Q' f q=>f _ _ q,λv σ H Q q=>⟨q,List.length_set,λj hj=>dS (by omega)⟩⟩
theorem sJ.nil {own:Nat} :sJ own E2:=⟨λv σ H Q Q' f q=>⟨q.1,f _ _ q.2⟩,λv σ H Q q=>⟨q.1,q.2,rfl,λ_ _=>rfl⟩⟩
theorem sJ.cons {own:Nat}{t:TG}{u:TGs}(h1:vF own t)(h2:sJ own u):sJ own (BI t u) where
 mono:=λv σ H Q Q' f ⟨x,r,e,q⟩=>⟨x,r,e,h1.mono _ _ _ _ _ (λσ' H' q=>h2.mono _ _ _ _ _ f q) q⟩
 own:=λv σ H Q ⟨x,r,e,q⟩=>⟨x,r,e,h1.mono _ _ _ _ _ (λσ1 H1 ⟨q,l1,o1⟩=>h2.mono _ _ _ _ _ (λσ2 H2 ⟨q,l2,o2⟩=>⟨q,l2.trans l1,λi hi=>(o2 i hi).trans (o1 i hi)⟩) (h2.own _ _ _ _ q)) (h1.own _ _ _ _ q)⟩
theorem vF.tup {own n:Nat}{K:PySem.W.Frag}{t:TGs}(h:sJ own t):vF own (EZ K n t) where
 mono:=λv σ H Q Q' f ⟨a,xs,e,q1,q2,q⟩=>⟨a,xs,e,q1,q2,h.mono _ _ _ _ _ f q⟩
 own:=λv σ H Q ⟨a,xs,e,q1,q2,q⟩=>⟨a,xs,e,q1,q2,h.own _ _ _ _ q⟩
def Al (X:Cx)(ifs:List Expr)(t:TT):Prop:=
 ∀ (pins:List (Addr×Obj)) (s:Shared) (σ:St) (H:Hp) (Q:Bool->Hp->Prop),Inv X pins σ H s->t σ H Q->wpAny (model X.prog X.w) X.A (wG ifs X.env) (TP X pins σ Q) X.xe s
def DP:TT:=λ_ H Q=>Q true H
theorem iB {X:Cx} :Al X [] DP:=λ_ _ _ H _ I h=>wpAny_tests_nil ⟨H,I,h⟩
theorem j9 {X:Cx}{c:Expr}{t:TT}(h:PT X c t):Al X [c] t:=λpins s σ H Q I q=>wpAny_tests_one (h pins s σ H Q I q)
def LcW (J:It)(g:TG)(tt:TT)(te:TE)(cap:List (Option Nat))(σ:St)(Q:VK)(l:Addr)(H1:Hp):Prop:=
 ∃ W:Nat->Nat->List V->Hp->Prop,(∃ m,W 0 m [] (upd H1 l (.lst [])))/\∀ i m acc H,W i m acc H->
  (J.stop i H/\Q (.ref l) H)\/(J.go i H/\∃ N:List V->Hp->Prop,(∀ rD H',N rD H'->∃ m',m'<m/\W (i+1) m' rD H')/\
   ∀ x H',J.yld i H x H'->g x (jK cap σ) H' λσ2 H2=>tt σ2 H2 λb H3=>
    if b=true then te σ2 H3 λy H4=>H4 l=some (.lst acc)/\acc.length<sizeLine/\N (acc ++ [y]) (upd H4 l (.lst (acc ++ [y])))
    else N acc H3)
def tLC (wi:TI)(cap:List (Option Nat))(g:TG)(tt:TT)(te:TE):TE:=λσ H Q=>wi σ H λJ H1=>∀ l,H1 l=none->
 LcW J g tt te cap σ Q l H1
section
variable {X:Cx}{pins:List (Addr×Obj)}{σ:St}{H1:Hp}{s2:Shared}{scope:Scope}{N:List Str}{own:Nat}{cap:List (Option Nat)}{cl:List (Str×Addr)}{fp:List Addr}
 {tg iter elt:Expr}{ifs:List Expr}{pos:Pos}{g:TG}{tt:TT}{te:TE}{wi:TI}
theorem vv {it:Addr}{tn:Nat->Heap->Prop}{J:It}{Q:VK}{RR:Value->Addr->Result->Shared->Prop}{E:Value->Shared->Prop}(I:Inv X pins σ H1 s2)(T:Turn X.prog X.w X.K tg J fp it tn)(t0:tn 0 s2.heap)
  (f:∀ b∈fp,pJ X pins H1 b) (hc:X.calm=true) (C:gG X.env.scope X.N scope N own cap) (ho:vF own g)
  (oT:∀ x c,cl.lookup x=some c->X.env.cells.lookup x=some c) (uZ:∀ y∈scope.names,y.2 = .free->∃ c,cl.lookup y.1=some c)
  (hg:∀ s3 H3,PG (h8 X scope cl N fp s3 H3) tg g) (ht:∀ s3 H3,Al (h8 X scope cl N fp s3 H3) ifs tt) (he:∀ s3 H3,PE (h8 X scope cl N fp s3 H3) elt te)
  (hw:∀ l,H1 l=none->LcW J g tt te cap σ Q l H1)
  (fin:∀ l C s' H' m',Inv X pins σ H' s'->s'.heap.Ns C m'->H' C=none->Apart X pins C->Q (.ref l) H'->RR (.ref l) C (.ok .next) s'):
  wpAny (model X.prog X.w) X.A (newList []) (λacc s₃=>wpAny (model X.prog X.w) X.A (newFunctionEnv scope X.env.globals cl [] X.env.qual none .none (some X.env)) (λFb s₄=>
   codeAny (model X.prog X.w) X.A (.compStart (.ListComp elt [⟨tg,iter,ifs,0⟩] scope pos) 0 (.ref it) acc {Fb with scope:=relabel scope X.env}) (RR acc Fb.locals) s₄) E s₃) E s2:=by
 refine dO (wpAny_newFunctionEnv C.zq (by intro y hy;simp at hy) (λh₁ we wc=>?_) C.kind)
 dsimp only at we wc ⊢
 obtain⟨W,⟨m0,w0⟩,turn⟩:=hw s2.heap.objs.size I.fresh
 have I3:Inv X pins σ (upd H1 s2.heap.objs.size (.lst [])) {s2 with heap:=s2.heap.push {cls:=.type "list",dict:=none,data:=.seq ([]:List Value).toArray}} :=I.Es (ys:=[]) (its:=[]) (t':=s2.toks) .nil (aM _)
 generalize hs3:({s2 with heap:=s2.heap.push {cls:=.type "list",dict:=none,data:=.seq ([]:List Value).toArray}} :Shared)=s3 at I3
 have hh3:s3.heap=s2.heap.push {cls:=.type "list",dict:=none,data:=.seq ([]:List Value).toArray} :=by rw[<-hs3]
 rw[<-hh3]at we wc ⊢
 have e4:({s2 with heap:=h₁,toks:=s2.toks+([]:List (Str×Value)).length} :Shared) = {s3 with heap:=h₁,toks:=s2.toks} :=by rw[<-hs3];rfl
 rw[e4]
 have k4:∀ b u,s3.heap.get? b=some u->h₁.get? b=some u:=λb u e=>wc.extBut b u (bw (aK e)) (aJ _ e)
 have k3:∀ b u,s2.heap.get? b=some u->s3.heap.get? b=some u:=λb u e=>by rw[hh3];exact aJ _ e
 have hb2:∀ b∈fp,b<s2.heap.objs.size:=λb hb=>by obtain⟨o,e,_⟩:=T.obj _ _ t0 b hb;exact aK e
 have f3:∀ b∈fp,pJ X pins (upd H1 s2.heap.objs.size (.lst [])) b:=λb hb=>by
  obtain⟨f0,fr⟩:=f b hb
  exact⟨by rw[fc (bw (hb2 b hb))];exact f0,fr⟩
 have hb3:∀ b∈fp,b<s3.heap.objs.size:=λb hb=>by obtain⟨o,e,_⟩:=T.obj _ _ t0 b hb;exact aK (k3 b o e)
 have I4:=zJ (tk:=s2.toks) I3 C oT uZ (λb hb=>⟨f3 b hb,hb3 b hb⟩) we k4
 generalize hH3:upd H1 s2.heap.objs.size (.lst [])=H3 at *
 have st4:tn 0 h₁:=T.keep _ _ _ t0 λb hb o e=>k4 b o (k3 b o e)
 have fpX:∀ {H':Hp},(∀ b∈fp,H' b=none)->∀ b∈fp,pJ (h8 X scope cl N fp s3 H3) [] H' b:=λ{H'} hn b hb=>by
  obtain⟨f0,f1,f2,f3',f4,f5⟩:=f3 b hb
  refine⟨hn b hb,bw (hb3 b hb),λhz=>?_,.inl hb,λx c e=>f4 x c (oT x c e),λp hp=>absurd (show p∈([]:List (Addr×Obj)) from hp) (by simp)⟩
  rcases aO.mp (I3.oJ b hz)with z |z
  ·exact f1 z
  ·exact f2 z
 have loop:codeAny (model X.prog X.w) X.A (.compLoop (.ListComp elt [⟨tg,iter,ifs,0⟩] scope pos) 0 (.ref it) (.ref s2.heap.objs.size) (compEnvC scope cl s3.heap.objs.size X.env)) (RR (.ref s2.heap.objs.size) s3.heap.objs.size) {s3 with heap:=h₁,toks:=s2.toks} :=by
  refine vz (λn s'=>∃ i acc H',Inv (h8 X scope cl N fp s3 H3) [] (jK cap σ) H' s'/\tn i s'.heap/\(∀ b∈fp,H' b=none)/\W i n acc H') ?_ m0 ⟨0,[],H3,I4,st4,λb hb=>(f3 b hb).1,w0⟩
  rintro n s' ⟨i,acc,H',I',st,fr,w⟩
  rcases turn i n acc H' w with⟨stop,q⟩|⟨go,NN,hNN,step⟩
  ·refine thn (T.done (h8 X scope cl N fp s3 H3) rfl rfl rfl hc i [] s' _ H' (λ_ _=>False) I' (fpX fr) st stop) λr s5 ⟨hr,I5⟩=>?_
   subst hr
   obtain⟨m5,hn5,_⟩:=id I5.loc
   exact fin _ _ s5 H' m5 (comp_back I3 f3 I5) hn5 I5.free (TL.Inv.apart I3) q
  ·refine thn (T.item (h8 X scope cl N fp s3 H3) rfl rfl rfl hc i [] s' _ H' (λ_ _=>False) I' (fpX fr) st go) λr s5 ⟨u,hr,h5⟩=>?_
   subst hr
   refine thn h5 λ_ s6 ⟨x,H6,I6,r6,y6,st6,fr6⟩=>?_
   have I6':=I6.pinned (fpX fr6) (T.obj _ _ st6)
   refine thn (hg s3 H3 _ s6 _ H6 x u _ I6' r6 (ho.own _ _ _ _ (step x H6 y6))) λ_ s7 ⟨σ7,H7,I7,q7,l7,o7⟩=>?_
   have cov:∀ (i:Nat) v,(jK cap σ)[i]? = some (some v)->σ7[i]? = some (some v):=λi v e=>by
    obtain⟨j,c1,c2⟩:=sA e
    by_cases hi:i<own
    ·exact(C.zd hi c1).elim
    ·rw[o7 i (by omega)];exact e
   have back:∀ {H8:Hp}{s8:Shared},Inv (h8 X scope cl N fp s3 H3) ([]++qm fp s6.heap) σ7 H8 s8->Inv (h8 X scope cl N fp s3 H3) [] (jK cap σ) H8 s8/\tn (i+1) s8.heap/\∀ b∈fp,H8 b=none:=λ{H8 s8} I8=>by
    refine⟨(Inv.nS (pins:=[]) I8).weak l7.symm cov,T.keep _ _ _ st6 λb hb o e=>(I8.pin (b,o) (bx _ (bx _ (ly hb e)))).1,λb hb=>?_⟩
    obtain⟨o,e,d⟩:=T.obj _ _ st6 b hb
    exact(I8.pin (b,o) (bx _ (bx _ (ly hb e)))).2.1
   refine thn (ht s3 H3 _ s7 σ7 H7 _ I7 q7) λb s8 ⟨H8,I8,q8⟩=>?_
   cases b with
   |false=>
    rw[ax aW]at q8 ⊢
    obtain⟨m',hm,w8⟩:=hNN _ _ q8
    obtain⟨J1,J2,J3⟩:=back I8
    exact⟨m',hm,i+1,acc,H8,J1,J2,J3,w8⟩
   |true=>
    rw[aH rfl]at q8 ⊢
    refine thn (he s3 H3 _ s8 σ7 H8 _ I8 q8) λv s9 ⟨y,H9,I9,r9,ha,hz,n9⟩=>?_
    obtain⟨m',hm,w9⟩:=hNN _ _ n9
    refine thn (gk _ s9 σ7 H9 (.ref s2.heap.objs.size) [y] (.ref s2.heap.objs.size) [v] (λ_ H10=>W (i+1) m' (acc ++ [y]) H10) I9 rfl (.cons r9 .nil) ⟨_,acc,y,rfl,rfl,ha,hz,w9⟩) λ_ s10 ⟨_,H10,I10,_,w10⟩=>?_
    obtain⟨J1,J2,J3⟩:=back I10
    exact⟨m',hm,i+1,acc ++ [y],H10,J1,J2,J3,w10⟩
 exact codeAny_compStart_list loop (T.self X.A 0 _ _ _ st4 loop)
theorem lR (hi:PI X tg iter wi)(hc:X.calm=true)(C:gG X.env.scope X.N scope N own cap)(ho:vF own g)
  (hg:∀ cl fp s3 H3,PG (h8 X scope cl N fp s3 H3) tg g) (ht:∀ cl fp s3 H3,Al (h8 X scope cl N fp s3 H3) ifs tt) (he:∀ cl fp s3 H3,PE (h8 X scope cl N fp s3 H3) elt te)
  (hs:∀ x,foldedSetIterable iter X.env x=pure x:=by intro _;rfl):PE X (.ListComp elt [⟨tg,iter,ifs,0⟩] scope pos) (tLC wi cap g tt te):=by
 intro pins s σ H Q I h
 obtain⟨cl,ecl,oT,uZ⟩:=qS (scope:=scope) (env:=X.env) λy hy hf=>I.ok.has y.1 (C.fre y hy hf)
 rw[eval_ListComp]
 refine wpAny_comprehension_free (use:=none) rfl hs ecl C.kind C.loc (thn (hi pins s σ H _ I h) λxv s1 h1=>thn h1 λitv s2 h2=>?_)
 obtain⟨it,fp,tn,J,H2,e,I2,T,st2,f2,hw⟩:=h2
 subst e
 refine vv (RR:=λacc C=>compPost (model X.prog X.w) X.A X.xe none (EP X pins σ Q) acc C) I2 T st2 f2 hc C ho oT uZ (hg cl fp) (ht cl fp) (he cl fp) hw λl Ca s' H' m' I' hn sk hP q=>?_
 exact⟨m',hn,λh'' CV=>⟨.ref l,H',sv I' hP sk CV,rfl,q⟩⟩
theorem qk {i:Nat}{x:Str}{pos' D7:Pos}(hN:X.N.Nodup)(hi':X.N[i]? = some x)(hx:X.env.scope.names.lookup x=some .local)(hi:PI X tg iter wi)(hc:X.calm=true)(C:gG X.env.scope X.N scope N own cap)(ho:vF own g)
  (hg:∀ cl fp s3 H3,PG (h8 X scope cl N fp s3 H3) tg g) (ht:∀ cl fp s3 H3,Al (h8 X scope cl N fp s3 H3) ifs tt) (he:∀ cl fp s3 H3,PE (h8 X scope cl N fp s3 H3) elt te)
  (hsw:swapsWith (.ListComp elt [⟨tg,iter,ifs,0⟩] scope pos) (some (.Name x pos')) D7.line X.env=pure true:=by rfl)
  (hs:∀ x,foldedSetIterable iter X.env x=pure x:=by intro _;rfl):PS X (.Assign [.Name x pos'] (.ListComp elt [⟨tg,iter,ifs,0⟩] scope pos) D7) (B6 (tLC wi cap g tt te) (kL i)):=by
 intro pins s σ H D I h
 obtain⟨cl,ecl,oT,uZ⟩:=qS (scope:=scope) (env:=X.env) λy hy hf=>I.ok.has y.1 (C.fre y hy hf)
 rw[exec_Assign_Name_used _ _ _ _ hsw]
 refine ak (wpAny_standAt (ak ?_))
 show wpAny _ X.A (do let _ <-comprehension (.ListComp elt [⟨tg,iter,ifs,0⟩] scope pos) scope X.env _ (newList []) false (eval iter X.env) (some (assign (.Name x pos') X.env))) _ _ s
 refine ak (bQ (wpAny_comprehension_free (use:=some (assign (.Name x pos') X.env)) (Q:=λ_ s'=>SP X pins D .next s') rfl hs ecl C.kind C.loc
  (thn (hi pins s σ H _ I h) λxv s1 h1=>thn h1 λitv s2 h2=>?_)) (λ_ s' hq=>aD (aD hq)) λ_ _ e=>e)
 obtain⟨it,fp,tn,J,H2,e,I2,T,st2,f2,hw⟩:=h2
 subst e
 refine vv (RR:=λacc C=>compPost (model X.prog X.w) X.A X.xe (some (assign (.Name x pos') X.env)) (λ_ s'=>SP X pins D .next s') acc C) I2 T st2 f2 hc C ho oT uZ (hg cl fp) (ht cl fp) (he cl fp) hw λl Ca s' H' m' I' hn sk hP q=>?_
 show wpAny _ X.A (assign (.Name x pos') X.env (.ref l)) _ _ _
 refine wpAny_assign_Name (rJ I' hN hi' (.inl hx) (v:=.ref l) rfl (λs5 I5 ⟨a,sb,ha⟩=>?_) (.inr hx))
 have hne:Ca≠a:=by
  rcases ha with z |z
  ·rw[z];exact hP.loc
  ·exact λe=>hP.cel x a z e.symm
 refine⟨m',hn.sameBut sb hne,λh'' CV=>⟨_,H',sv I5 hP sk CV,q⟩⟩
end
section
variable {K:PySem.W.Frag}{a l:Addr}{xs:List V}{g:TG}{tt:TT}{te:TE}{cap:List (Option Nat)}{σ:St}{Q:VK}{H1:Hp}
theorem AZ (Pv:Nat->List V->Hp->Prop)(h0:Pv 0 [] (upd H1 l (.lst [])))(hl:∀ i acc H,i<=xs.length->Pv i acc H->SqL K H a xs)
  (hs:∀ i x acc H,xs[i]? = some x->Pv i acc H->g x (jK cap σ) H λσ2 H2=>tt σ2 H2 λb H3=>
    if b=true then te σ2 H3 λy H4=>H4 l=some (.lst acc)/\acc.length<sizeLine/\Pv (i+1) (acc ++ [y]) (upd H4 l (.lst (acc ++ [y])))
    else Pv (i+1) acc H3) (hd:∀ acc H,Pv xs.length acc H->Q (.ref l) H):LcW (Itl K a) g tt te cap σ Q l H1:=by
 refine⟨λi m acc H=>m=xs.length-i/\i<=xs.length/\Pv i acc H,⟨xs.length,by simp,aM _,h0⟩,?_⟩
 rintro i m acc H ⟨rfl,hi,p⟩
 have q:=hl i acc H hi p
 by_cases hlt:i<xs.length
 ·refine .inr ⟨⟨xs,xs[i],q,by simp[hlt]⟩,Pv (i+1),λrD H' p'=>⟨xs.length-(i+1),by omega,rfl,hlt,p'⟩,λx H' y=>?_⟩
  obtain⟨e,y⟩:=y
  subst e
  exact hs i x acc _ (y xs q) p
 ·have e:i=xs.length:=by omega
  subst e
  exact .inl ⟨⟨xs,q,aq _⟩,hd acc H p⟩
theorem eV {H:Hp}{l:Addr}{o:HO}(hn:H l=none):fg H (upd H l o):=λb u e=>by rw[fc (eZ e hn)];exact e
theorem jP {α:Type}(ds:List α)(p:α->Bool)(f:α->V)(hn:H1 l=none)(hx:SqL K H1 a xs)(hlen:xs.length=ds.length)(hz:xs.length<sizeLine)
  (hs:∀ (i:Nat) x d H,xs[i]? = some x->ds[i]? = some d->fg H1 H->∀ (P1:VK) (P0:Hp->Prop),(p d=true->P1 (f d) H)->(p d=false->P0 H)->
   g x (jK cap σ) H λσ2 H2=>tt σ2 H2 λb H3=>if b=true then te σ2 H3 P1 else P0 H3)
  (hq:Q (.ref l) (upd H1 l (.lst ((ds.filter p).map f)))):LcW (Itl K a) g tt te cap σ Q l H1:=by
 refine AZ (λi acc H=>acc=((ds.take i).filter p).map f/\H=upd H1 l (.lst acc)) ⟨rfl,rfl⟩ (λi acc H _ ⟨_,e⟩=>by rw[e];exact(eV hn).seq hx) ?_ ?_
 ·rintro i x acc H hi ⟨e1,e2⟩
  have hlt:i<xs.length:=(af.mp hi).1
  have hd:ds[i]? = some (ds[i]'(by omega)):=by simp
  generalize ds[i]'(by omega)=d at hd
  have step:((ds.take (i+1)).filter p).map f=acc++(if p d=true then[f d]else[]):=by
   rw[take_succ_filter p ds i d hd,aw,e1]
   cases p d<;>rfl
  refine hs i x d H hi hd (by rw[e2];exact eV hn) _ _ (λhp=>?_) (λhp=>?_)
  ·refine⟨by rw[e2,eW],?_,?_,?_⟩
   ·have h1:acc.length<=i:=by
     rw[e1,aa]
     exact bF (bH _ _) (by rw[bB];omega)
    omega
   ·rw[step,hp];rfl
   ·rw[e2,pL]
  ·refine⟨?_,e2⟩
   rw[step,hp,ax aW,bO]
 ·rintro acc H ⟨e1,e2⟩
  rw[hlen,bA]at e1
  rw[e2,e1]
  exact hq
end
mutual
def Dg (L T:Addr->List V->Prop):PyData->V->Prop
 |.none,v=>v = .non
 |.bool b,v=>v = .bl b
 |.int i,v=>v = .int i
 |.str x,v=>v = .str x
 |.list ds,v=>∃ a vs,v = .ref a/\L a vs/\Dgs L T ds vs
 |.tuple ds,v=>∃ a vs,v = .ref a/\T a vs/\Dgs L T ds vs
 |.dict _,_=>False
def Dgs (L T:Addr->List V->Prop):List PyData->List V->Prop
 |[],vs=>vs = []
 |d::ds,vs=>∃ v r,vs=v::r/\Dg L T d v/\Dgs L T ds r
end
mutual
theorem Dg.mono {L T L' T':Addr->List V->Prop}(hL:∀ a vs,L a vs->L' a vs)(hT:∀ a vs,T a vs->T' a vs):∀ {d:PyData}{v:V},Dg L T d v->Dg L' T' d v
 |.none,_,h=>by simpa only[Dg]using h
 |.bool _,_,h=>by simpa only[Dg]using h
 |.int _,_,h=>by simpa only[Dg]using h
 |.str _,_,h=>by simpa only[Dg]using h
 |.list ds,_,h=>by
  simp only[Dg]at h ⊢
  obtain⟨a,vs,e,l,q⟩:=h
  exact⟨a,vs,e,hL a vs l,Dgs.mono hL hT q⟩
 |.tuple ds,_,h=>by
  simp only[Dg]at h ⊢
  obtain⟨a,vs,e,l,q⟩:=h
  exact⟨a,vs,e,hT a vs l,Dgs.mono hL hT q⟩
 |.dict _,_,h=>by simp only[Dg]at h
theorem Dgs.mono {L T L' T':Addr->List V->Prop}(hL:∀ a vs,L a vs->L' a vs)(hT:∀ a vs,T a vs->T' a vs):∀ {ds:List PyData}{vs:List V},Dgs L T ds vs->Dgs L' T' ds vs
 |[],_,h=>by simpa only[Dgs]using h
 |d::ds,_,h=>by
  simp only[Dgs]at h ⊢
  obtain⟨v,r,e,l,q⟩:=h
  exact⟨v,r,e,Dg.mono hL hT l,Dgs.mono hL hT q⟩
end
section
variable {L T:Addr->List V->Prop}
theorem iq {i:Int}{v:V} :Dg L T (.int i) v↔v = .int i:=by simp only[Dg]
theorem nL {i:Str}{v:V} :Dg L T (.str i) v↔v = .str i:=by simp only[Dg]
theorem h7 {ds:List PyData}{v:V} :Dg L T (.list ds) v↔∃ a vs,v = .ref a/\L a vs/\Dgs L T ds vs:=by simp only[Dg]
theorem hG {ds:List PyData}{v:V} :Dg L T (.tuple ds) v↔∃ a vs,v = .ref a/\T a vs/\Dgs L T ds vs:=by simp only[Dg]
theorem fV {vs:List V} :Dgs L T [] vs↔vs = []:=by simp only[Dgs]
theorem fN {d:PyData}{ds:List PyData}{vs:List V} :Dgs L T (d::ds) vs↔∃ v r,vs=v::r/\Dg L T d v/\Dgs L T ds r:=by simp only[Dgs]
theorem Dgs.length:∀ {ds:List PyData}{vs:List V},Dgs L T ds vs->vs.length=ds.length
 |[],_,h=>by rw[fV.mp h];rfl
 |d::ds,_,h=>by
  obtain⟨v,r,rfl,_,q⟩:=fN.mp h
  rw[aX,aX,Dgs.length q]
theorem kO:∀ {ns:List Int}{vs:List V},Dgs L T (ns.map .int) vs↔vs=ns.map V.int
 |[],vs=>fV
 |n::ns,vs=>by
  rw[aS,fN]
  constructor
  ·rintro⟨v,r,rfl,h1,h2⟩
   rw[iq.mp h1,kO.mp h2];rfl
  ·rintro rfl
   exact⟨_,_,rfl,iq.mpr rfl,kO.mpr rfl⟩
theorem Dgs.append:∀ {ds es:List PyData}{vs us:List V},Dgs L T ds vs->Dgs L T es us->Dgs L T (ds++es) (vs++us)
 |[],_,_,_,h,k=>by rw[fV.mp h];exact k
 |d::ds,_,_,_,h,k=>by
  obtain⟨v,r,rfl,h1,q⟩:=fN.mp h
  exact fN.mpr ⟨v,_,rfl,h1,Dgs.append q k⟩
theorem Dgs.one {d:PyData}{v:V}(h:Dg L T d v):Dgs L T [d] [v]:=fN.mpr ⟨v,[],rfl,h,fV.mpr rfl⟩
theorem Dgs.two {d e:PyData}{v u:V}(h:Dg L T d v)(k:Dg L T e u):Dgs L T [d,e] [v,u]:=fN.mpr ⟨v,[u],rfl,h,.one k⟩
theorem Dgs.get:∀ {ds:List PyData}{vs:List V}{i:Nat}{v:V},Dgs L T ds vs->vs[i]? = some v->∃ d,ds[i]? = some d/\Dg L T d v
 |[],_,_,_,h,e=>by rw[fV.mp h]at e;simp at e
 |d::ds,_,0,v,h,e=>by
  obtain⟨x,r,rfl,h1,q⟩:=fN.mp h
  simp at e;subst e
  exact⟨d,rfl,h1⟩
 |d::ds,_,i+1,v,h,e=>by
  obtain⟨x,r,rfl,h1,q⟩:=fN.mp h
  obtain⟨d',e1,e2⟩:=Dgs.get (i:=i) (v:=v) q (by simpa using e)
  exact⟨d',by simpa using e1,e2⟩
theorem Dgs.insert:∀ {ds:List PyData}{vs:List V} (i:Nat) {d:PyData}{v:V},Dgs L T ds vs->Dg L T d v->Dgs L T (ds.take i++d::ds.drop i) (vs.take i++v::vs.drop i)
 |ds,vs,0,d,v,h,k=>fN.mpr ⟨v,vs,by simp,k,by simpa using h⟩
 |[],vs,i+1,d,v,h,k=>by rw[fV.mp h];simpa using Dgs.one k
 |x::ds,vs,i+1,d,v,h,k=>by
  obtain⟨y,r,rfl,h1,q⟩:=fN.mp h
  exact fN.mpr ⟨y,_,rfl,h1,Dgs.insert i q k⟩
end
abbrev Da (K:PySem.W.Frag)(H:Hp):PyData->V->Prop:=Dg (SqL K H) (SqT K H)
abbrev Das (K:PySem.W.Frag)(H:Hp):List PyData->List V->Prop:=Dgs (SqL K H) (SqT K H)
theorem fX {K:PySem.W.Frag}{H H':Hp}{a:Addr}{xs:List V}(e:fg H H')(h:SqT K H a xs):SqT K H' a xs:=by
 rcases h with(h |⟨o,h⟩)|h
 ·exact .inl (.inl (e _ _ h))
 ·exact .inl (.inr ⟨o,e _ _ h⟩)
 ·exact .inr h
theorem Da.same {K:PySem.W.Frag}{H H':Hp}(e:fg H H'){d:PyData}{v:V}(h:Da K H d v):Da K H' d v:=Dg.mono (λ_ _ q=>e.seq q) (λ_ _ q=>fX e q) h
theorem Das.same {K:PySem.W.Frag}{H H':Hp}(e:fg H H'){d:List PyData}{v:List V}(h:Das K H d v):Das K H' d v:=Dgs.mono (λ_ _ q=>e.seq q) (λ_ _ q=>fX e q) h
section
variable {X:Cx}{pins:List (Addr×Obj)}{σ:St}{H:Hp}{s:Shared}
mutual
theorem Da.reads (I:Inv X pins σ H s):∀ {d:PyData}{v:V}{u:Value},Da X.K H d v->RelV v u->∃ as,Reads s.heap u d as
 |.none,v,u,h,r=>by
  have e:v = .non:=by simpa only[Dg]using h
  subst e;cases r;exact⟨_,.none⟩
 |.bool b,v,u,h,r=>by
  have e:v = .bl b:=by simpa only[Dg]using h
  subst e;cases r;exact⟨_,.bool b⟩
 |.int i,v,u,h,r=>by
  have e:v = .int i:=by simpa only[Dg]using h
  subst e;obtain⟨t,rfl⟩:=r;exact⟨_,.int i t⟩
 |.str i,v,u,h,r=>by
  have e:v = .str i:=by simpa only[Dg]using h
  subst e;obtain⟨t,rfl⟩:=r;exact⟨_,.str i t⟩
 |.list ds,v,u,h,r=>by
  obtain⟨a,vs,rfl,l,q⟩:=h7.mp h
  cases r
  obtain⟨its,rv,p,hz⟩:=I.list l
  obtain⟨as,rs⟩:=Das.reads I q rv
  obtain⟨o,ho,hc,n,hd⟩:=p.isList
  exact⟨_,.list ho hc hd (by simpa using rs)⟩
 |.tuple ds,v,u,h,r=>by
  obtain⟨a,vs,rfl,l,q⟩:=hG.mp h
  cases r
  obtain⟨its,rv,p,hz⟩:=I.tuple l
  obtain⟨as,rs⟩:=Das.reads I q rv
  obtain⟨o,ho,hc,n,hd⟩:=p
  exact⟨_,.tuple ho hc hd (by simpa using rs)⟩
 |.dict _,v,u,h,r=>by simp only[Dg]at h
theorem Das.reads (I:Inv X pins σ H s):∀ {ds:List PyData}{vs:List V}{us:List Value},Das X.K H ds vs->Vals vs us->∃ as,ReadsAll s.heap us ds as
 |[],vs,us,h,r=>by
  rw[fV.mp h]at r;cases r;exact⟨_,.nil⟩
 |d::ds,vs,us,h,r=>by
  obtain⟨v,w,rfl,h1,q⟩:=fN.mp h
  cases r with
  |cons r1 r2=>
   obtain⟨as,e1⟩:=Da.reads I h1 r1
   obtain⟨bs,e2⟩:=Das.reads I q r2
   exact⟨_,.cons e1 e2⟩
end
end
section
variable {X:Cx}
def OkD (d:PyData):Prop:=d.canLay0=true/\d.depth<=20
def Gd (K:PySem.W.Frag):R2:=λx y H Q=>∃ d e,Da K H d x/\Da K H e y/\OkD d/\OkD e/\Q (.bl (PyData.eqv d e)) H
def Ga (K:PySem.W.Frag):R2:=λx y H Q=>∃ d e,Da K H d x/\Da K H e y/\OkD d/\OkD e/\Q (.bl (!PyData.eqv d e)) H
theorem tE (hu:X.A.units+64<cLine):OpR X (compareOp .Eq) (Gd X.K):=by
 intro pins s σ H x y v u Q I rx ry h
 obtain⟨d,e,h1,h2,o1,o2,q⟩:=h
 obtain⟨as,r1⟩:=Da.reads I h1 rx
 obtain⟨bs,r2⟩:=Da.reads I h2 ry
 exact SeqAt.compareEq_reads r1 r2 o1.1 o2.1 (by have:=o1.2;have:=o2.2;omega) ⟨.bl _,H,I,rfl,q⟩
theorem qy (hu:X.A.units+64<cLine):OpR X (compareOp .NotEq) (Ga X.K):=by
 intro pins s σ H x y v u Q I rx ry h
 obtain⟨d,e,h1,h2,o1,o2,q⟩:=h
 obtain⟨as,r1⟩:=Da.reads I h1 rx
 obtain⟨bs,r2⟩:=Da.reads I h2 ry
 exact SeqAt.compareNe_reads r1 r2 o1.1 o2.1 (by have:=o1.2;have:=o2.2;omega) ⟨.bl _,H,I,rfl,q⟩
def Bw (ds:List PyData):Prop:=PyData.canLayAll0 ds=true/\PyData.depthAll ds<=20
def AK (K:PySem.W.Frag)(neg:Bool):R2:=λx y H Q=>∃ ds d,Da K H (.list ds) y/\Da K H d x/\Bw ds/\OkD d/\Q (.bl (if neg then !(ds.any λz=>PyData.eqv z d)else ds.any λz=>PyData.eqv z d)) H
theorem Cv (hu:X.A.units+64<cLine):OpR X (compareOp .In) (AK X.K false):=by
 intro pins s σ H x y v u Q I rx ry h
 obtain⟨ds,d,h1,h2,o1,o2,q⟩:=h
 obtain⟨as,r1⟩:=Da.reads I h1 ry
 obtain⟨bs,r2⟩:=Da.reads I h2 rx
 exact SeqAt.in_list_reads r1 r2 o1.1 o2.1 (by have:=o1.2;have:=o2.2;omega) ⟨.bl _,H,I,rfl,q⟩
theorem kJ (hu:X.A.units+64<cLine):OpR X (compareOp .NotIn) (AK X.K true):=by
 intro pins s σ H x y v u Q I rx ry h
 obtain⟨ds,d,h1,h2,o1,o2,q⟩:=h
 obtain⟨as,r1⟩:=Da.reads I h1 ry
 obtain⟨bs,r2⟩:=Da.reads I h2 rx
 exact SeqAt.notIn_list_reads r1 r2 o1.1 o2.1 (by have:=o1.2;have:=o2.2;omega) ⟨.bl _,H,I,rfl,q⟩
end
theorem hJ {α:Type}{f:α->PyData}(h:∀ x,(f x).canLay0=true):∀ l:List α,PyData.canLayAll0 (l.map f)=true
 |[]=>by simp[PyData.canLayAll0]
 |x::l=>by simp[PyData.canLayAll0,h x,hJ h l]
theorem gD {α:Type}{f:α->PyData}{k:Nat}(h:∀ x,(f x).depth<=k):∀ l:List α,PyData.depthAll (l.map f)<=k
 |[]=>by simp[PyData.depthAll]
 |x::l=>by
  simp only[aS,PyData.depthAll]
  exact Nat.max_le.mpr ⟨h x,gD h l⟩
def dI (ns:List Int):PyData:=.list (ns.map .int)
def dP (p:Int×Int):PyData:=.tuple [.int p.1,.int p.2]
def dJ (js:List (Int×Int)):PyData:=.list (js.map dP)
def dL (l:Int×List (Int×Int)):PyData:=.tuple [.int l.1,dJ l.2]
theorem pP (i:Int):OkD (.int i):=⟨rfl,by simp[PyData.depth]⟩
theorem oj (ns:List Int):OkD (dI ns):=⟨by simp only[dI,PyData.canLay0];exact hJ (λ_=>rfl) ns,by
 simp only[dI,PyData.depth]
 have:=gD (f:=PyData.int) (k:=0) (λ_=>by simp[PyData.depth]) ns
 omega⟩
theorem qW (p:Int×Int):(dP p).canLay0=true:=by simp[dP,PyData.canLay0,PyData.canLayAll0]
theorem t4 (p:Int×Int):(dP p).depth<=1:=by simp[dP,PyData.depth,PyData.depthAll]
theorem Eh (p:Int×Int):OkD (dP p):=⟨qW p,by have:=t4 p;omega⟩
theorem Cz (js:List (Int×Int)):Bw (js.map dP):=⟨hJ qW js,by have:=gD t4 js;omega⟩
theorem xq (js:List (Int×Int)):(dJ js).depth<=2:=by simp only[dJ,PyData.depth];have:=gD t4 js;omega
theorem Ei (js:List (Int×Int)):OkD (dJ js):=⟨by simp only[dJ,PyData.canLay0];exact hJ qW js,by have:=xq js;omega⟩
theorem Bh (l:Int×List (Int×Int)):(dL l).depth<=3:=by
 simp only[dL,PyData.depth,PyData.depthAll]
 have:=xq l.2
 omega
theorem om (l:Int×List (Int×Int)):OkD (dL l):=⟨by simp only[dL,PyData.canLay0,PyData.canLayAll0,Bool.and_true,Bool.true_and];exact(Ei l.2).1,by have:=Bh l;omega⟩
theorem jf {d:PyData}(h:OkD d):PyData.eqv d d=true:=SeqAt.eqv_refl d h.1
theorem BK (p q:Int×Int):PyData.eqv (dP p) (dP q)=decide (p=q):=by
 obtain⟨a,b⟩:=p
 obtain⟨c,d⟩:=q
 simp only[dP,PyData.eqv,PyData.eqvAll,Bool.and_true]
 rw[cg]
 simp
theorem Ff (js:List (Int×Int))(p:Int×Int):((js.map dP).any λz=>PyData.eqv z (dP p))=decide (p∈js):=by
 rw[List.any_map,cg,eT,cF]
 constructor
 ·rintro⟨x,hx,e⟩
  have e':PyData.eqv (dP x) (dP p)=true:=e
  rw[BK,cF]at e'
  rw[<-e'];exact hx
 ·intro h
  exact⟨p,h,by show PyData.eqv (dP p) (dP p)=true;rw[BK];simp⟩
theorem AW:OkD (.list []):=oj []
section
variable {X:Cx}
theorem A4 (its:List Value)(k:Nat)(y:Value):(its.toArray.extract 0 k).push y++its.toArray.extract k=(its.take k++y::its.drop k).toArray:=PySem.W.kl_ins_eq its k y
def AI:V->List V->Hp->VK->Prop:=λx vs H Q=>∃ l xs i y,x = .ref l/\vs = [.int i,y]/\H l=some (.lst xs)/\0<=i/\i<=xs.length/\xs.length<sizeLine/\Q .non (upd H l (.lst (xs.take i.toNat++y::xs.drop i.toNat)))
theorem rZ:MtM X "list.insert" AI:=by
 intro pins s σ H x vs v us Q I rx rv h
 obtain⟨l,xs,i,y,rfl,rfl,hH,h0,h1,hz,q⟩:=h
 cases rx
 obtain⟨ui,u,rfl,ri,ru⟩:=rv.two
 obtain⟨t,rfl⟩:=ri
 obtain⟨z,its,n,r,hl,e⟩:=I.rz hH
 have hs:its.toArray.size<=sizeLine:=by rw[aG];omega
 have hf:Builtin.List.listFitsIndex i=true:=by
  unfold Builtin.List.listFitsIndex
  have h63:(sizeLine:Nat)<2 ^ 62:=by rw[cZ];decide
  simp only[dN,eG]
  constructor<;>omega
 refine d8 eM ⟨_,e,rfl⟩ PySem.F.entry_list_insert (PySem.F.args_list_insert_3 _ _ _) (PySem.AutoSeq1.list_insert_list_int_val_1 l its.toArray n i t u (by simp[hf]) hs) ⟨e,?_⟩
 refine⟨.non,_,I.zE (its':=its.take i.toNat++u::its.drop i.toNat) (ys:=xs.take i.toNat++y::xs.drop i.toNat) hH e ?_ ((r.take i.toNat).append (.cons ru (r.drop i.toNat))) ?_,rfl,q⟩
 ·have hk:(if i<0 then(i+(its.toArray.size:Int)).toNat else min i.toNat its.toArray.size)=i.toNat:=by
   rw[ax (by omega),aG]
   omega
  show(its.toArray.extract 0 (if i<0 then(i+(its.toArray.size:Int)).toNat else min i.toNat its.toArray.size)).push u++its.toArray.extract (if i<0 then(i+(its.toArray.size:Int)).toNat else min i.toNat its.toArray.size)=_
  rw[hk,A4]
 ·rw[ah,aX,bB,cS]
  omega
end
def srt (ns:List Int):List Int:=ns.mergeSort (λa b=>decide (a<=b))
theorem lM (ns:List Int):(srt ns).Perm ns:=List.mergeSort_perm ns _
theorem p6 (ns:List Int):(srt ns).Pairwise (· <= ·):=by
 have h:=List.pairwise_mergeSort (le:=λa b:Int=>decide (a<=b)) (by intro a b c h1 h2;simp only[eG]at *;omega) (by intro a b;simp only[Bool.or_eq_true,eG];omega) ns
 exact h.imp (by intro a b h;simpa using h)
theorem vK {a b:List Int}(hp:a.Perm b)(ha:a.Pairwise (· <= ·))(hb:b.Pairwise (· <= ·)):a=b:=PySem.W.ksm_same hp ha hb
theorem yK {a ns:List Int}(hp:a.Perm ns)(ha:a.Pairwise (· <= ·)):a=srt ns:=vK (hp.trans (lM ns).symm) ha (p6 ns)
theorem xK {a b:List Int}(hp:a.Perm b):srt a=srt b:=yK ((lM a).trans hp) (p6 a)
theorem AE {ns:List Int}{x:Int} :x∈srt ns↔x∈ns:=(lM ns).mem_iff
theorem nF (ns:List Int):(srt ns).length=ns.length:=(lM ns).length_eq
section
variable {X:Cx}
end
theorem Inv.xF {X:Cx}{pins:List (Addr×Obj)}{σ:St}{H:Hp}{s:Shared}{h':Heap}{t':Nat}{ch:List Addr}{xs:List V}{us:List Value}(I:Inv X pins σ H s)(hf:∀ b∈ch,pJ X pins H b)
  (keep:∀ b o,b∉ch->s.heap.get? b=some o->h'.get? b=some o) (r:Vals xs us) (hz:xs.length<=sizeLine) (ht:h'.get? s.heap.objs.size=some {cls:=.type "tuple",data:=.seq us.toArray}):
  Inv X pins σ (upd H s.heap.objs.size (.tup xs)) {s with heap:=h',toks:=t'} :=by
 have hn:H s.heap.objs.size=none:=I.fresh
 have nch:∀ b u,H b=some u->b∉ch:=λb u q z=>by rw[(hf b z).1]at q;cases q
 refine I.step (g':=s.gens) (d':=s.drawn) (ch:=ch) (λb hb=>?_) (λb o _ _ hc q _=>keep b o hc q) (λb o _ _ hc q _=>⟨o.slots,keep b o hc q⟩) (λb o _ q n=>?_)
  (λb o hc q=>⟨o,keep b o hc q⟩) (λb ys q=>by rw[fc (eZ q hn)];exact q) (λb o ys q=>by rw[fc (eZ q hn)];exact q) (λb ps q=>⟨#[],by rw[fc (eZ q hn),q];simp⟩) (λm hm=>?_) (λb u q=>?_) I.bare
 ·obtain⟨f0,f1,f2,f3,f4,f5⟩:=hf b hb
  exact⟨f3,f1,f4,f5⟩
 ·rw[fc (bw (aK q))];exact n
 ·obtain⟨o,es,ep,ho,r⟩:=hm
  exact⟨o,es,ep,keep _ o (λz=>(hf _ z).2.1 rfl) ho,r⟩
 ·by_cases hb:b=s.heap.objs.size
  ·subst hb
   rw[eW]at q
   cases q
   exact⟨hz,us,r,⟨_,ht,rfl,_,rfl⟩⟩
  ·rw[fc hb]at q
   refine(I.hok b u q).oK (λc v hc q'=>keep c v ?_ q') (λc z=>by rw[fc (eZ z hn)];exact z) λc ys z=>by rw[fc (eZ z hn)];exact z
   rcases hc with z |z
   ·rw[z];exact nch b u q
   ·exact nch c _ z
def Ite (K:PySem.W.Frag)(a:Addr):It:=
 ⟨λi H=>∃ xs x,SqL K H a xs/\xs[i]? = some x,λi H x H'=>∃ p,H p=none/\x = .ref p/\∀ xs y,SqL K H a xs->xs[i]? = some y->H'=upd H p (.tup [.int i,y]),λi H=>∃ xs,SqL K H a xs/\xs.length<=i⟩
theorem xI {P:Program}{w:World}{K:PySem.W.Frag}{es:List Expr}{x1:Nat}{pt:Pos}(a e it:Addr)(hne:e≠it):
  Turn P w K (.Tuple es x1 pt) (Ite K a) [e,it] e (λi h=>∃ old,IsEnum h e it i old/\h.IsListIter it a i) where
 mem:=by simp
 obj:=λi h st b hb=>by
  obtain⟨old,h1,h2⟩:=st
  rcases aO.mp hb with z |z
  ·subst z;exact⟨_,h1,λv z=>by cases z⟩
  ·have z:b=it:=by simpa using z
   subst z
   obtain⟨o,ho,c,d⟩:=h2
   exact⟨o,ho,λv z=>by rw[d]at z;cases z⟩
 keep:=λi h h' ⟨old,h1,h2⟩ k=>⟨old,k e (by simp) _ h1,h2.at λo q=>k it (by simp) o q⟩
 item:=by
  intro X hP hw hK hc i pins s σ H E I hf st hg
  subst hP hw hK
  obtain⟨old,h1,h2⟩:=st
  obtain⟨xs,x,hq,hx⟩:=hg
  obtain⟨its,rv,p,hz⟩:=I.list hq
  obtain⟨u,hu,ru⟩:=rv.get hx
  have lt1:e<s.heap.objs.size:=aK h1
  refine wpAny_pyNext_enum_item h1 h2 p.isList (x:=u) (by simpa using hu) hne λh' k1 k2 k3 k4 k5=>?_
  refine⟨_,rfl,?_⟩
  refine wpAny_letOwnedTupleGo_enum (s:={s with heap:=h',toks:=s.toks+1}) k1 λh'' m1 m2=>?_
  have keep:∀ b o,b∉ [e,it]->s.heap.get? b=some o->h''.get? b=some o:=λb o hb q=>m2.extBut b o (λz=>hb (by simp[z])) (k5 b o (λz=>hb (by simp[z])) (λz=>hb (by simp[z])) q)
  have ht:h''.get? s.heap.objs.size=some {cls:=.type "tuple",data:=.seq [Value.int i s.toks,u].toArray} :=m2.extBut _ _ (Nat.ne_of_gt lt1) k3
  have J1:Inv X pins σ (upd H s.heap.objs.size (.tup [.int i,x])) {s with heap:=h'',toks:=s.toks+1} :=Inv.xF I hf keep (.cons ⟨_,rfl⟩ (.cons ru .nil)) (by show 2<=sizeLine;decide) ht
  have hn:H s.heap.objs.size=none:=I.fresh
  refine⟨.ref s.heap.objs.size,_,J1,rfl,⟨_,hn,rfl,λys y hy h=>?_⟩,⟨u,?_,?_⟩,λb hb=>?_⟩
  ·have e1:=I.oo hy hq
   subst e1
   rw[hx]at h
   cases h
   rfl
  ·have e1:((i+1:Nat):Int)=(i:Int)+1:=by omega
   rw[e1];exact m1
  ·exact k2.extBut m2.extBut (bZ hne)
  ·obtain⟨o,q,_⟩:∃ o,s.heap.get? b=some o/\True:=by
    rcases aO.mp hb with z |z
    ·subst z;exact⟨_,h1,trivial⟩
    ·have z:b=it:=by simpa using z
     subst z
     obtain⟨o,ho,_⟩:=h2
     exact⟨o,ho,trivial⟩
   rw[fc (bw (aK q))]
   exact(hf b hb).1
 done:=by
  intro X hP hw hK hc i pins s σ H E I hf st hg
  subst hP hw hK
  obtain⟨old,h1,h2⟩:=st
  obtain⟨xs,hq,hx⟩:=hg
  obtain⟨its,rv,p,hz⟩:=I.list hq
  obtain⟨g0,g1,g2,g3,g4,g5⟩:=hf it (by simp)
  have hl:=rv.length
  exact wpAny_pyNext_enum_end (I.ok.hd hc) h1 h2 p.isList (by simp;omega) λh' eb=>⟨rfl,I.turned (t':=s.toks) (λb o hb e=>eb b o hb e) g0 g1 g3 g4 g5⟩
 self:=λ_ _ _ _ _ ⟨old,h1,h2⟩ h=>wpAny_pyIter_enum h1 h
section
variable {X:Cx}
def ED (K:PySem.W.Frag)(ta:TA):TI:=λσ H R=>ta σ H λvs H1=>∃ a,vs = [.ref a]/\(∃ xs,SqL K H1 a xs)/\R (Ite K a) H1
theorem wY {a:Expr}{ta:TA}{p pos:Pos}{es:List Expr}{x1:Nat}{pt:Pos}(hg:Gl X "enumerate")(hm:X.mg "enumerate" = none)(ha:PA X [a] ta)(hs:starEach [a] X.env = [(false,eval a X.env)]:=by rfl):PI X (.Tuple es x1 pt) (.Call (.Name "enumerate" p) [a] [] pos) (ED X.K ta):=by
 intro pins s σ H R I h
 refine Call_ (lX I hg hm boot_enumerate (bX (thn (ha pos pins s σ H _ I h) λus s1 ⟨vs,H1,I1,r1,q1⟩=>?_) hs rfl))
 obtain⟨a,e,⟨xs,hq⟩,q⟩:=q1
 subst e
 obtain⟨u,rfl,ru⟩:=vals1 r1
 cases ru
 obtain⟨its,rv,pl,hz⟩:=I1.list hq
 refine call_enumerate_list pl.isList λh' k1 k2 k3 k4=>?_
 refine wpAny_pyIter_enum (s:={s1 with heap:=h'}) k1 ?_
 refine⟨s1.heap.objs.size+1,[s1.heap.objs.size+1,s1.heap.objs.size],_,_,H1,rfl,I1.kept (t':=s1.toks) k4,xI a _ _ (Nat.succ_ne_self _),⟨.none,k1,k2⟩,λb hb=>?_,q⟩
 have hb':s1.heap.objs.size<=b:=by
  rcases aO.mp hb with z |z
  ·rw[z];exact eI _
  ·have z:b=s1.heap.objs.size:=by simpa using z
   rw[z];exact aq _
 exact I1.yn hb' (I1.hok.fresh hb')
end
theorem zZ {K:PySem.W.Frag}{a:Addr}{xs:List V}{g:TG}{tb:TS}{D:Ends}{σ:St}{H:Hp}(Pv:Nat->St->Hp->Prop)(h0:Pv 0 σ H)(hl:∀ i σ H,i<=xs.length->Pv i σ H->SqL K H a xs)
  (hs:∀ i x σ H p,xs[i]? = some x->Pv i σ H->H p=none->g (.ref p) σ (upd H p (.tup [.int i,x])) λσ2 H2=>tb {D with nx:=Pv (i+1),ct:=Pv (i+1),bk:=D.nx} σ2 H2) (hd:∀ σ H,Pv xs.length σ H->D.nx σ H):
  ∃ W:Nat->Nat->St->Hp->Prop,(∃ m,W 0 m σ H)/\∀ i m σ H,W i m σ H->
   ((Ite K a).stop i H/\D.nx σ H)\/((Ite K a).go i H/\∃ N:St->Hp->Prop,(∀ σ' H',N σ' H'->∃ m',m'<m/\W (i+1) m' σ' H')/\∀ x H',(Ite K a).yld i H x H'->g x σ H' λσ2 H2=>tb {D with nx:=N,ct:=N,bk:=D.nx} σ2 H2):=by
 refine⟨λi m σ H=>m=xs.length-i/\i<=xs.length/\Pv i σ H,⟨xs.length,by simp,aM _,h0⟩,?_⟩
 rintro i m σ H ⟨rfl,hi,p⟩
 have q:=hl i σ H hi p
 by_cases hlt:i<xs.length
 ·refine .inr ⟨⟨xs,xs[i],q,by simp[hlt]⟩,Pv (i+1),λσ' H' p'=>⟨xs.length-(i+1),by omega,rfl,hlt,p'⟩,λx H' y=>?_⟩
  obtain⟨pa,hp,e,y⟩:=y
  subst e
  have hx:xs[i]? = some xs[i]:=by simp[hlt]
  rw[y xs _ q hx]
  exact hs i _ σ H pa hx p hp
 ·have e:i=xs.length:=by omega
  subst e
  exact .inl ⟨⟨xs,q,aq _⟩,hd σ H p⟩
def Itv (K:PySem.W.Frag)(a:Addr):It:=
 ⟨λi H=>∃ xs x,SqL K H a xs/\xs.reverse[i]? = some x,λi H x H'=>H'=H/\∀ xs,SqL K H a xs->xs.reverse[i]? = some x,λi H=>∃ xs,SqL K H a xs/\xs.length=i⟩
theorem yJ {P:Program}{w:World}{K:PySem.W.Frag}{tg:Expr}(a it:Addr)(n:Nat):Turn P w K tg ⟨λi H=>(Itv K a).go i H/\∃ xs,SqL K H a xs/\xs.length=n,(Itv K a).yld,λi H=>i=n⟩ [it] it (λi h=>i<=n/\h.IsRevIter it a ((n:Int)-1-(i:Int))) where
 mem:=by simp
 obj:=λi h st b hb=>by
  have e:b=it:=by simpa using hb
  subst e
  obtain⟨_,o,e,c,d⟩:=st
  exact⟨o,e,λv z=>by rw[d]at z;cases z⟩
 keep:=λi h h' st k=>⟨st.1,st.2.at λo e=>k it (by simp) o e⟩
 item:=by
  intro X hP hw hK hc i pins s σ H E I hf st hg
  subst hP hw hK
  obtain⟨⟨xs,x,hq,hx⟩,ys,hq2,hn⟩:=hg
  have e0:=I.oo hq2 hq
  subst e0
  obtain⟨its,rv,p,hz⟩:=I.list hq
  have hil:i<ys.length:=by have:=(af.mp hx).1;rwa [bg]at this
  have hx':ys[ys.length-1-i]? = some x:=by rw[dE hil]at hx;exact hx
  obtain⟨u,hu,ru⟩:=rv.get hx'
  obtain⟨f0,f1,f2,f3,f4,f5⟩:=hf it (by simp)
  have e1:(n:Int)-1-(i:Int)=((ys.length-1-i:Nat):Int):=by omega
  have st2:=st.2
  rw[e1]at st2
  refine wpAny_pyNext_rev_item st2 p.isList (x:=u) (by simpa using hu) λh' st' sb=>?_
  have I1:Inv X pins σ H {s with heap:=h'} :=I.turned (t':=s.toks) (λb o hb e=>(sb.2 b hb).trans e) f0 f1 f3 f4 f5
  have e2:((ys.length-1-i:Nat):Int)-1=(n:Int)-1-((i+1:Nat):Int):=by omega
  rw[e2]at st'
  obtain⟨o,e,c,d⟩:=id st'
  exact⟨u,rfl,xn (s:={s with heap:=h'}) e c d (by decide) ⟨x,H,I1,ru,⟨rfl,λzs hy=>by rw[I.oo hy hq];exact hx⟩,⟨by omega,st'⟩,λb hb=>(hf b hb).1⟩⟩
 done:=by
  intro X hP hw hK hc i pins s σ H E I hf st hg
  subst hP hw hK
  have hg:i=n:=hg
  subst hg
  obtain⟨f0,f1,f2,f3,f4,f5⟩:=hf it (by simp)
  have e1:(i:Int)-1-(i:Int) = -1:=by omega
  have st2:=st.2
  rw[e1]at st2
  exact wpAny_pyNext_rev_end (I.ok.hd hc) st2 λh' eb=>⟨rfl,I.turned (t':=s.toks) (λb o hb e=>eb b o hb e) f0 f1 f3 f4 f5⟩
 self:=λ_ _ _ _ _ st h=>wpAny_pyIter_revIter st.2 h
section
variable {X:Cx}{tg:Expr}
def Ig (K:PySem.W.Frag)(ta:TA):TI:=λσ H R=>ta σ H λvs H1=>∃ a xs,vs = [.ref a]/\SqL K H1 a xs/\R ⟨λi H=>(Itv K a).go i H/\∃ ys,SqL K H a ys/\ys.length=xs.length,(Itv K a).yld,λi H=>i=xs.length⟩ H1
theorem yZ {a:Expr}{ta:TA}{p pos:Pos}(hg:Gl X "reversed")(hm:X.mg "reversed" = none)(ha:PA X [a] ta)(hs:starEach [a] X.env = [(false,eval a X.env)]:=by rfl):PI X tg (.Call (.Name "reversed" p) [a] [] pos) (Ig X.K ta):=by
 intro pins s σ H R I h
 refine Call_ (lX I hg hm boot_reversed (bX (thn (ha pos pins s σ H _ I h) λus s1 ⟨vs,H1,I1,r1,q1⟩=>?_) hs rfl))
 obtain⟨a,xs,e,hq,q⟩:=q1
 subst e
 obtain⟨u,rfl,ru⟩:=vals1 r1
 cases ru
 obtain⟨its,rv,pl,hz⟩:=I1.list hq
 have hl:=rv.length
 refine call_reversed_list pl.isList ?_
 have hit:Heap.IsRevIter (s1.heap.push (revObj a ((its.toArray.size:Int)-1))) s1.heap.objs.size a (((xs.length:Nat):Int)-1-((0:Nat):Int)):=by
  refine⟨_,aY _ rfl,rfl,?_⟩
  have e1:((xs.length:Nat):Int)-1-((0:Nat):Int)=(its.toArray.size:Int)-1:=by rw[aG];omega
  rw[e1];rfl
 refine wpAny_pyIter_revIter (s:={s1 with heap:=s1.heap.push (revObj a ((its.toArray.size:Int)-1))}) hit ?_
 refine⟨s1.heap.objs.size,[s1.heap.objs.size],_,_,H1,rfl,I1.kept (t':=s1.toks) (λb o e=>aJ _ e),yJ a _ xs.length,⟨aM _,hit⟩,λb hb=>?_,q⟩
 have e:b=s1.heap.objs.size:=by simpa using hb
 subst e
 exact I1.yn (aq _) (I1.hok.fresh (aq _))
end
section
variable {X:Cx}{e:Expr}{te:TE}{pos p2:Pos}
def BX (K:PySem.W.Frag)(te ts:TE):TE:=λσ H Q=>te σ H λx H1=>ts σ H1 λy H2=>∃ i,y = .int i/\∃ a xs,some i=some (-1:Int)/\x = .ref a/\SqL K H2 a xs/\∀ p,H2 p=none->Q (.ref p) (upd H2 p (.lst xs.reverse))
theorem y3 {st:Expr}{ts:TE}(he:PE X e te)(hs:PE X st ts):PE X (.Subscript e (.Slice none none (some st) p2) pos) (BX X.K te ts):=by
 intro pins s σ H Q I h
 refine Subscript_ (thn (he pins s σ H _ I h) λv s1 ⟨x,H1,I1,r1,q1⟩=>?_)
 refine wpAny_Slice ?_
 rw[evalPart_none]
 refine aD (aD (thn (n8 hs pins s1 σ H1 (λo H2=>∃ a xs,o=some (-1)/\x = .ref a/\SqL X.K H2 a xs/\∀ p,H2 p=none->Q (.ref p) (upd H2 p (.lst xs.reverse))) I1 q1) λvk s3 ⟨o,H3,I3,pk,q3⟩=>?_))
 ·obtain⟨a,xs,rfl,rfl,hq,q⟩:=q3
  cases r1
  have I4:Inv X pins σ H3 {s3 with heap:=s3.heap.push {cls:=.type "slice",data:=.fields #[.none,.none,vk]}} :=I3.kept (t':=s3.toks) λb ob q=>aJ _ q
  obtain⟨its,r,ht,hz⟩:=I4.list hq
  have hlen:=r.length
  refine tail_any (ops:=[.ref a,.ref s3.heap.objs.size]) ht.isList.typeIs slot_list_getitem.lookup ?_ (by with_unfolding_all rfl)
  refine wpAny_getItem_list_slice ht.isList (Heap.IsSliceOf.new ..) .none .none pk (by simp) ?_ (by rw[aG]<;>omega)
  rw[PySem.W.krv_pick]
  refine⟨.ref _,_,I4.laid (t':=s3.toks) (o:=.lst xs.reverse) (λb ob q=>aJ _ q) (aq _) ⟨by rw[bg];exact hz,its.reverse,0,r.reverse,?_⟩,rfl,q _ (I4.hok.fresh (aq _))⟩
  exact aY _ rfl
end
theorem pC {X:Cx} :jh X (.builtin "isinstance") (λxs H Q=>∃ x c t b,xs = [x,.ty c]/\o3 X.K H x t/\PySem.W.kitOne X.K t (.type c)=some b/\Q (.bl b) H):=by
 intro pins s σ H xs us Q I r h
 obtain⟨x,c,t,b,rfl,ty,e,q⟩:=h
 obtain⟨u,u2,rfl,ru,rc⟩:=vals2 r
 cases rc
 exact yj I ru ty e λtk=>⟨.bl b,H,I.tok tk,rfl,q⟩
theorem uW {K:PySem.W.Frag}{t:Value} :PySem.W.kitOne K t t=some true:=by unfold PySem.W.kitOne;rw[aH (by simp)]
structure Bl (mg:Str->Option Value):Prop where
 len:mg "len" = none
 range:mg "range" = none
 sorted:mg "sorted" = none
 enumerate:mg "enumerate" = none
 reversed:mg "reversed" = none
 min:mg "min" = none
 max:mg "max" = none
 list:mg "list" = none
 int:mg "int" = none
 isinstance:mg "isinstance" = none
structure Fn (K:PySem.W.Frag)(mg:Str->Option Value)(x:Str)(st:Stmt)(ps:List Str)(f:Addr)(fd:FuncData):Prop where
 F:Fun K x x st f fd
 m:mg x=some (.ref f)
 b:Binds K fd ps []
def below (js:List (Int×Int))(e:Int):List Int:=(js.filter λp=>decide (p.2=e)).map (·.1)
def above (js:List (Int×Int))(e:Int):List Int:=(js.filter λp=>decide (p.1=e)).map (·.2)
def inc (js:List (Int×Int))(e:Int):Nat:=(below js e).length+(above js e).length
def jn (js:List (Int×Int))(e:Int):List Int:=srt (below js e++above js e)
theorem Ex (js:List (Int×Int))(e:Int):srt (above js e++below js e)=jn js e:=xK dD
structure fz (l:Int×List (Int×Int)):Prop where
 one:1<=l.1
 most:l.1<=40
 len:l.2.length<=80
 inc:∀ e,inc l.2 e<=160
 ends:∀ p∈l.2,0<=p.1/\p.1<=p.2/\p.2<2*l.1
theorem inc_le (js:List (Int×Int))(e:Int):inc js e<=2*js.length:=by
 unfold inc below above
 rw[aa,aa]
 have h1:=bH (λp:Int×Int=>decide (p.2=e)) js
 have h2:=bH (λp:Int×Int=>decide (p.1=e)) js
 omega
def ud (H:Hp)(ns:List Int)(Q:VK):Prop:=∀ (p:Addr) (H':Hp),fg H H'->H p=none->H' p=some (.lst (ns.map V.int))->Q (.ref p) H'
theorem fg.upd {H H':Hp}{l:Addr}{o:HO}(s:fg H H')(hn:H l=none):fg H (upd H' l o):=λb u e=>by rw[fc (eZ e hn)];exact s b u e
theorem lF {K:PySem.W.Frag}{H:Hp}{ns:List Int}{v:V} :Da K H (dI ns) v↔∃ a,v = .ref a/\SqL K H a (ns.map V.int):=by
 unfold dI
 refine Iff.trans h7 ?_
 constructor
 ·rintro⟨a,vs,rfl,h,q⟩
  rw[kO.mp q]at h
  exact⟨a,rfl,h⟩
 ·rintro⟨a,rfl,h⟩
  exact⟨a,_,rfl,h,kO.mpr rfl⟩
theorem jo {K:PySem.W.Frag}{H:Hp}{ns:List Int}{p:Addr}(h:H p=some (.lst (ns.map V.int))):Da K H (dI ns) (.ref p):=lF.mpr ⟨p,rfl,SqL.of h⟩
theorem mZ {K:PySem.W.Frag}{H:Hp}{l:Int×List (Int×Int)}{v:V}(h:Da K H (dL l) v):∃ a b,v = .ref a/\SqT K H a [.int l.1,.ref b]/\∃ vs,SqL K H b vs/\Das K H (l.2.map dP) vs:=by
 unfold dL at h
 obtain⟨a,vs,rfl,ht,q⟩:=hG.mp h
 obtain⟨v1,r,rfl,h1,q⟩:=fN.mp q
 obtain⟨v2,r,rfl,h2,q⟩:=fN.mp q
 cases fV.mp q
 cases iq.mp h1
 unfold dJ at h2
 obtain⟨b,us,rfl,hl,q⟩:=h7.mp h2
 exact⟨a,b,rfl,ht,us,hl,q⟩
theorem mf {K:PySem.W.Frag}{H:Hp}{js:List (Int×Int)}{vs:List V}{i:Nat}{x:V}(h:Das K H (js.map dP) vs)(e:vs[i]? = some x):∃ a p,js[i]? = some p/\x = .ref a/\SqT K H a [.int p.1,.int p.2]:=by
 obtain⟨d,e1,hd⟩:=Dgs.get h e
 rw[aj]at e1
 cases q:js[i]? with
 |none=>rw[q]at e1;cases e1
 |some p=>
  rw[q]at e1
  cases e1
  unfold dP at hd
  obtain⟨a,us,rfl,ht,q⟩:=hG.mp hd
  obtain⟨v1,r,rfl,h1,q⟩:=fN.mp q
  obtain⟨v2,r,rfl,h2,q⟩:=fN.mp q
  cases fV.mp q
  cases iq.mp h1
  cases iq.mp h2
  exact⟨a,p,rfl,rfl,ht⟩
theorem tK (ms:List Int):Bw (ms.map PyData.int):=⟨hJ (λ_=>rfl) ms,by have:=gD (f:=PyData.int) (k:=0) (λ_=>by simp[PyData.depth]) ms;omega⟩
theorem xu (ms:List Int)(x:Int):((ms.map PyData.int).any λz=>PyData.eqv z (.int x))=decide (x∈ms):=by
 rw[List.any_map,cg,eT,cF]
 constructor
 ·rintro⟨y,hy,e⟩
  have e':PyData.eqv (.int y) (.int x)=true:=e
  simp only[PyData.eqv,beq_iff_eq]at e'
  rw[<-e'];exact hy
 ·intro h
  exact⟨x,h,by show PyData.eqv (.int x) (.int x)=true;simp[PyData.eqv]⟩
theorem iD {i:Nat}{x:V}{σ:St}{H:Hp}{te:TE}{P1:VK}{P0:Hp->Prop}(h:te (σ.set i (some x)) H P1):kL i x σ H (λσ2 H2=>DP σ2 H2 λb H3=>if b=true then te σ2 H3 P1 else P0 H3):=A2 (A:=te (σ.set i (some x)) H P1) (B:=P0 H) h
theorem kM {α:Type}(xs:List α):(xs.filter λ_=>true)=xs:=by simp
section
variable {X:Cx}{K:PySem.W.Frag}
theorem AV (hK:X.K=K)(hu:X.A.units+64<cLine):OpR X (compareOp .In) (AK K false):=hK ▸ Cv hu
theorem qw (hK:X.K=K)(hu:X.A.units+64<cLine):OpR X (compareOp .NotIn) (AK K true):=hK ▸ kJ hu
theorem lY (hK:X.K=K):IxR X (Eb K):=hK ▸ gh
end
structure JS (J:It)(n:Nat)(H1:Hp)(it:Nat->V->Prop):Prop where
 go:∀ i H,fg H1 H->i<n->J.go i H
 yld:∀ i H x H',fg H1 H->i<n->J.yld i H x H'->H'=H/\it i x
 stop:∀ H,fg H1 H->J.stop n H
theorem mY {K:PySem.W.Frag}{a:Addr}{xs:List V}{H1:Hp}(hx:SqL K H1 a xs):JS (Itl K a) xs.length H1 (λi x=>xs[i]? = some x):=
 ⟨λi H s hi=>⟨xs,xs[i],s.seq hx,by simp⟩,λi H x H' s hi y=>⟨y.1,y.2 xs (s.seq hx)⟩,λH s=>⟨xs,s.seq hx,aq _⟩⟩
theorem zI {K:PySem.W.Frag}{a:Addr}{xs:List V}{H1:Hp}(hx:SqL K H1 a xs):JS ⟨λi H=>(Itv K a).go i H/\∃ ys,SqL K H a ys/\ys.length=xs.length,(Itv K a).yld,λi H=>i=xs.length⟩ xs.length H1 (λi x=>xs.reverse[i]? = some x):=
 ⟨λi H s hi=>⟨⟨xs,xs.reverse[i]'(by rw[bg];exact hi),s.seq hx,ae _⟩,xs,s.seq hx,rfl⟩,λi H x H' s hi y=>⟨y.1,y.2 xs (s.seq hx)⟩,λH s=>rfl⟩
theorem zF {α:Type}{J:It}{n:Nat}{it:Nat->V->Prop}{l:Addr}{g:TG}{tt:TT}{te:TE}{cap:List (Option Nat)}{σ:St}{Q:VK}{H1:Hp}(S:JS J n H1 it)(ds:List α)(p:α->Bool)(f:α->V)(hn:H1 l=none)(hlen:n=ds.length)(hz:n<sizeLine)
  (hs:∀ (i:Nat) x d H,it i x->ds[i]? = some d->fg H1 H->∀ (P1:VK) (P0:Hp->Prop),(p d=true->P1 (f d) H)->(p d=false->P0 H)->
   g x (jK cap σ) H λσ2 H2=>tt σ2 H2 λb H3=>if b=true then te σ2 H3 P1 else P0 H3)
  (hq:Q (.ref l) (upd H1 l (.lst ((ds.filter p).map f)))):LcW J g tt te cap σ Q l H1:=by
 refine⟨λi m acc H=>m=n-i/\i<=n/\acc=((ds.take i).filter p).map f/\H=upd H1 l (.lst acc),⟨n,by simp,aM _,rfl,rfl⟩,?_⟩
 rintro i m acc H ⟨rfl,hi,e1,e2⟩
 have sm:fg H1 H:=by rw[e2];exact eV hn
 by_cases hlt:i<n
 ·refine .inr ⟨S.go i H sm hlt,λrD H'=>rD=((ds.take (i+1)).filter p).map f/\H'=upd H1 l (.lst rD),λrD H' ⟨p1,p2⟩=>⟨n-(i+1),by omega,rfl,hlt,p1,p2⟩,λx H' y0=>?_⟩
  obtain⟨e,y⟩:=S.yld i H x H' sm hlt y0
  clear y0
  subst e
  have hd:ds[i]? = some (ds[i]'(by omega)):=by simp
  generalize ds[i]'(by omega)=d at hd
  have step:((ds.take (i+1)).filter p).map f=acc++(if p d=true then[f d]else[]):=by
   rw[take_succ_filter p ds i d hd,aw,e1]
   cases p d<;>rfl
  refine hs i x d H' y hd sm _ _ (λhp=>?_) (λhp=>?_)
  ·refine⟨by rw[e2,eW],?_,?_,?_⟩
   ·have h1:acc.length<=i:=by
     rw[e1,aa]
     exact bF (bH _ _) (by rw[bB];omega)
    omega
   ·rw[step,hp];rfl
   ·rw[e2,pL]
  ·refine⟨?_,e2⟩
   rw[step,hp,ax aW,bO]
 ·have e:i=n:=by omega
  subst e
  refine .inl ⟨S.stop H sm,?_⟩
  rw[hlen,bA]at e1
  rw[e2,e1]
  exact hq
abbrev Mv:=(Str×Int)×List Int
def dMv (m:Mv):PyData:=.tuple [.tuple [.str m.1.1,.int m.1.2],dI m.2]
def fr (l:Int×List (Int×Int))(ns:List Int)(e:Int):List Int:=(jn l.2 e).filter λt=> !decide (t/2∈ns.map (· / 2))
def onM (ns:List Int)(e:Int):Mv:=(("on",e),ns.drop 1 ++ [e])
def oD (ns:List Int)(e:Int):Mv:=(("back",e),oth e::ns.dropLast)
def mvs (l:Int×List (Int×Int))(ns:List Int):List Mv:=(fr l ns (oth (ns.getLastD 0))).map (onM ns)++(fr l ns (ns.headD 0)).map (oD ns)
def Lf (H H2:Hp)(t:Addr):Addr->List V->Prop:=λa us=>H2 a=some (.lst us)/\H a=none/\a≠t
theorem ki {K:PySem.W.Frag}{H:Hp}{t b:Addr}{vs xs:List V}{o:HO}(ht:H t=some (.lst vs))(h:SqT K H b xs):SqT K (upd H t o) b xs:=by
 rcases h with(h |⟨o,h⟩)|h
 ·exact .inl (.inl (by rw[fc (gL h ht (by intro z;cases z))];exact h))
 ·exact .inl (.inr ⟨o,by rw[fc (gL h ht (by intro z;cases z))];exact h⟩)
 ·exact .inr h
theorem Dgs.grow {K:PySem.W.Frag}{H H2 H5:Hp}{t:Addr}{o:HO}{vs:List V}{ds:List PyData}{us:List V}(D:Dgs (Lf H H2 t) (SqT K H2) ds us)(S5:fg H2 H5)(ht:H5 t=some (.lst vs)):
  Dgs (Lf H (upd H5 t o) t) (SqT K (upd H5 t o)) ds us:=
 Dgs.mono (λa us ⟨h1,h2,h3⟩=>⟨by rw[fc h3];exact S5 _ _ h1,h2,h3⟩) (λa us h=>ki ht (fX S5 h)) D
theorem mS {K:PySem.W.Frag}{H H2 H5:Hp}{t p1 p4 p5:Addr}{vs:List V}{ms:List Mv}{w:Str}{e:Int}{xs:List Int}(S:fg H H2)(hn:H t=none)(ht:H2 t=some (.lst vs))(D:Dgs (Lf H H2 t) (SqT K H2) (ms.map dMv) vs)
  (S5:fg H2 H5) (h1:H5 p1=some (.tup [.str w,.int e])) (n4:H2 p4=none) (h4:H5 p4=some (.lst (xs.map V.int))) (h5:H5 p5=some (.tup [.ref p1,.ref p4])):
  fg H (upd H5 t (.lst (vs ++ [.ref p5])))/\(upd H5 t (.lst (vs ++ [.ref p5]))) t=some (.lst (vs ++ [.ref p5]))/\
   Dgs (Lf H (upd H5 t (.lst (vs ++ [.ref p5]))) t) (SqT K (upd H5 t (.lst (vs ++ [.ref p5])))) ((ms ++ [((w,e),xs)]).map dMv) (vs ++ [.ref p5]):=by
 have ht5:=S5 _ _ ht
 have q4:p4≠t:=(eZ ht n4).symm
 refine⟨fg.upd (S.trans S5) hn,eW,?_⟩
 rw[aw]
 refine Dgs.append (D.grow S5 ht5) (Dgs.one ?_)
 refine hG.mpr ⟨p5,_,rfl,ki ht5 (SqT.of h5),Dgs.two ?_ ?_⟩
 ·exact hG.mpr ⟨p1,_,rfl,ki ht5 (SqT.of h1),Dgs.two (nL.mpr rfl) (iq.mpr rfl)⟩
 ·exact h7.mpr ⟨p4,_,rfl,⟨by rw[fc q4];exact h4,fg.free S n4,q4⟩,kO.mpr rfl⟩
def Ap (K:PySem.W.Frag)(H:Hp)(ms:List Mv)(Q:VK):Prop:=∀ (p:Addr) (vs:List V) (H':Hp),fg H H'->H p=none->H' p=some (.lst vs)->Dgs (Lf H H' p) (SqT K H') (ms.map dMv) vs->Q (.ref p) H'
theorem vp (ns:List Int):ou (ns.map V.int) (some 1) none=(ns.drop 1).map V.int:=by
 unfold ou
 rw[HT.uC]
 have e:HT.sIx (ns.map V.int).length 0 (some 1)=min 1 (ns.map V.int).length:=HT.AG _ _ 1
 rw[e,aa,eN]
 cases ns with
 |nil=>rfl
 |cons a r=>
  have e1:min 1 (a::r).length=1:=by simp
  rw[e1]
  simp
  exact bq (by simp)
theorem vq (ns:List Int):ou (ns.map V.int) none (some (-1))=ns.dropLast.map V.int:=by
 unfold ou
 have e:HT.sIx (ns.map V.int).length (ns.map V.int).length (some (-1))=ns.length-1:=by
  have h:=HT.Br (-1) (ns.map V.int).length (ns.map V.int).length
  rw[aa]at h ⊢
  rw[aH (by decide)]at h
  omega
 rw[e,HT.uC,List.drop_zero,Nat.sub_zero,<-List.map_take,List.dropLast_eq_take]
theorem pT {ns:List Int}(h:ns≠ []):atI (ns.map V.int) (-1)=some (V.int (ns.getLastD 0)):=by
 obtain⟨r,x,rfl⟩:∃ r x,ns=r ++ [x]:=⟨ns.dropLast,ns.getLast h,(cu h).symm⟩
 rw[aw]
 show atI (r.map V.int ++ [V.int x]) (-1)=_
 rw[Ai]
 have e:(r ++ [x]).getLastD 0=x:=by simp[cY]
 rw[e]
theorem vD {ns:List Int}(h:ns≠ []):atI (ns.map V.int) 0=some (V.int (ns.headD 0)):=by
 cases ns with
 |nil=>exact absurd rfl h
 |cons a r=>exact kr (j:=0) rfl
abbrev NoL:Addr->List V->Prop:=λ_ _=>False
abbrev Ps (K:PySem.W.Frag)(H:Hp)(js:List (Int×Int))(vs:List V):Prop:=Dgs NoL (SqT K H) (js.map dP) vs
theorem Ps.same {K:PySem.W.Frag}{H H':Hp}{js:List (Int×Int)}{vs:List V}(D:Ps K H js vs)(S:fg H H'):Ps K H' js vs:=Dgs.mono (λ_ _ h=>h) (λ_ _ h=>fX S h) D
theorem Ps.DH {K:PySem.W.Frag}{H:Hp}{js:List (Int×Int)}{vs us:List V}{t:Addr}{o:HO}(D:Ps K H js vs)(ht:H t=some (.lst us)):Ps K (upd H t o) js vs:=Dgs.mono (λ_ _ h=>h) (λ_ _ h=>ki ht h) D
theorem Ps.das {K:PySem.W.Frag}{H:Hp}{js:List (Int×Int)}{vs:List V}(D:Ps K H js vs):Das K H (js.map dP) vs:=Dgs.mono (λ_ _ h=>h.elim) (λ_ _ h=>h) D
theorem Ps.da {K:PySem.W.Frag}{H:Hp}{js:List (Int×Int)}{vs:List V}{t:Addr}(D:Ps K H js vs)(ht:H t=some (.lst vs)):Da K H (dJ js) (.ref t):=h7.mpr ⟨t,vs,rfl,SqL.of ht,D.das⟩
theorem Ps.len {K:PySem.W.Frag}{H:Hp}{js:List (Int×Int)}{vs:List V}(D:Ps K H js vs):vs.length=js.length:=by rw[D.length,aa]
theorem w4 {K:PySem.W.Frag}{H:Hp}{p:Addr}{x:Int×Int}(h:H p=some (.tup [.int x.1,.int x.2])):Dg NoL (SqT K H) (dP x) (.ref p):=hG.mpr ⟨p,_,rfl,SqT.of h,Dgs.two (iq.mpr rfl) (iq.mpr rfl)⟩
theorem Ps.push {K:PySem.W.Frag}{H:Hp}{js:List (Int×Int)}{vs:List V}{t p:Addr}{x:Int×Int}{o:HO}(D:Ps K H js vs)(ht:H t=some (.lst vs))(hp:H p=some (.tup [.int x.1,.int x.2])):Ps K (upd H t o) (js ++ [x]) (vs ++ [.ref p]):=by
 show Dgs _ _ ((js ++ [x]).map dP) _
 rw[aw]
 exact(D.DH ht).append (.one (Dg.mono (λ_ _ h=>h) (λ_ _ h=>ki ht h) (w4 hp)))
theorem Ps.ins {K:PySem.W.Frag}{H:Hp}{js:List (Int×Int)}{vs:List V}{t p:Addr}{x:Int×Int}{o:HO}(i:Nat)(D:Ps K H js vs)(ht:H t=some (.lst vs))(hp:H p=some (.tup [.int x.1,.int x.2])):Ps K (upd H t o) (js.take i++x::js.drop i) (vs.take i ++ .ref p::vs.drop i):=by
 show Dgs _ _ ((js.take i++x::js.drop i).map dP) _
 rw[aw,aS,List.map_take,eN]
 exact Dgs.insert i (D.DH ht) (Dg.mono (λ_ _ h=>h) (λ_ _ h=>ki ht h) (w4 hp))
theorem iW {K:PySem.W.Frag}{H:Hp}{l:Int×List (Int×Int)}{p t:Addr}(h:H p=some (.tup [.int l.1,.ref t]))(hd:Da K H (dJ l.2) (.ref t)):Da K H (dL l) (.ref p):=hG.mpr ⟨p,_,rfl,SqT.of h,Dgs.two (iq.mpr rfl) hd⟩
theorem uI {α:Type}(l:List α)(i:Nat)(x:α):(l.take i++x::l.drop i).Perm (x::l):=by
 have h:=List.perm_middle (a:=x) (l₁:=l.take i) (l₂:=l.drop i)
 rw[cL]at h
 exact h
theorem tM (i j:Int):(if j<i then j else i)=min i j:=by omega
theorem tN (i j:Int):(if j>i then j else i)=max i j:=by omega
theorem wx {ns:List Int}{i:Int}(h0:0<=i)(h1:i<ns.length):∃ x,ns[i.toNat]? = some x/\x∈ns/\atI (ns.map V.int) i=some (V.int x):=by
 have hlt:i.toNat<ns.length:=by omega
 refine⟨ns[i.toNat],by simp,eS _,?_⟩
 have h:=kr (xs:=ns.map V.int) (j:=i.toNat) (v:=V.int ns[i.toNat]) (by rw[aj];simp)
 have e1:((i.toNat:Nat):Int)=i:=by omega
 rw[e1]at h
 exact h
end TL
namespace L2
open PySem PySem.Spec PySem.Calls PyProof.Rows PySem.W
section
variable {prog:Program}{w:World}{A:Around}{E:Value->Shared->Prop}{s:Shared}{K:Frag}{a C:Addr}{o:Obj}
theorem xty {M:Model}{h:Heap}(hx:h.get? a=some o)(hc:o.cls = .ref C):Looks M h (typeOf (.ref a)) (.ref C):=hc ▸ (Looks.ld hx).andThen .now
open Builtin Builtin.ObjectAttr Builtin.Getset_descriptor in
theorem Av {R:Result->Shared->Prop}{tp:Value}(X:K.In s.heap)(hx:s.heap.get? a=some o)(hc:o.cls = .ref C)(hm:mroIn K C (.type "object")=some true)
  (h:R (.ok (.ret (.ref C))) s):codeAny (model prog w) A (.call (.builtin "getset_descriptor.__get__") ⟨[.builtin "object.__class__",.ref a,tp],[]⟩) R s:=by
 obtain⟨hh,g,dr,t,os⟩:=s
 have L0:=xty (M:=model prog w) hx hc
 have L1:=looks_mroIn (M:=model prog w) X hm
 refine codeAny_call_builtin KF.slot_gs.plain KF.entry_gs (KF.slot_gs.check _ _ _ _ _ _ _ _ KF.type_class (KF.args_gs _ _ _) ?_)
 unfold Builtin.«getset_descriptor.__get__» descrGet
 rw[dga_obj]
 refine ak (aD ?_)
 unfold descrGetter descrCheckInstance descrNameAndClass isInstance
 simp only[KF.owner_class]
 repeat lk
 refine⟨Code.quiet_builtin _ (by decide +kernel),codeAny_builtin KF.entry_class ?_⟩
 unfold Builtin.«object.__class__» shownTypeOf
 repeat lk
 exact h
theorem xA {tk:Tok}{Q:PySem.Fin->Shared->Prop}(X:K.In s.heap)(hx:s.heap.get? a=some o)(hc:o.cls = .ref C)(hm:mroIn K C (.type "object")=some true)
  (ha:findIn K (.ref C) "__class__" = some (some (.builtin "object.__class__"))) (hq:Q (.done (.ret (.ref C))) s):
  wpAny (model prog w) A (Builtin.«object.__getattribute__» ⟨[.ref a,.str "__class__" tk],[]⟩) Q E s:=by
 obtain⟨h,g,d,t,os⟩:=s
 have hT5:(⟨h,g,d,t,os⟩:Shared).TypeIs (.builtin "object.__class__") "getset_descriptor" :=F.typeOf_object_class
 have L0:=xty (M:=model prog w) hx hc
 have L1:=looks_findIn (M:=model prog w) X ha
 have f5:=F.typeOf_object_class
 have f6:=F.slot_gs_get.lookup
 have f7:=F.slot_gs_set.lookup
 repeat (any_goals (first |assumption |with_reducible refine L0.at ?_ |with_reducible refine L1.at ?_ |(with_reducible refine wpAny_loadPart_at hx ?_;rw[hc])|wp_step))
 refine Av (K:=K) X hx hc hm ?_
 repeat (any_goals (first |assumption |wp_step))
theorem xB {M:Model}{BC:Value}{Q:Unit->Shared->Prop}(X:K.In s.heap)(hx:s.heap.get? a=some o)(hc:o.cls = .ref C)(hb:mroIn K C (.type "BaseException")=some true)(hq:Q () s):
  wpAny M A (checkBuiltinCall "BaseException.__getattribute__" ⟨[.ref a,BC],[]⟩) Q E s:=by
 obtain⟨h,g,d,t,os⟩:=s
 have hk:builtinKind "BaseException.__getattribute__" = some .slot:=by decide +kernel
 have CU:splitId "BaseException.__getattribute__" = some ("BaseException","__getattribute__"):=by decide +kernel
 have ha:=F.args_bexc_ga (.ref a) BC
 have L0:=xty (M:=M) hx hc
 have L1:=looks_mroIn (M:=M) X hb
 simp only[checkBuiltinCall,hk,CU]
 refine ak ?_
 ·unfold isInstance
  repeat (first |with_reducible refine L0.at ?_ |with_reducible refine L1.at ?_ |wp_step)
  exact hq
theorem yC {tk:Tok}{R:Result->Shared->Prop}(X:K.In s.heap)(hx:s.heap.get? a=some o)(hc:o.cls = .ref C)(hm:mroIn K C (.type "object")=some true)(hb:mroIn K C (.type "BaseException")=some true)
  (ha:findIn K (.ref C) "__class__" = some (some (.builtin "object.__class__"))) (hq:R (.ok (.ret (.ref C))) s):
  codeAny (model prog w) A (.call (.builtin "BaseException.__getattribute__") ⟨[.ref a,.str "__class__" tk],[]⟩) R s:=
 codeAny_call_builtin (by decide +kernel) F.entry_bexc_ga (xB X hx hc hb (xA X hx hc hm ha hq))
theorem BS {tk:Tok}{Q:Value->Shared->Prop}(X:K.In s.heap)(hx:s.heap.get? a=some o)(hc:o.cls = .ref C)(hm:mroIn K C (.type "object")=some true)(hb:mroIn K C (.type "BaseException")=some true)
  (ha:findIn K (.ref C) "__class__" = some (some (.builtin "object.__class__"))) (hg:findIn K (.ref C) "__getattribute__" = some (some (.builtin "BaseException.__getattribute__"))) (hn:findIn K (.ref C) "__getattr__" = some none)
  (hq:Q (.ref C) s):wpAny (model prog w) A (getAttrBy (.ref a) (.str "__class__" tk) false) Q E s:=by
 have X':=X
 have hx':=hx
 obtain⟨h,g,d,t,os⟩:=s
 have f3:=PySem.F.attr_ValueError.ga.bind (.ref a)
 have hx2:(Value.builtin "BaseException.__getattribute__" == Value.builtin "object.__getattribute__")=false:=by decide +kernel
 have hx1:(onTheHeap (Value.ref C)&&Value.builtin "BaseException.__getattribute__" == Value.builtin "object.__getattribute__")=false:=by rw[hx2];rfl
 have L0:=xty (M:=model prog w) hx hc
 have L1:=looks_findIn (M:=model prog w) X hg
 have L2:=looks_findIn (M:=model prog w) X hn
 repeat (any_goals (first |assumption |with_reducible refine L0.at ?_ |with_reducible refine L1.at ?_ |with_reducible refine L2.at ?_ |wp_step))
 refine yC (K:=K) X' hx' hc hm hb ha ?_
 repeat (any_goals (first |assumption |wp_step))
theorem yD {Q:Option Value->Shared->Prop}(X:K.In s.heap)(hx:s.heap.get? a=some o)(hc:o.cls = .ref C)(hm:mroIn K C (.type "object")=some true)(hb:mroIn K C (.type "BaseException")=some true)
  (ha:findIn K (.ref C) "__class__" = some (some (.builtin "object.__class__"))) (hg:findIn K (.ref C) "__getattribute__" = some (some (.builtin "BaseException.__getattribute__"))) (hn:findIn K (.ref C) "__getattr__" = some none)
  (hq:Q (some (.ref C)) {s with toks:=s.toks+1}):wpAny (model prog w) A (getAttr? (.ref a) "__class__") Q E s:=by
 have X':=X
 have hx':=hx
 obtain⟨h,g,d,t,os⟩:=s
 unfold getAttr? getAttrBy?
 repeat (any_goals (first |assumption |with_reducible apply BS (K:=K) (s:=⟨h,g,d,t+1,os⟩) X' hx' hc hm hb ha hg hn |wp_step))
structure ExC (K:Frag)(C:Addr):Prop where
 obj:mroIn K C (.type "object")=some true
 bex:mroIn K C (.type "BaseException")=some true
 cls:findIn K (.ref C) "__class__" = some (some (.builtin "object.__class__"))
 ga:findIn K (.ref C) "__getattribute__" = some (some (.builtin "BaseException.__getattribute__"))
 gn:findIn K (.ref C) "__getattr__" = some none
 isc:(clsIn K C).isSome=true
def XAt (a:Addr)(C:Addr)(h:Heap):Prop:=∃ o,h.get? a=some o/\o.cls = .ref C
theorem zH (e:ExC K C):KitX K (.ref a) (.ref C) (XAt a C) where
 ty:=λ_ _ _ ⟨_,h1,h2⟩=>xty h1 h2
 it:=λ_ _ X _=>by
  have hC:=e.isc
  unfold clsIn at hC
  split at hC
  ·rename_i c' d' cd' sl' ho
   intro A' Q' E' s' k q
   unfold isType loadHead
   exact ak (wpAny_loadPart (k _ _ (X _ _ ho)) (aD q))
  ·cases hC
 ne:=λh tp dd its n sl X htp=>by
  have hC:=e.isc
  refine Bool.eq_false_iff.mpr λq=>?_
  have e':C=tp:=Value.ref.inj (beq_iff_eq.mp q)
  subst e'
  unfold clsIn at hC
  split at hC
  ·rename_i c' d' cd' sl' ho
   have z:=(X _ _ ho).symm.trans htp
   cases z
  ·cases hC
 ca:=λX ⟨_,h1,h2⟩ k=>yD X h1 h2 e.obj e.bex e.cls e.ga e.gn k
end
section
variable {P:Program}{w:World}{H H1:Hp}{h:Heap}{a:Addr}{o:HO}
theorem gO.some (x:gO P w H h a o):∃ u,h.get? a=Option.some u:=by
 cases o with
 |lst xs=>obtain⟨_,_,_,_,e⟩:=x;exact⟨_,e⟩
 |tup xs=>obtain⟨_,_,_,p⟩:=x;obtain⟨u,e,_⟩:=p;exact⟨u,e⟩
 |dK kvs=>obtain⟨_,_,_,_,o,_,_,e,_⟩:=x;exact⟨_,e⟩
 |dT kvs=>obtain⟨_,_,_,_,o,_,_,e,_⟩:=x;exact⟨_,e⟩
 |set S n=>obtain⟨o,_,_,_,e,_⟩:=x;exact⟨_,e⟩
 |ins C dx fs=>obtain⟨_,_,_,e,_⟩:=x;exact⟨_,e⟩
 |own y=>obtain⟨_,e⟩:=x;exact⟨_,e⟩
 |xd fs=>obtain⟨_,⟨_,_,_,e,_⟩,_⟩:=x;exact⟨_,e⟩
 |rng lo hi=>obtain⟨_,_,_,e⟩:=x;exact⟨_,e⟩
 |frz ob u=>obtain⟨e,_⟩:=x;exact⟨_,e⟩
 |tbl ps=>exact⟨_,(show h.get? a=Option.some _ from x)⟩
 |met f y=>exact⟨_,(show h.get? a=Option.some _ from x)⟩
 |ext φ=>obtain⟨_,⟨_,e⟩,_⟩:=x;exact⟨_,e⟩
theorem HOk.none_of (x:HOk P w H h)(e:h.get? a=Option.none):H a=Option.none:=by
 cases q:H a with
 |none=>rfl
 |some u=>obtain⟨v,z⟩:=(x a u q).some;rw[e]at z;cases z
end
structure Fl0 (P:Program)(w:World)(base:Heap)(l:List Env)(H H1:Hp)(h0 B h:Heap):Prop where
 bas:base.StaysIn B
 hok:HOk P w H1 B
 kp:∀ b o,h0.get? b=some o->H b=none->b∉frs l->B.get? b=some o
 thr:∀ b o,h0.get? b=some o->b∉frs l->∃ o',B.get? b=some o'
 un:Un (frs l) [] H H1 h0 h
theorem Fl0.step {P:Program}{w:World}{base:Heap}{l:List Env}{H H1:Hp}{h0 B h h':Heap}(x:Fl0 P w base l H H1 h0 B h)(st:B.StaysIn h')(ff:h.FunFrames B l)(ff':h'.FunFrames B l)(sm:h.UpToSlots h'):
  Fl0 P w base l H H1 h0 B h':=by
 refine⟨x.bas,x.hok,x.kp,x.thr,⟨λb o q n hb _=>st b o (x.kp b o q n hb),λb o q n hb _=>?_,x.un.free,λb o q _=>?_,x.un.nD,x.un.l0,x.un.nE⟩⟩
 ·obtain⟨sl,e⟩:=x.un.slot b o q n hb (by simp)
  obtain⟨_,o2,e2,nf⟩:=ff.mem hb
  rw[e]at e2;cases e2
  obtain⟨sl',e'⟩:=sm b _ e nf
  exact⟨sl',e'⟩
 ·by_cases hb:b∈frs l
  ·obtain⟨_,o2,e2,_⟩:=ff'.mem hb
   exact⟨o2,e2⟩
  ·obtain⟨o',e⟩:=x.thr b o q hb
   exact⟨o',st b o' e⟩
structure Fl (P:Program)(w:World)(base:Heap)(l:List Env)(H H1:Hp)(h0:Heap)(e C:Addr)(B h:Heap):Prop extends Fl0 P w base l H H1 h0 B h where
 fly:∃ a0,Heap.FlyingW B l e (.ref C) a0 h
def CXr (P:Program)(w:World)(base:Heap):CXT:=λl H s E ev s'=>
 ∃ e C H1 B,ev = .ref e/\s'.os=s.os/\AllBare s'.gens/\Fl P w base l H H1 s.heap e C B s'.heap/\E (.ref C) (some e) H1
section
variable {X:Cx}{pins:List (Addr×Obj)}{σ:St}{H H1:Hp}{s s':Shared}{e C:Addr}{B:Heap}
theorem Fl.inv (x:Fl X.prog X.w X.base X.stack H H1 s.heap e C B s'.heap)(I:Inv X pins σ H s)(ho:s'.os=s.os)(hg:AllBare s'.gens):Inv X pins σ H1 s':=by
 obtain⟨a0,f⟩:=x.fly
 exact I.BP (ch:=[]) ho x.un (x.hok.kept f.1) hg (λb z=>absurd z (by simp))
theorem yV {M:Model}{E:Value->Shared->Prop}{Q:Unit->Shared->Prop}{h':Heap}{vs:List Value}(I:Inv X pins σ H s)(hst:X.stack=X.env::X.outer)(hf:X.env.frame=some X.env.locals)(hex:X.ex = [])
  (hx:Heap.MadeExcOf s.heap h' e (.ref C) vs) (hQ:∀ B h'',Fl X.prog X.w X.base X.outer X.H₀ H X.s₀.heap e C B h''->Q () {s with heap:=h''}):
  wpAny M X.A (leaving X.env (.ref e)) Q E {s with heap:=h'} :=by
 have hfr:=I.ok.frames
 rw[hst]at hfr
 have A7:=I.stack
 rw[hst]at A7
 have hin:∀ env∈(X.env::X.outer),∀ b,env.frame=some b->b∈frs (X.env::X.outer):=λenv he b hb=>List.mem_filterMap.mpr ⟨env,he,hb⟩
 have nb:∀ b,b≠X.env.locals->b∉X.fs->b∉frs (X.env::X.outer):=λb h1 h2 hb=>by
  unfold frs at hb
  rw[dZ,hf]at hb
  rcases aO.mp hb with z |z
  ·exact h1 z
  ·exact h2 z
 have neL:∀ b o,X.s₀.heap.get? b=some o->b≠X.env.locals:=λb o e=>bw (aU (aK e) I.ok.above)
 refine wpAny_leaves_madeW (base:=hideAll s.heap (frs (X.env::X.outer))) hfr hf (λb o q=>of_hideAll _ q) (funFrames_hide A7 hin) hx λh'' t x1 x2 x3 x4=>?_
 have hok:HOk X.prog X.w H (hideAll s.heap (frs (X.env::X.outer))):=λb u q=>by
  refine(I.hok b u q).oK (λc v hc z=>hideAll_get _ z λhm=>?_) (λ_ z=>z) λ_ _ z=>z
  have hn:H c=none:=I.sM c (by rw[hst];exact hm)
  rcases hc with rfl |hc
  ·rw[hn]at q;cases q
  ·rw[hn]at hc;cases hc
 have z0:Fl0 X.prog X.w X.base X.outer X.H₀ H X.s₀.heap (hideAll s.heap (frs (X.env::X.outer))) h':=by
  have ub:Un X.fs [] X.H₀ H X.s₀.heap s.heap:=by have:=I.base;rw[hex]at this;exact this
  refine⟨λb o q=>hideAll_get _ (I.bk b o q) λhm=>?_,hok,λb o q n hb=>hideAll_get _ (ub.keep b o q n hb (by simp)) (nb b (neL b o q) hb),λb o q hb=>?_,ub.trans (Un.kept hx.keeps)⟩
  ·have:=(A7.mem hm).1
   rw[q]at this;cases this
  ·obtain⟨o',e1⟩:=ub.there b o q (by simp)
   exact⟨o',hideAll_get _ e1 (nb b (neL b o q) hb)⟩
 have ff:h'.FunFrames (hideAll s.heap (frs (X.env::X.outer))) X.outer:=by
  obtain⟨_,_,z⟩:=(funFrames_hide A7 hin).of_keeps λb o hb _=>⟨o,hx.keeps b o hb,rfl⟩
  exact z
 exact hQ _ h'' ⟨z0.step x1.1 ff x1.2.2.1 x4,_,x1⟩
theorem AU {M:Model}{E:Value->Shared->Prop}{Q:Unit->Shared->Prop}(I:Inv X pins σ H s)(hst:X.stack=X.env::X.outer)(hf:X.env.frame=some X.env.locals)(hex:X.ex = [])
  (ho:s'.os=s.os) (hg:AllBare s'.gens) (x:Fl X.prog X.w X.base X.stack H H1 s.heap e C B s'.heap) (hQ:∀ B h'',Fl X.prog X.w X.base X.outer X.H₀ H1 X.s₀.heap e C B h''->Q () {s' with heap:=h''}):
  wpAny M X.A (leaving X.env (.ref e)) Q E s':=by
 have J:=x.inv I ho hg
 have hfr:=I.ok.frames
 obtain⟨a0,f⟩:=x.fly
 have nb:∀ b,b≠X.env.locals->b∉X.fs->b∉frs X.stack:=λb h1 h2 hb=>(aO.mp (I.oJ b hb)).elim h1 h2
 have neL:∀ b o,X.s₀.heap.get? b=some o->b≠X.env.locals:=λb o e=>bw (aU (aK e) I.ok.above)
 rw[hst]at hfr f
 have ub:Un X.fs [] X.H₀ H X.s₀.heap s.heap:=by have:=I.base;rw[hex]at this;exact this
 have uj:Un X.fs [] X.H₀ H1 X.s₀.heap s'.heap:=by have:=J.base;rw[hex]at this;exact this
 have z0:Fl0 X.prog X.w X.base X.outer X.H₀ H1 X.s₀.heap B s'.heap:=by
  refine⟨x.bas,x.hok,λb o q n hb=>x.kp b o (ub.keep b o q n hb (by simp)) (ub.free b o q n (by simp)) (nb b (neL b o q) hb),λb o q hb=>?_,uj⟩
  obtain⟨o',e1⟩:=ub.there b o q (by simp)
  exact x.thr b o' e1 (nb b (neL b o q) hb)
 have ff:s'.heap.FunFrames B X.outer:=f.2.2.1.2.2
 exact wpAny_leaves_onW hfr hf f λh'' x1 x2=>hQ B h'' ⟨z0.step x1.1 ff x1.2.2.1 x2,a0,x1⟩
end
section
variable {P:Program}{w:World}{K:PySem.W.Frag}{mg:Str->Option Value}{base:Heap}{N:List Str}{qual:Str}{scope:Scope}{f:Addr}{cd:Value}{A:Around}{outer:List Env}{s₀:Shared}{H₀:Hp}{E:XK}
def Raises (X:Cx)(E:XK):Prop:=∀ (pins:List (Addr×Obj)) (σ:St) (H:Hp) (s:Shared) (h':Heap) (e C:Addr) (vs:List Value),Inv X pins σ H s->Heap.MadeExcOf s.heap h' e (.ref C) vs->E (.ref C) (some e) H->X.xe (.ref e) {s with heap:=h'}
theorem rW:Raises (t6 (CXr P w base) P w K mg base N qual scope f cd A outer s₀ H₀ E) E:=λpins σ H s h' e C vs I hx q=>
 yV I rfl rfl rfl hx λB h'' z=>⟨e,C,H,B,rfl,I.os,I.bare,z,q⟩
theorem mT:Passes (CXr P w base) (t6 (CXr P w base) P w K mg base N qual scope f cd A outer s₀ H₀ E) E:=λpins σ H s e s' I hx=>by
 obtain⟨a,C,H1,B,rfl,ho,hg,z,q⟩:=hx
 exact AU I rfl rfl rfl ho hg z λB' h'' z'=>⟨a,C,H1,B',rfl,ho.trans I.os,hg,z',q⟩
end
theorem Bd {K:Frag}{h:Heap}{C:Addr}{bmB:List Value}{newId:String}(X:K.In h)(q:excIn K C bmB newId=true):
  ∃ bm N nm qn bs hdct sn sub ab col dd k0 k1 k2 k3 k5 mN,h.get? C=some (excClassObj nm qn C N bs bm hdct sn sub ab col dd k0 k1 k2 k3 k5 newId)/\h.Ns N mN/\mN "__init__" = none/\OwnTail h bmB bm:=by
 unfold excIn at q
 split at q
 ·rename_i d1 c1 l1 lk
  split at q
  ·rename_i D1 tl j0 j1 j2 j3 nn j5 e1 e2
   simp only[dN,beq_iff_eq,Bool.not_eq_true']at q
   obtain⟨⟨⟨⟨⟨q1,q2⟩,q3⟩,q4⟩,q5⟩,q6⟩:=q
   subst q1 q2
   cases c1
   dsimp only at e1 q3 q5 q6
   subst e1 q3
   cases l1
   dsimp only at e2
   subst e2
   exact⟨tl,_,_,_,_,_,_,_,_,_,d1,j0,j1,j2,j3,j5,_,X _ _ lk,.of_isNs (isNs_of_in X q5),nsMap_none_of_in X q5 q6,tail_of_in X q4⟩
  ·cases q
 ·cases q
section
variable {X:Cx}{E:XK}{x:Str}{np lI pos:Pos}{C:Addr}{bmB:List Value}{Bn newId CN:String}{e₀:Expr}{rest:List Expr}{ta:TA}
def BY (C:Addr)(E:XK)(ta:TA):TS:=λ_ σ H=>ta σ H λvs H1=>vs.length<=sizeLine/\∀ e,H1 e=none->E (.ref C) (some e) H1
theorem uH (hR:Raises X E)(hc:X.calm=true)(hg:Gl X x)(hm:X.mg x=some (.ref C))(q:excIn X.K C bmB newId=true)(FB:ExcBaseFacts Bn newId CN bmB)(ha:PA X (e₀::rest) ta)
  (he:starEach (e₀::rest) X.env=(false,eval e₀ X.env)::starEach rest X.env:=by rfl) (hpl:(backTo lI (starEach rest X.env)).any (·.1)=false:=by rfl) (hd:(x==("__debug__" :Str))=false:=by decide):
  PS X (.Raise (some (.Call (.Name x np) (e₀::rest) [] lI)) none pos) (BY C E ta):=by
 intro pins s σ H D I h
 obtain⟨tl,N,nm,qn,bs,hdct,sn,sub,ab,col,dd,k0,k1,k2,k3,k5,mN,hC,hN,hni,T⟩:=Bd I.mod.kin q
 refine wpAny_Raise_call_subT (C:=C) (nm:=nm) (q:=qn) (N:=N) (bs:=bs) (bm:=tl) (hdct:=hdct) (sn:=sn) (sub:=sub) (ab:=ab) (col:=col) (dd:=dd) (k0:=k0) (k1:=k1) (k2:=k2) (k3:=k3) (k5:=k5)
  FB (mN:=mN) (T.hasType FB.hasBase) (I.ok.hd hc) (by rw[he];show(false||(backTo lI (starEach rest X.env)).any (·.1))=false;rw[hpl];rfl) hni (mW I hg hm ⟨rfl,?_⟩ hd)
 have h2:=ha lI pins s σ H _ I h
 rw[he]at h2 ⊢
 exact Calls.evalArgs_plain (bQ h2 (λus s1 ⟨vs,H1,I1,r,z1,z2⟩=>⟨rfl,r.length ▸ z1,I1.bk _ _ hC,hN.keeps I1.bk,T.keeps I1.bk,λh' e hx=>hR pins σ H1 s1 h' e C us I1 hx (z2 e (I1.hok.none_of hx.new))⟩) λ_ _ y=>y)
end
def wo (e C:Addr):HO:=.ext (XAt e C)
theorem Be {P:Program}{w:World}{H:Hp}{h:Heap}{e C:Addr}{o:Obj}(ho:h.get? e=some o)(hc:o.cls = .ref C):gO P w H h e (wo e C):=
 ⟨⟨o,ho,hc⟩,⟨o,ho⟩,λh1 h2 ⟨o',e1,e2⟩ k=>⟨o',k o' e1,e2⟩⟩
section
variable {X:Cx}{pins:List (Addr×Obj)}{σ:St}{H H1:Hp}{s s':Shared}{e C:Addr}{B:Heap}
theorem Inv.DK {u:HO}(I:Inv X pins σ H s)(hn:H e=none)(h0:X.s₀.heap.get? e=none)(ho:gO X.prog X.w (upd H e u) s.heap e u)(nl:e≠X.env.locals)(nc:∀ x c,X.env.cells.lookup x=some c->c≠e)
  (np:∀ p∈X.pn++pins,p.1≠e):Inv X pins σ (upd H e u) s:=by
 have ne0:∀ b o,X.s₀.heap.get? b=some o->b≠e:=λb o q z=>by rw[z,h0]at q;cases q
 have neT:∀ b v,H b=some v->b≠e:=λb v q z=>by rw[z,hn]at q;cases q
 refine⟨I.ok,I.os,I.bare,⟨I.base.keep,I.base.slot,λb o q n hx=>?_,I.base.there,λb xs q=>?_,λb o v q=>?_,λb ps q=>?_⟩,I.loc,I.cell,?_,λx c q=>?_,λp hp=>?_,λb v q=>?_,I.len⟩
 ·rw[fc (ne0 b o q)];exact I.base.free b o q n hx
 ·have z:=I.base.nD b xs q;rw[fc (neT _ _ z)];exact z
 ·have z:=I.base.l0 b o v q;rw[fc (neT _ _ z)];exact z
 ·obtain⟨m,z⟩:=I.base.nE b ps q;exact⟨m,by rw[fc (neT _ _ z)];exact z⟩
 ·rw[fc (bZ nl)];exact I.free
 ·rw[fc (nc x c q)];exact I.je x c q
 ·obtain⟨z1,z2,z3⟩:=I.pin p hp
  exact⟨z1,by rw[fc (np p hp)];exact z2,z3⟩
 ·by_cases hb:b=e
  ·subst hb;rw[eW]at q;cases q;exact ho
  ·rw[fc hb]at q
   exact(I.hok b v q).oK (λ_ _ _ z=>z) (λc z=>by rw[fc (neT _ _ z)];exact z) λc xs z=>by rw[fc (neT _ _ z)];exact z
theorem Fl.kept (x:Fl X.prog X.w X.base X.stack H H1 s.heap e C B s'.heap)(I:Inv X pins σ H s)(hex:X.ex = [])(ho:s'.os=s.os)(hg:AllBare s'.gens):Inv X pins σ (upd H1 e (wo e C)) s':=by
 have J:=x.inv I ho hg
 obtain⟨a0,f⟩:=x.fly
 obtain⟨oe,vs,he,hc,hd,_⟩:=f.first
 have nB:B.get? e=none:=f.2.1
 have nfr:e∉frs X.stack:=λhm=>by
  obtain⟨_,o,z,nf⟩:=f.2.2.1.mem hm
  rw[he]at z;cases z;exact nf vs hd
 refine J.DK (x.hok.none_of nB) ?_ (Be he hc) ?_ (λy c q z=>?_) λp hp z=>?_
 ·cases q:X.s₀.heap.get? e with
  |none=>rfl
  |some o=>
   obtain⟨o',z⟩:=I.base.there e o q (by rw[hex];simp)
   obtain⟨o2,z2⟩:=x.thr e o' z nfr
   rw[nB]at z2;cases z2
 ·rintro rfl
  obtain⟨m,⟨o,es,ep,z,hd',_⟩,_⟩:=J.loc
  rw[he]at z;cases z;rw[hd]at hd';cases hd'
 ·subst z
  obtain⟨v,o,z,hd'⟩:=J.cell y _ q
  rw[he]at z;cases z;rw[hd]at hd';cases hd'
 ·obtain⟨z1,z2,z3,z4,_⟩:=I.pin p hp
  have z5:=x.kp p.1 p.2 z1 z2 λhm=>(aO.mp (I.oJ _ hm)).elim z3 z4
  rw[z,nB]at z5;cases z5
abbrev Cx.mz (X:Cx)(e:Addr):Cx:={X with A:=X.A.mark (some (.ref e)),calm:=false,xe:=λ_ _=>False}
theorem Inv.mz (I:Inv X pins σ H s)(e:Addr):Inv (X.mz e) pins σ H s:=
 ⟨⟨I.ok.mod,I.ok.kind,I.ok.glob,I.ok.blt,I.ok.above,I.ok.inj,I.ok.has,I.ok.cab,(λz=>nomatch z),I.ok.frames,I.ok.stk,I.ok.exf,I.ok.bs,I.ok.bsz,I.ok.vW,I.ok.yp,I.ok.oV,I.ok.frf⟩,I.os,I.bare,I.base,I.loc,I.cell,I.free,I.je,I.pin,I.hok,I.len⟩
theorem Inv.uncaught (I:Inv (X.mz e) pins σ H s)(ok:X.Ok):Inv X pins σ H s:=⟨ok,I.os,I.bare,I.base,I.loc,I.cell,I.free,I.je,I.pin,I.hok,I.len⟩
theorem name_goes {M:Model}{A:Around}{E:Value->Shared->Prop}{j:Nat}{n:Str}{pos:Pos}{Q:Unit->Shared->Prop}(I:Inv X pins σ H s)(hN:X.N.Nodup)(hj:X.N[j]? = some n)(hk:X.env.scope.names.lookup n=some .local)
  (h:∀ s',Inv X pins (σ.set j none) H s'->Q () s'):wpAny M A (do bindName X.env n .none;unbindBehindTheSuite X.env n pos) Q E s:=by
 obtain⟨m,hn,hl⟩:=id I.loc
 have Df:(X.env.scope.kind == .class||(X.env.scope.kind == .module&&X.env.locals !=X.env.globals))=false:=by rw[I.ok.kind];rfl
 have hjσ:j<σ.length:=by rw[I.len];exact(af.mp hj).1
 refine wpAny_nameGoes_keeps hk hn Df λh' v hn' hs=>h _ ?_
 have ne0:∀ b o,X.s₀.heap.get? b=some o->h'.get? b=s.heap.get? b:=λb o e=>hs.2 b (bw (aU (aK e) I.ok.above))
 refine⟨I.ok,I.os,I.bare,⟨λb o e n hb hx=>(ne0 b o e).trans (I.base.keep b o e n hb hx),λb o e n hb hx=>?_,I.base.free,λb o e hx=>?_,I.base.nD,I.base.l0,I.base.nE⟩,⟨_,hn',λi y v' e1 e2 e3=>?_⟩,
  λy c e=>?_,I.free,I.je,λp hp=>?_,λb u e=>?_,by simpa using I.len⟩
 ·obtain⟨sl,z⟩:=I.base.slot b o e n hb hx
  exact⟨sl,(ne0 b o e).trans z⟩
 ·obtain⟨o',z⟩:=I.base.there b o e hx
  exact⟨o',(ne0 b o e).trans z⟩
 ·have hij:i≠j:=λz=>by subst z;rw[List.getElem?_set_self hjσ]at e2;cases e2
  rw[dS (bZ hij)]at e2
  obtain⟨u',r',z⟩:=hl i y v' e1 e2 e3
  have ny:y≠n:=λz=>hij (qC hN e1 (z ▸ hj))
  refine⟨u',r',?_⟩
  rcases z with⟨k,z⟩|⟨k,c,z1,z2⟩
  ·exact .inl ⟨k,by show(if y=n then v else m y)=_;rw[ax ny];exact z⟩
  ·exact .inr ⟨k,c,z1,z2.sameBut hs (I.cne y c z1)⟩
 ·obtain⟨v',z⟩:=I.cell y c e
  exact⟨v',z.sameBut hs (I.cne y c e)⟩
 ·obtain⟨z1,z2,z3,z4,z5⟩:=I.pin p hp
  exact⟨(hs.2 p.1 z3).trans z1,z2,z3,z4,z5⟩
 ·refine(I.hok b u e).oK (λc v hc q=>(hs.2 c ?_).trans q) (λ_ q=>q) λ_ _ q=>q
  rintro rfl
  rcases hc with rfl |hc
  ·rw[I.free]at e;cases e
  ·rw[I.free]at hc;cases hc
end
theorem BR {M:Model}{A:Around}{E:Value->Shared->Prop}{K:Frag}{s:Shared}{e C D:Addr}{oe:Obj}{Q:Bool->Shared->Prop}(X:K.In s.heap)(he:s.heap.get? e=some oe)(hc:oe.cls = .ref C)
  (hty:typeIn K (.ref D)=some (.type "type")) (Dc:(clsIn K D).isSome=true) (hb:mroIn K D (.type "BaseException")=some true) (hm:mroIn K C (.ref D)=some true) (hq:Q true s):
  wpAny M A (excMatches (.ref e) (.ref D)) Q E s:=by
 obtain⟨h,g,d,t,os⟩:=s
 have L0:=xty (M:=M) he hc
 have L1:=looks_mroIn (M:=M) X hb
 have L2:=looks_mroIn (M:=M) X hm
 have L3:=looks_typeIn (M:=M) X hty
 have f:=tc_notTuple
 unfold clsIn at Dc
 split at Dc
 ·rename_i c' d' cd' sl' ho
  have hD:=X _ _ ho
  unfold excMatches
  repeat (first |with_reducible refine L0.at ?_ |with_reducible refine L3.at ?_ |with_reducible refine L1.at ?_ |with_reducible refine L2.at ?_ |with_reducible refine wpAny_loadPart_at hD ?_ |wp_step)
  exact hq
 ·cases Dc
def xw (CX:CXT)(X:Cx)(E:St->XK):Prop:=∀ (pins:List (Addr×Obj)) (σ:St) (H:Hp) (s:Shared) (e:Value) (s':Shared),Inv X pins σ H s->CX X.stack H s (E σ) e s'->X.xe e s'
def B5 (sp:Sp)(dvs:List V)(E:St->XK)(t:TA):TE:=λσ H Q=>t σ H λvs H1=>sp (vs++dvs) H1 Q (E σ)
section
variable {X:Cx}{CX:CXT}{k:Nat}{f:Addr}{fd:FuncData}{ps:List Str}{sp:Sp}{dvs:List V}{ds:List Value}{E:St->XK}{x:Str}{p pos:Pos}{e:Expr}{es:List Expr}{t:TA}
theorem zc (F:fG X.prog X.w X.K X.mg X.base CX k f fd ps sp)(hr:kS k X.A)(hg:Gl X x)(hm:X.mg x=some (.ref f))(hk:PySem.W.keepIn X.K (.ref f)=true)(hb:Binds X.K fd ps ds)(hd:Vals dvs ds)(hx:xw CX X E)
  (ha:PA X (e::es) t) (hdb:(x==("__debug__" :Str))=false:=by decide) (he:starEach (e::es) X.env=(false,eval e X.env)::starEach es X.env:=by rfl) (hpl:(backTo pos (starEach es X.env)).any (·.1)=false:=by rfl):
  PE X (.Call (.Name x p) (e::es) [] pos) (B5 sp dvs E t):=by
 intro pins s σ H Q I h
 refine eP (mW I hg hm ?_ hdb)
 refine PySem.W.callWith_K (h₀:=X.base) I.ok.mod.kin hk (thn (ha pos pins s σ H _ I h) λus s1 ⟨vs,H1,I1,r,q⟩=>⟨I1.kIn,?_⟩) he hpl
 have r2:Vals (vs++dvs) (us++ds):=r.append hd
 have hl:(us++ds).length=ps.length:=by rw[<-r2.length];exact F.len _ _ _ _ q
 refine wpAny_call (codeAny_mono (F.run X.A X.stack s1 H1 ⟨us,[]⟩ (us++ds) (vs++dvs) Q (E σ) hr I1.E3 (hb s1 us I1.kIn hl) r2 q) λr s' hq=>?_)
 cases r with
 |error e=>exact hx pins σ H1 s1 e s' I1 hq
 |ok fl=>
  cases fl with
  |ret u=>exact I1.after hq
  |next=>exact False.elim hq
  |brk=>exact False.elim hq
  |cont=>exact False.elim hq
end
abbrev Cx.oH (X:Cx)(pn:List (Addr×Obj))(W:Value->Shared->Prop):Cx:={X with pn:=X.pn++pn,xe:=W}
section
variable {X:Cx}{pins pn:List (Addr×Obj)}{σ:St}{H:Hp}{s:Shared}{W:Value->Shared->Prop}
theorem Inv.oH (I:Inv X pins σ H s)(W:Value->Shared->Prop):Inv (X.oH pins W) pins σ H s:=
 ⟨⟨I.ok.mod,I.ok.kind,I.ok.glob,I.ok.blt,I.ok.above,I.ok.inj,I.ok.has,I.ok.cab,I.ok.hd,I.ok.frames,I.ok.stk,I.ok.exf,I.ok.bs,I.ok.bsz,I.ok.vW,I.ok.yp,I.ok.oV,I.ok.frf⟩,I.os,I.bare,I.base,I.loc,I.cell,I.free,I.je,
  (λp hp=>I.pin p (by
   rcases aL.mp hp with z |z
   ·exact z
   ·exact aL.mpr (.inr z))),I.hok,I.len⟩
theorem Inv.uu (I:Inv (X.oH pn W) pins σ H s)(ok:X.Ok):Inv X pn σ H s:=
 ⟨ok,I.os,I.bare,I.base,I.loc,I.cell,I.free,I.je,(λp hp=>I.pin p (aL.mpr (.inl hp))),I.hok,I.len⟩
end
structure uf (K:Frag)(D C:Addr):Prop where
 ty:typeIn K (.ref D)=some (.type "type")
 isc:(clsIn K D).isSome=true
 bex:mroIn K D (.type "BaseException")=some true
 mro:mroIn K C (.ref D)=some true
abbrev Ends.gone (D:Ends)(j:Nat):Ends:={nx:=λσ H=>D.nx (σ.set j none) H,rt:=D.rt,bk:=λσ H=>D.bk (σ.set j none) H,ct:=λσ H=>D.ct (σ.set j none) H}
def E5 (K:Frag)(D:Addr)(j:Nat)(th:TS)(Z:Ends):St->XK:=λσ c a H=>∃ e C,a=some e/\c = .ref C/\uf K D C/\th (Z.gone j) (σ.set j (some (.ref e))) (upd H e (wo e C))
def Fu (K:Frag)(D:Addr)(j:Nat)(tb:(St->XK)->TS)(th:TS):TS:=λZ σ H=>tb (E5 K D j th Z) Z σ H
section
variable {X:Cx}{body wI:List Stmt}{b₀:Stmt}{x n:Str}{np CY pos:Pos}{D:Addr}{j:Nat}{tb:(St->XK)->TS}{th:TS}
theorem Ck (hst:X.stack=X.env::X.outer)(hfr:X.env.frame=some X.env.locals)(hex:X.ex = [])(hN:X.N.Nodup)(hj:X.N[j]? = some n)(hn:X.env.scope.names.lookup n=some .local)(hg:Gl X x)(hm:X.mg x=some (.ref D))
  (hb:∀ pn W (E:St->XK),xw (CXr X.prog X.w X.base) (X.oH pn W) E->PSs (X.oH pn W) body (tb E)) (hs:∀ e,PSs (X.mz e) (b₀::wI) th) (hd:(x==("__debug__" :Str))=false:=by decide):
  PS X (.Try body [.ExceptHandler (some (.Name x np)) (some n) (b₀::wI) CY] [] [] pos) (Fu X.K D j tb th):=by
 intro pins s σ H Z I h
 refine wpAny_Try_except ?_
 refine bQ (hb pins (λe s₁=>wpAny (model X.prog X.w) X.A (noteFrame e X.env) (λ_ s₂=>wpAny (model X.prog X.w) X.A (setFlight e none) (λ_ s₃=>wpAny (model X.prog X.w) X.A (handleBy e X.env [.ExceptHandler (some (.Name x np)) (some n) (b₀::wI) CY]) (SP X pins Z) X.xe s₃) X.xe s₂) X.xe s₁)
  (E5 X.K D j th Z) ?_ pins s σ H Z (I.oH _) h) (λf s1 q=>?_) λe s1 q=>q
 ·intro qo σ1 H1 s1 ev s2 I1' hx
  have I1:Inv X pins σ1 H1 s1:=I1'.uu I.ok
  obtain⟨e,C',H2,B,rfl,ho,BE,x0,e',C,z1,z2,cat,q⟩:=hx
  obtain rfl:e=e':=aZ z1
  obtain rfl:C'=C:=by injection z2
  have x0:Fl X.prog X.w X.base X.stack H1 H2 s1.heap e C' B s2.heap:=x0
  obtain⟨a0,f0⟩:=x0.fly
  have EO:=I.ok.frames
  rw[hst]at EO
  have f0':=f0
  rw[hst]at f0'
  show wpAny (model X.prog X.w) X.A (noteFrame (.ref e) X.env) _ _ s2
  refine wpAny_looks_onW EO hfr f0' λh4 hh4 sm4=>?_
  refine wpAny_landsW hh4 λh5 f5 sm5=>?_
  have f5':Heap.FlyingW B X.stack e (.ref C') a0 h5:=by rw[hst];exact f5
  have x5:Fl X.prog X.w X.base X.stack H1 H2 s1.heap e C' B h5:=⟨x0.toFl0.step f5'.1 f0.2.2.1 f5'.2.2.1 (sm4.trans sm5),a0,f5'⟩
  have I5:Inv X pins σ1 (upd H2 e (wo e C')) {s2 with heap:=h5} :=Fl.kept (s':={s2 with heap:=h5}) x5 I1 hex ho BE
  obtain⟨oe,he,hec⟩:=f5'.there
  refine wpAny_handleBy_cons (codeAny_handlers_test (mW (X:=X.mz e) (I5.mz e) hg hm ?_ hd)) (by intro q;cases q)
  refine BR (K:=X.K) I5.kIn he hec cat.ty cat.isc cat.bex cat.mro (codeAny_handlers_suite_as ?_)
  refine lands_againW f5' λh6 f6 sm6=>?_
  have x6:Fl X.prog X.w X.base X.stack H1 H2 s1.heap e C' B h6:=⟨x5.toFl0.step f6.1 f5'.2.2.1 f6.2.2.1 sm6,a0,f6⟩
  have I6:Inv X pins σ1 (upd H2 e (wo e C')) {s2 with heap:=h6} :=Fl.kept (s':={s2 with heap:=h6}) x6 I1 hex ho BE
  refine nT (X:=X.mz e) (I6.mz e) hN hj (.inl hn) (v:=.ref e) rfl (λs7 I7=>?_) (.inr hn)
  refine bQ (hs e pins s7 _ _ (Z.gone j) I7 q) (λf s8 q8=>?_) λ_ _ z=>False.elim z
  cases f with
  |next=>obtain⟨σ8,H8,I8,q8⟩:=q8;exact name_goes (I8.uncaught I.ok) hN hj hn λs9 I9=>⟨_,H8,I9,q8⟩
  |brk=>obtain⟨σ8,H8,I8,q8⟩:=q8;exact name_goes (I8.uncaught I.ok) hN hj hn λs9 I9=>⟨_,H8,I9,q8⟩
  |cont=>obtain⟨σ8,H8,I8,q8⟩:=q8;exact name_goes (I8.uncaught I.ok) hN hj hn λs9 I9=>⟨_,H8,I9,q8⟩
  |ret u=>obtain⟨v8,σ8,H8,I8,r8,q8⟩:=q8;exact name_goes (I8.uncaught I.ok) hN hj hn λs9 I9=>⟨v8,_,H8,I9,r8,q8⟩
 ·cases f with
  |next=>obtain⟨σ8,H8,I8,q8⟩:=q;exact eC ⟨σ8,H8,I8.uu I.ok,q8⟩
  |brk=>obtain⟨σ8,H8,I8,q8⟩:=q;exact⟨σ8,H8,I8.uu I.ok,q8⟩
  |cont=>obtain⟨σ8,H8,I8,q8⟩:=q;exact⟨σ8,H8,I8.uu I.ok,q8⟩
  |ret u=>obtain⟨v8,σ8,H8,I8,r8,q8⟩:=q;exact⟨v8,σ8,H8,I8.uu I.ok,r8,q8⟩
end
theorem gU {X:Cx} :jh X (.builtin "isinstance") (λxs H Q=>∃ e C c cv b,xs = [.ref e,c]/\H e=some (wo e C)/\ExC X.K C/\RelV c cv/\(∀ cv',RelV c cv'->cv'=cv)/\kitOne X.K (.ref C) cv=some b/\Q (.bl b) H):=by
 intro pins s σ H vs us Q I r h
 obtain⟨e,C,c,cv,b,rfl,he,ex,_,rc,hk,q⟩:=h
 cases r with
 |cons r1 r2=>
  cases r2 with
  |cons r2 r3=>
   cases r3
   obtain rfl:=(show _=Value.ref e from r1)
   rw[rc _ r2]
   obtain⟨p,_,_⟩:=(show gO X.prog X.w H s.heap e (.ext (XAt e C)) from I.hok e _ he)
   exact kia_one (zH ex) I.kIn p hk (λz=>nomatch z) λtk=>⟨.bl b,H,I.tok tk,rfl,q⟩
open TL
section
variable {P:Program}{w:World}{K:PySem.W.Frag}{mg:Str->Option Value}{base:Heap}
theorem Fun.okX {x qual:Str}{st:Stmt}{f:Addr}{fd:FuncData}{N ps:List Str}{k:Nat}{sp:Sp}(F:Fun K x qual st f fd)(S:fM N ps (fi st))(len:∀ vs H Q E,sp vs H Q E->vs.length=ps.length)
  (u0:∀ (cdv:Value) (A:Around) (outer:List Env) (s:Shared) (H:Hp) (vs:List V) (Q:VK) (E:XK),kS k (A.deeper (envOfC qual (fi st) s.heap.objs.size f cdv))->sp vs H Q E->
   ∃ t,PSs (t6 (CXr P w base) P w K mg base N qual (fi st) f cdv A outer s H E) (jy st) t/\t {nx:=λ_ H'=>Q .non H',rt:=Q} (start N vs) H):fG P w K mg base (CXr P w base) (k+1) f fd ps sp:=by
 obtain⟨oc,od,kV,doc,pm,an,cdv,ct,osl,rfl,lk,hcd⟩:=F.ex
 exact BJ lk hcd S len λA outer s H vs Q E hr hsp=>u0 cdv A outer s H vs Q E hr hsp
end
abbrev bmV:List Value:=[.type "ValueError",.type "Exception",.type "BaseException",.type "object"]
structure Xc (K:Frag)(mg:Str->Option Value)(x:Str)(C:Addr):Prop where
 m:mg x=some (.ref C)
 q:excIn K C bmV "ValueError.__new__" = true
 e:ExC K C
structure Xs (K:Frag)(mg:Str->Option Value)(D c1 c2 c3 c4 c5 c6 c7:Addr):Prop where
 VE:mg "ValueError" = none
 yA:Xc K mg "TurnError" D
 Ao:Xc K mg "NoLine" c1
 xx:Xc K mg "NoTrain" c2
 An:Xc K mg "NoMove" c3
 xy:Xc K mg "NoPiece" c4
 kx:Xc K mg "TooMany" c5
 Am:Xc K mg "NoText" c6
 BQ:Xc K mg "NoRow" c7
 cat:∀ c∈ [c1,c2,c3,c4,c5,c6,c7],uf K D c
 val:∀ c∈ [c1,c2,c3,c4,c5,c6,c7],kitOne K (.ref c) (.type "ValueError")=some true
 eq:∀ c∈ [c1,c2,c3,c4,c5,c6,c7],∀ d∈ [c1,c2,c3,c4,c5,c6,c7],kitOne K (.ref c) (.ref d)=some (decide (c=d))
 nd:[c1,c2,c3,c4,c5,c6,c7].Nodup
theorem pH:bootBuiltins "ValueError" = some (.type "ValueError"):= PyProof.Rows.Boot.«ValueError»
theorem Vals.bls:∀ {bs:List Bool}{its:List Value},Vals (bs.map V.bl) its->its=bs.map Value.bool
 |[],_,.nil=>rfl
 |b::bs,_,.cons r t=>by rw[Vals.bls t,(show _=Value.bool b from r)];rfl
section
variable {X:Cx}
def AM:V->List V->Hp->VK->Prop:=λx vs H Q=>∃ (l:Addr) (bs:List Bool) (c:Bool),x = .ref l/\vs = [.bl c]/\H l=some (.lst (bs.map V.bl))/\Q (.int (bs.count c:Nat)) H
def vb (c:Bool):Value->Bool
 |.bool b=>b==c
 |_=>false
theorem zB:MtM X "list.count" AM:=by
 intro pins s σ H x vs v us Q I rx rv h
 obtain⟨l,bs,c,rfl,rfl,hH,q⟩:=h
 cases rx
 cases rv with
 |cons r1 r2=>
  cases r2
  obtain rfl:=(show _=Value.bool c from r1)
  obtain⟨z,its,n,r,hl,e⟩:=I.rz hH
  have hi:=r.bls
  subst hi
  refine d8 PySem.F.slot_list_count ⟨_,e,rfl⟩ PySem.F.entry_list_count (PySem.F.args_list_count_2 _ _) (SeqAt.list_countAt l _ n none #[] (.bool c) (vb c)) ⟨e,λy hy=>?_,?_⟩
  ·rw[List.mem_toArray]at hy
   obtain⟨b,_,rfl⟩:=az.mp hy
   exact SeqAt.EqAt.bool_bool b c
  ·have e1:((bs.map Value.bool).toArray.toList.countP (vb c))=bs.count c:=by
    simp only[List.toList_toArray]
    rw[List.countP_map]
    rfl
   rw[e1]
   exact⟨.int _,H,I.tok _,⟨_,rfl⟩,q⟩
def AJ:V->List V->Hp->VK->Prop:=λx vs H Q=>∃ (l:Addr) (bs:List Bool) (c:Bool) (j:Nat),x = .ref l/\vs = [.bl c]/\H l=some (.lst (bs.map V.bl))/\bs[j]? = some c/\(∀ m,m<j->bs[m]? = some (!c))/\Q (.int (j:Nat)) H
theorem zA:MtM X "list.index" AJ:=by
 intro pins s σ H x vs v us Q I rx rv h
 obtain⟨l,bs,c,j,rfl,rfl,hH,hj,hno,q⟩:=h
 cases rx
 cases rv with
 |cons r1 r2=>
  cases r2
  obtain rfl:=(show _=Value.bool c from r1)
  obtain⟨z,its,n,r,hl,e⟩:=I.rz hH
  have hi:=r.bls
  subst hi
  have hjl:j<bs.length:=(af.mp hj).1
  have hjs:j<(bs.map Value.bool).toArray.size:=by simpa using hjl
  have h63:(sizeLine:Nat)<2 ^ 62:=by rw[cZ];decide
  have z':bs.length<=sizeLine:=by simpa using z
  refine d8 PySem.F.slot_list_index ⟨_,e,rfl⟩ PySem.F.entry_list_index (PySem.F.args_list_index_2 _ _) (SeqAt.list_indexAt l _ n none #[] (.bool c) (vb c) j hjs (by omega) ?_ λm hm hmj=>?_) ⟨e,λy hy=>?_,?_⟩
  ·have:bs[j]=c:=(af.mp hj).2
   simp[vb,this]
  ·have hm':=hno m hmj
   have:bs[m]'(by omega) = !c:=(af.mp hm').2
   simp[vb,this]
  ·rw[List.mem_toArray]at hy
   obtain⟨b,_,rfl⟩:=az.mp hy
   exact SeqAt.EqAt.bool_bool b c
  ·exact⟨.int _,H,I.tok _,⟨_,rfl⟩,q⟩
end
structure kg (K:Frag)(x:Str)(C:Addr):Prop where
 b:nsIn K mainGlobals x=some (some (.ref C))
 q:excIn K C bmV "ValueError.__new__" = true
 o:mroIn K C (.type "object")=some true
 p:mroIn K C (.type "BaseException")=some true
 r:findIn K (.ref C) "__class__" = some (some (.builtin "object.__class__"))
 g:findIn K (.ref C) "__getattribute__" = some (some (.builtin "BaseException.__getattribute__"))
 h:findIn K (.ref C) "__getattr__" = some none
 i:isClsIn K C=true
 t:typeIn K (.ref C)=some (.type "type")
structure nN (K:Frag)(D C:Addr):Prop where
 m:mroIn K C (.ref D)=some true
 v:subIn K (.ref C) (.type "ValueError")=some true
structure oE (K:Frag)(c d1 d2 d3 d4 d5 d6:Addr):Prop where
 e1:subIn K (.ref c) (.ref d1)=some false
 e2:subIn K (.ref c) (.ref d2)=some false
 e3:subIn K (.ref c) (.ref d3)=some false
 e4:subIn K (.ref c) (.ref d4)=some false
 e5:subIn K (.ref c) (.ref d5)=some false
 e6:subIn K (.ref c) (.ref d6)=some false
section
variable {K:Frag}{h:Heap}{mg:Str->Option Value}{x:Str}{C D:Addr}
theorem kg.isc (a:kg K x C):(clsIn K C).isSome=true:=by
 have:=a.i
 unfold isClsIn at this
 exact this
theorem kg.ex (a:kg K x C):ExC K C:=⟨a.o,a.p,a.r,a.g,a.h,a.isc⟩
theorem kg.xc (a:kg K x C)(X:K.In h)(G:h.Ns mainGlobals mg):Xc K mg x C:=⟨mg_of X G a.b,a.q,a.ex⟩
theorem nI {y:Str}{d:Addr}(a:kg K y d)(hne:C≠d)(e:subIn K (.ref C) (.ref d)=some false):kitOne K (.ref C) (.ref d)=some (decide (C=d)):=by
 have h1:(Value.ref C==Value.ref d)=false:=Bool.eq_false_iff.mpr λz=>hne (Value.ref.inj (beq_iff_eq.mp z))
 unfold kitOne kitCls
 rw[h1,ax (by decide)]
 dsimp only
 rw[a.isc,a.t,aH (by rfl),e,bo hne]
theorem CG:kitOne K (.ref C) (.ref C)=some (decide (C=C)):=by
 unfold kitOne
 rw[aH (beq_self_eq_true _),bC rfl]
theorem lB (e:subIn K (.ref C) (.type "ValueError")=some true):kitOne K (.ref C) (.type "ValueError")=some true:=by
 unfold kitOne kitCls
 rw[ax (by intro z;cases beq_iff_eq.mp z)]
 dsimp only
 rw[aH (by decide +kernel),e]
variable {c1 c2 c3 c4 c5 c6 c7:Addr}
theorem DD (X:K.In h)(G:h.Ns mainGlobals mg)(ve:nsIn K mainGlobals "ValueError" = some none)(b0:kg K "TurnError" D)(b1:kg K "NoLine" c1)(b2:kg K "NoTrain" c2)(b3:kg K "NoMove" c3)(b4:kg K "NoPiece" c4)
  (b5:kg K "TooMany" c5) (b6:kg K "NoText" c6) (b7:kg K "NoRow" c7) (d1:nN K D c1) (d2:nN K D c2) (d3:nN K D c3) (d4:nN K D c4) (d5:nN K D c5) (d6:nN K D c6) (d7:nN K D c7)
  (e1:oE K c1 c2 c3 c4 c5 c6 c7) (e2:oE K c2 c1 c3 c4 c5 c6 c7) (e3:oE K c3 c1 c2 c4 c5 c6 c7) (e4:oE K c4 c1 c2 c3 c5 c6 c7) (e5:oE K c5 c1 c2 c3 c4 c6 c7) (e6:oE K c6 c1 c2 c3 c4 c5 c7) (e7:oE K c7 c1 c2 c3 c4 c5 c6)
  (nd:[c1,c2,c3,c4,c5,c6,c7].Nodup):Xs K mg D c1 c2 c3 c4 c5 c6 c7:=by
 have ct:∀ {c:Addr},nN K D c->uf K D c:=λd=>⟨b0.t,b0.isc,b0.p,d.m⟩
 refine⟨mg_none_of X G ve,b0.xc X G,b1.xc X G,b2.xc X G,b3.xc X G,b4.xc X G,b5.xc X G,b6.xc X G,b7.xc X G,λc hc=>?_,λc hc=>?_,λc hc d hd=>?_,nd⟩
 ·simp only[aO,dH,or_false]at hc
  rcases hc with rfl |rfl |rfl |rfl |rfl |rfl |rfl
  ·exact ct d1
  ·exact ct d2
  ·exact ct d3
  ·exact ct d4
  ·exact ct d5
  ·exact ct d6
  ·exact ct d7
 ·simp only[aO,dH,or_false]at hc
  rcases hc with rfl |rfl |rfl |rfl |rfl |rfl |rfl
  ·exact lB d1.v
  ·exact lB d2.v
  ·exact lB d3.v
  ·exact lB d4.v
  ·exact lB d5.v
  ·exact lB d6.v
  ·exact lB d7.v
 ·have hcd:c=d\/c≠d:=by by_cases h:c=d;exact .inl h;exact .inr h
  rcases hcd with rfl |hne
  ·exact CG
  ·simp only[aO,dH,or_false]at hc hd
   have ee:subIn K (.ref c) (.ref d)=some false:=by
    rcases hc with rfl |rfl |rfl |rfl |rfl |rfl |rfl<;>rcases hd with rfl |rfl |rfl |rfl |rfl |rfl |rfl<;>
     first |exact absurd rfl hne |exact e1.e1 |exact e1.e2 |exact e1.e3 |exact e1.e4 |exact e1.e5 |exact e1.e6 |exact e2.e1 |exact e2.e2 |exact e2.e3 |exact e2.e4 |exact e2.e5 |exact e2.e6 |exact e3.e1 |exact e3.e2 |exact e3.e3 |exact e3.e4 |exact e3.e5 |exact e3.e6 |exact e4.e1 |exact e4.e2 |exact e4.e3 |exact e4.e4 |exact e4.e5 |exact e4.e6 |exact e5.e1 |exact e5.e2 |exact e5.e3 |exact e5.e4 |exact e5.e5 |exact e5.e6 |exact e6.e1 |exact e6.e2 |exact e6.e3 |exact e6.e4 |exact e6.e5 |exact e6.e6 |exact e7.e1 |exact e7.e2 |exact e7.e3 |exact e7.e4 |exact e7.e5 |exact e7.e6
   rcases hd with rfl |rfl |rfl |rfl |rfl |rfl |rfl
   ·exact nI b1 hne ee
   ·exact nI b2 hne ee
   ·exact nI b3 hne ee
   ·exact nI b4 hne ee
   ·exact nI b5 hne ee
   ·exact nI b6 hne ee
   ·exact nI b7 hne ee
end
end L2
namespace TL
open PySem PySem.Spec PyProof.Rows L2
structure Bm (mg:Str->Option Value):Prop extends Bl mg where
 zip:mg "zip" = none
 sum:mg "sum" = none
 all:mg "all" = none
 set:mg "set" = none
 tuple:mg "tuple" = none
 abs:mg "abs" = none
 bool:mg "bool" = none
 dict:mg "dict" = none
 str:mg "str" = none
section
variable {X:Cx}
end
section
variable {K:PySem.W.Frag}{l:Addr}{g:TG}{tt:TT}{te:TE}{cap:List (Option Nat)}{σ:St}{Q:VK}{H1:Hp}{J:It}
theorem tP (n:Nat)(Pv:Nat->List V->Hp->Prop)(h0:Pv 0 [] (upd H1 l (.lst [])))(go:∀ i acc H,i<n->Pv i acc H->J.go i H)(st:∀ acc H,Pv n acc H->J.stop n H)
  (hs:∀ i x acc H H',i<n->Pv i acc H->J.yld i H x H'->g x (jK cap σ) H' λσ2 H2=>tt σ2 H2 λb H3=>
    if b=true then te σ2 H3 λy H4=>H4 l=some (.lst acc)/\acc.length<sizeLine/\Pv (i+1) (acc ++ [y]) (upd H4 l (.lst (acc ++ [y])))
    else Pv (i+1) acc H3) (hd:∀ acc H,Pv n acc H->Q (.ref l) H):LcW J g tt te cap σ Q l H1:=by
 refine⟨λi m acc H=>m=n-i/\i<=n/\Pv i acc H,⟨n,by simp,aM _,h0⟩,?_⟩
 rintro i m acc H ⟨rfl,hi,p⟩
 by_cases hlt:i<n
 ·exact .inr ⟨go i acc H hlt p,λrD H'=>Pv (i+1) rD H',λrD H' p'=>⟨n-(i+1),by omega,rfl,hlt,p'⟩,λx H' y=>hs i x acc H H' hlt p y⟩
 ·have e:i=n:=by omega
  subst e
  exact .inl ⟨st acc H p,hd acc H p⟩
theorem xg {α:Type}(n:Nat)(ds:List α)(p:α->Bool)(f:α->V)(hn:H1 l=none)(hlen:n=ds.length)(hz:n<sizeLine)(go:∀ i H,fg H1 H->i<n->J.go i H)(st:∀ H,fg H1 H->J.stop n H)
  (hs:∀ i x d H H',fg H1 H->J.yld i H x H'->ds[i]? = some d->∀ (P1:VK) (P0:Hp->Prop),(∀ H2,p d=true->fg H H2->P1 (f d) H2)->(∀ H2,p d=false->fg H H2->P0 H2)->
   g x (jK cap σ) H' λσ2 H2=>tt σ2 H2 λb H3=>if b=true then te σ2 H3 P1 else P0 H3)
  (hq:∀ H',fg H1 H'->H' l=some (.lst ((ds.filter p).map f))->Q (.ref l) H'):LcW J g tt te cap σ Q l H1:=by
 refine tP n (λi acc H=>acc=((ds.take i).filter p).map f/\fg H1 H/\H l=some (.lst acc)) ⟨rfl,eV hn,eW⟩ (λi acc H hi ⟨_,s,_⟩=>go i H s hi) (λacc H ⟨_,s,_⟩=>st H s) ?_ ?_
 ·rintro i x acc H H' hi ⟨e1,s,hl⟩ y
  have hd:ds[i]? = some (ds[i]'(by omega)):=by simp
  generalize ds[i]'(by omega)=d at hd
  have step:((ds.take (i+1)).filter p).map f=acc++(if p d=true then[f d]else[]):=by
   rw[bD,hd,List.filter_append,aw,e1]
   congr 1
   by_cases hp:p d=true
   ·simp[hp]
   ·have hp':p d=false:=by simpa using hp
    simp[hp']
  have la:acc.length<sizeLine:=by
   have h1:acc.length<=i:=by
    rw[e1,aa]
    exact bF (bH _ _) (by rw[bB];omega)
   omega
  refine hs i x d H H' s y hd _ _ (λH2 hp s2=>?_) (λH2 hp s2=>?_)
  ·refine⟨s2 _ _ hl,la,?_,fg.upd (s.trans s2) hn,eW⟩
   rw[step,aH hp]
  ·refine⟨?_,s.trans s2,s2 _ _ hl⟩
   rw[step,ax (by rw[hp];exact aW),bO]
 ·rintro acc H ⟨e1,s,hl⟩
  rw[bq (by omega)]at e1
  subst e1
  exact hq H s hl
end
section
variable {X:Cx}{pins:List (Addr×Obj)}{σ:St}{H:Hp}{s:Shared}
end
section
variable {X:Cx}{pins:List (Addr×Obj)}{σ:St}{H1:Hp}{s2:Shared}{scope:Scope}{N:List Str}{own:Nat}{cap:List (Option Nat)}{cl:List (Str×Addr)}{fp:List Addr}
 {tg iter elt:Expr}{ifs:List Expr}{pos:Pos}{g:TG}{tt:TT}{te:TE}{wi:TI}
end
section
variable {X:Cx}
end
section
variable {l:Addr}{g:TG}{tt:TT}{te:TE}{cap:List (Option Nat)}{σ:St}{Q:VK}{H1:Hp}{J:It}
end
def hid (p:Addr)(H:Hp):Hp:=λb=>if b=p then none else H b
theorem gF {p:Addr}{H:Hp} :fg (hid p H) H:=λb o h=>by
 unfold hid at h
 by_cases e:b=p
 ·rw[aH e]at h;cases h
 ·rw[ax e]at h;exact h
theorem gK {p b:Addr}{H:Hp}(h:b≠p):hid p H b=H b:=by unfold hid;rw[ax h]
theorem ig {p:Addr}{H:Hp} :hid p H p=none:=by unfold hid;rw[aH rfl]
theorem iK {p:Addr}{H H':Hp}(s:fg H H'):fg (hid p H) (hid p H'):=λb o h=>by
 by_cases e:b=p
 ·subst e;rw[ig]at h;cases h
 ·rw[gK e]at h ⊢;exact s _ _ h
theorem pR {p:Addr}{H:Hp}{o:HO} :hid p (upd H p o)=hid p H:=by
 funext b
 by_cases e:b=p
 ·subst e;rw[ig,ig]
 ·rw[gK e,gK e,fc e]
theorem xj {K:PySem.W.Frag}{p a:Addr}{H:Hp}{vs xs:List V}(hp:H p=some (.lst vs))(h:SqT K H a xs):SqT K (hid p H) a xs:=by
 rcases h with(h |⟨o,h⟩)|h
 ·exact .inl (.inl (by rw[gK (gL h hp (by intro z;cases z))];exact h))
 ·exact .inl (.inr ⟨o,by rw[gK (gL h hp (by intro z;cases z))];exact h⟩)
 ·exact .inr h
section
variable {L T:Addr->List V->Prop}
end
theorem kf {xs:List V}{v:V}{i:Int}(h0:0<=i)(h:xs[i.toNat]? = some v):atI xs i=some v:=by
 have:=kr h
 rw[show((i.toNat:Nat):Int)=i by omega]at this
 exact this
section
variable {K:PySem.W.Frag}{l:Addr}{g:TG}{tt:TT}{te:TE}{cap:List (Option Nat)}{σ:St}{Q:VK}{H1:Hp}{J:It}
theorem A0 {α:Type}(n:Nat)(ds:List α)(d':α->PyData)(hn:H1 l=none)(hlen:n=ds.length)(hz:n<sizeLine)(go:∀ i H,fg H1 H->i<n->J.go i H)(st:∀ H,fg H1 H->J.stop n H)
  (hs:∀ i x d H H',fg H1 H->(∃ us,H l=some (.lst us))->J.yld i H x H'->ds[i]? = some d->∀ (P1:VK) (P0:Hp->Prop),(∀ v H2,fg H H2->Da K (hid l H2) (d' d) v->P1 v H2)->
   g x (jK cap σ) H' λσ2 H2=>tt σ2 H2 λb H3=>if b=true then te σ2 H3 P1 else P0 H3)
  (hq:∀ vs H',fg H1 H'->H' l=some (.lst vs)->Das K (hid l H') (ds.map d') vs->Q (.ref l) H'):LcW J g tt te cap σ Q l H1:=by
 refine tP n (λi acc H=>Das K (hid l H) ((ds.take i).map d') acc/\fg H1 H/\H l=some (.lst acc)) ⟨fV.mpr rfl,eV hn,eW⟩ (λi acc H hi ⟨_,s,_⟩=>go i H s hi) (λacc H ⟨_,s,_⟩=>st H s) ?_ ?_
 ·rintro i x acc H H' hi ⟨e1,s,hl⟩ y
  have hd:ds[i]? = some (ds[i]'(by omega)):=by simp
  generalize ds[i]'(by omega)=d at hd
  refine hs i x d H H' s ⟨_,hl⟩ y hd _ _ (λv H2 s2 dv=>?_)
  have la:=Dgs.length e1
  rw[aa,bB]at la
  refine⟨s2 _ _ hl,by omega,?_,fg.upd (s.trans s2) hn,eW⟩
  rw[pR,bD,hd,aw]
  exact Dgs.append (Das.same (iK s2) e1) (Dgs.one dv)
 ·rintro acc H ⟨e1,s,hl⟩
  rw[bq (by omega)]at e1
  exact hq acc H s hl e1
end
open PySem.W
section
variable {X:Cx}{pins:List (Addr×Obj)}{σ:St}{H H1:Hp}{s s':Shared}{e C:Addr}{B:Heap}
end
section
variable {prog:Program}{w:World}{A:Around}{R:Result->Shared->Prop}{s:Shared}{XE:Value->Shared->Prop}
end
section
variable {M:Model}{A:Around}{E:Value->Shared->Prop}{s:Shared}{env:Env}
end
section
variable {X:Cx}{pins:List (Addr×Obj)}{σ:St}{H H3:Hp}{s s3:Shared}{scope:Scope}{N:List Str}{own:Nat}{cap:List (Option Nat)}{cl:List (Str×Addr)}{fp:List Addr}{E:XK}
def XC (X:Cx)(scope:Scope)(cl:List (Str×Addr))(N:List Str)(fp:List Addr)(s3:Shared)(H3:Hp)(E:XK):Value->Shared->Prop:=λev s'=>∃ (qo:List (Addr×Obj)) (σ':St) (H':Hp) (s0:Shared),Inv (h8 X scope cl N fp s3 H3) qo σ' H' s0/\CXr X.prog X.w X.base X.stack H' s0 E ev s'
abbrev Fm (X:Cx)(scope:Scope)(cl:List (Str×Addr))(N:List Str)(fp:List Addr)(s3:Shared)(H3:Hp)(E:XK):Cx:=(h8 X scope cl N fp s3 H3).pW (XC X scope cl N fp s3 H3 E)
end
section
variable {X:Cx}{pins:List (Addr×Obj)}{σ:St}{H1:Hp}{s2:Shared}{scope:Scope}{N:List Str}{own:Nat}{cap:List (Option Nat)}{cl:List (Str×Addr)}{fp:List Addr}
 {tg iter elt:Expr}{ifs:List Expr}{pos:Pos}{g:TG}{tt:TT}{te:TE}{wi:TI}{E:XK}
end
end TL
namespace TL
open PySem PySem.Spec PyProof.Rows L2
section
variable {X:Cx}{pins:List (Addr×Obj)}{σ:St}{H:Hp}{s:Shared}{a:Addr}{kvs:List (List Key×V)}
theorem Inv.freeze (I:Inv X pins σ H s)(ha:H a=some (.dT kvs)):∃ o,Inv X pins σ (upd H a (.frz o (.dT kvs))) s:=by
 obtain⟨z,hm,xs,r,o,es,ep,e,c⟩:=I.hok a _ ha
 refine⟨o,?_⟩
 have h0:Inv X pins σ (upd H a (.frz o (.dT kvs))) {s with heap:=s.heap,toks:=s.toks} :=by
  refine I.un (t':=s.toks) ⟨λb o q _ _ _=>q,λb o q _ _ _=>⟨o.slots,q⟩,λb u q n _=>?_,λb o q _=>⟨o,q⟩,λb xs q=>?_,λb u x q=>?_,λb ps q=>⟨#[],?_⟩⟩ λb u q=>?_
  ·rw[fc (bZ (eZ ha n))];exact n
  ·rw[fc (gL q ha (by intro z;cases z))];exact q
  ·rw[fc (gL q ha (by intro z;cases z))];exact q
  ·rw[fc (gL q ha (by intro z;cases z)),q];simp
  ·have ho:∀ c b',H c=some (.own b')->upd H a (.frz o (.dT kvs)) c=some (.own b'):=λc b' q=>by rw[fc (gL q ha (by intro z;cases z))];exact q
   have ht:∀ c xs,H c=some (.tup xs)->upd H a (.frz o (.dT kvs)) c=some (.tup xs):=λc xs q=>by rw[fc (gL q ha (by intro z;cases z))];exact q
   by_cases hb:b=a
   ·subst hb
    rw[eW]at q
    cases q
    exact⟨e,(I.hok b _ ha).oK (λ_ _ _ q=>q) (λc q=>ho c _ q) ht⟩
   ·rw[fc hb]at q
    exact(I.hok b u q).oK (λ_ _ _ q=>q) (λc q=>ho c _ q) ht
 exact h0
theorem Inv.HD {o:Obj}(I:Inv X pins σ H s)(ha:H a=some (.frz o (.dT kvs)))(h0:∀ o u,X.H₀ a≠some (.frz o u)):Inv X pins σ (upd H a (.dT kvs)) s:=by
 have ne:∀ b,H b=none->b≠a:=λb n=>bZ (eZ ha n)
 have hu:Un X.fs X.ex X.H₀ (upd H a (.dT kvs)) X.s₀.heap s.heap:=by
  refine⟨I.base.keep,I.base.slot,λb u q n hx=>?_,I.base.there,λb xs q=>?_,λb u x q=>?_,λb ps q=>?_⟩
  ·have:=I.base.free b u q n hx
   rw[fc (ne b this)];exact this
  ·have:=I.base.nD b xs q
   rw[fc (gL this ha (by intro z;cases z))];exact this
  ·have hb:b≠a:=λz=>by subst z;exact h0 _ _ q
   rw[fc hb];exact I.base.l0 b u x q
  ·obtain⟨m,e⟩:=I.base.nE b ps q
   exact⟨m,by rw[fc (gL e ha (by intro z;cases z))];exact e⟩
 refine⟨I.ok,I.os,I.bare,hu,I.loc,I.cell,by rw[fc (ne _ I.free)];exact I.free,λx c e=>by rw[fc (ne _ (I.je x c e))];exact I.je x c e,λp hp=>?_,λb u q=>?_,I.len⟩
 ·obtain⟨p1,p2,p3⟩:=I.pin p hp
  exact⟨p1,by rw[fc (ne _ p2)];exact p2,p3⟩
 ·have ho:∀ c b',H c=some (.own b')->upd H a (.dT kvs) c=some (.own b'):=λc b' q=>by rw[fc (gL q ha (by intro z;cases z))];exact q
  have ht:∀ c xs,H c=some (.tup xs)->upd H a (.dT kvs) c=some (.tup xs):=λc xs q=>by rw[fc (gL q ha (by intro z;cases z))];exact q
  by_cases hb:b=a
  ·subst hb
   rw[eW]at q
   cases q
   exact(I.hok b _ ha).2.oK (λ_ _ _ q=>q) (λc q=>ho c _ q) ht
  ·rw[fc hb]at q
   exact(I.hok b u q).oK (λ_ _ _ q=>q) (λc q=>ho c _ q) ht
def FC (t:TE):TE:=λσ H Q=>∃ a kvs,H a=some (.dT kvs)/\∀ o,t σ (upd H a (.frz o (.dT kvs))) λv H'=>H' a=some (.frz o (.dT kvs))/\Q v (upd H' a (.dT kvs))
theorem Cr {e:Expr}{t:TE}(h:PE X e t):PE X e (FC t):=by
 intro pins s σ H Q I q
 obtain⟨a,kvs,ha,q⟩:=q
 have h0:∀ o u,X.H₀ a≠some (.frz o u):=λo u z=>by have:=I.base.l0 a o u z;rw[ha]at this;cases this
 obtain⟨o,I1⟩:=Inv.freeze I ha
 refine thn (h pins s σ _ _ I1 (q o)) λu s1 ⟨v,H1,I2,r,e1,q1⟩=>⟨v,_,Inv.HD I2 e1 h0,r,q1⟩
end
section
variable {prog:Program}{w:World}{A:Around}{E:Value->Shared->Prop}{s:Shared}{d it:Addr}{o:Obj}{es:Array DictEntry}{ep i:Nat}
theorem xQ (ho:s.heap.get? d=some o)(hx:o.ExactDict):s.TypeIs (.ref d) "dict" :=⟨o,ho,hx.1⟩
theorem xT {Q:Value->Shared->Prop}(hn:(d==sysModules)=false)(ho:s.heap.get? d=some o)(hx:o.ExactDict)(hd:o.data = .dict es ep)
  (hQ:Q (.ref s.heap.objs.size) {s with heap:=s.heap.push {cls:=.type "dict_keyiterator",data:=.fields #[.ref d,.int 0 0,.int es.size 0,.int ep 0]}}):wpAny (model prog w) A (pyIter (.ref d)) Q E s:=by
 have hT:=xQ ho hx
 refine wpAny_pyIter_slot hT F.slot_dict_iter (di F.slot_dict_iter hT F.entry_dict_iter ?_ (F.args_dict_iter_1 _))
 unfold Builtin.«dict.__iter__»
 refine ak ?_
 unfold Builtin.Dict.dictSlotNone
 refine ak (wpAny_notOrdered_dict hT (aD ?_))
 show wpAny _ _ (Builtin.Dict.showsAll d >>= _) _ _ s
 unfold Builtin.Dict.showsAll
 rw[ax (by rw[hn];exact aW)]
 refine ak (aD (ak (wpAny_dictEntries ho hd (ak (wpAny_dictEpoch ho hd ?_)))))
 refine ak (dO (aD ⟨_,rfl,"dict_keyiterator",_,⟨_,aY _ rfl,rfl⟩,bY.lookup,?_⟩))
 simpa [rawInt]using hQ
theorem xS {Q:Option Value->Shared->Prop}{e:DictEntry}(hit:s.heap.IsKeyIter it d i es.size ep)(ho:s.heap.get? d=some o)(hd:o.data = .dict es ep)(hx:es[i]? = some e)
  (hQ:∀ h',h'.IsKeyIter it d (i+1) es.size ep->Heap.SameBut it s.heap h'->Q (some e.key) {s with heap:=h'}):wpAny (model prog w) A (pyNext (.ref it)) Q E s:=by
 obtain⟨oi,hoi,hc,hdi⟩:=id hit
 have hT:=hit.typeIs
 unfold pyNext
 refine ak (wpAny_attempt (wpAny_callSpecial?_slot (name:=Str.ofString "__next__") hT bY
  (di bY hT F.entry_dict_keyiterator_next ?_ (F.args_dict_keyiterator_next_1 _))))
 refine ak (aD (ak (ak ?_)))
 first |refine ak (cM hT (aD ?_))|refine ak (dw hT (aD ?_))
 refine ak (wpAny_fieldsOf hoi hdi ?_)
 have C8:Builtin.Dict_items.ownsTuple "dict_keyiterator" = false:=by decide
 simp only[C8,ck,dc]
 show wpAny _ _ (if(Value.ref d==Value.none)=true then _ else _) _ _ s
 rw[ax (show ¬((Value.ref d==Value.none)=true) from aW)]
 refine ak (aD (ak (wpAny_dictEntries ho hd ?_)))
 rw[ax (by simp)]
 refine ak (aD (ak (wpAny_dictEpoch ho hd ?_)))
 rw[ax (by simp)]
 refine aD ?_
 obtain⟨hlt,he⟩:=Array.getElem?_eq_some_iff.mp hx
 simp only[show ¬((i:Int)<0) from by omega,dc,Int.toNat_natCast,bj hlt]
 refine ak ?_
 first |refine ak (cM hT (aD ?_))|refine ak (dw hT (aD ?_))
 refine ak (wpAny_isOneOf_keyiter hT ?_)
 show wpAny _ _ (setField (.ref it) 1 (rawInt ((i:Int)+1)) >>= _) _ _ s
 refine ak (wpAny_setField hoi hdi (by simp) ?_)
 have EN:(s.heap.update it (Obj.mapFields (·.setIfInBounds 1 (rawInt ((i:Int)+1))))).IsKeyIter it d (i+1) es.size ep:=
  ⟨_,Heap.get?_update_self _ hoi (Obj.isFreed_of_fields (Obj.data_mapFields hdi _)),(Obj.cls_mapFields ..).trans hc,by rw[Obj.data_mapFields hdi];simp[rawInt]⟩
 refine ak (wpAny_holding ?_)
 refine ak (wpAny_isOneOf_keyiter (s:={s with heap:=s.heap.update it (Obj.mapFields (·.setIfInBounds 1 (rawInt ((i:Int)+1))))}) EN.typeIs ?_)
 show wpAny _ _ (pure es[i].key) _ _ _
 rw[he]
 exact aD (aD ⟨_,rfl,aD (hQ _ EN (Heap.SameBut.update ..))⟩)
theorem yU {Q:Option Value->Shared->Prop}(hh:A.handled=none)(hit:s.heap.IsKeyIter it d i es.size ep)(ho:s.heap.get? d=some o)(hd:o.data = .dict es ep)(hx:es.size<=i)
  (hQ:∀ h',Heap.ExtBut it s.heap h'->Q none {s with heap:=h'}):wpAny (model prog w) A (pyNext (.ref it)) Q E s:=by
 obtain⟨oi,hoi,hc,hdi⟩:=id hit
 have hT:=hit.typeIs
 unfold pyNext
 refine ak (wpAny_attempt (wpAny_callSpecial?_slot (name:=Str.ofString "__next__") hT bY
  (di bY hT F.entry_dict_keyiterator_next ?_ (F.args_dict_keyiterator_next_1 _))))
 refine ak (aD (ak (ak ?_)))
 first |refine ak (cM hT (aD ?_))|refine ak (dw hT (aD ?_))
 refine ak (wpAny_fieldsOf hoi hdi ?_)
 have C8:Builtin.Dict_items.ownsTuple "dict_keyiterator" = false:=by decide
 simp only[C8,ck,dc]
 show wpAny _ _ (if(Value.ref d==Value.none)=true then _ else _) _ _ s
 rw[ax (show ¬((Value.ref d==Value.none)=true) from aW)]
 refine ak (aD (ak (wpAny_dictEntries ho hd ?_)))
 rw[ax (by simp)]
 refine ak (aD (ak (wpAny_dictEpoch ho hd ?_)))
 rw[ax (by simp)]
 refine aD ?_
 simp only[show ¬((i:Int)<0) from by omega,dc,Int.toNat_natCast,Array.getElem?_eq_none hx]
 refine ak ?_
 first |refine ak (cM hT (aD ?_))|refine ak (dw hT (aD ?_))
 show wpAny _ _ (setField (.ref it) 0 .none >>= _) _ _ s
 refine ak (wpAny_setField hoi hdi (by simp) ?_)
 show wpAny _ _ (newExc (.type "StopIteration") [] >>= _) _ _ _
 refine ak ?_
 simp only[newExc,newTuple]
 refine ak (dO ?_ (by size_fits))
 refine ak (m:=firstArgMember _ _) (en (a:=Value.none) (by first |rfl |(simp only[firstArgMember];rfl)) ?_)
 refine dO ?_ (by size_fits)
 simp only[raiseNew]
 refine ak (wpAny_handled ?_)
 rw[show A.in1.handled=none from hh]
 refine ak (aD (wpAny_throw ?_))
 refine ak (wpAny_isInstance (T:= "StopIteration") (b:=true) ⟨_,aY _ rfl,rfl⟩ isSubtype_stop ?_)
 exact aD (hQ _ (((Heap.SameBut.update ..).extBut.push _).push _))
theorem xR {Q:Value->Shared->Prop}{n:Nat}(hit:s.heap.IsKeyIter it d i n ep)(h:Q (.ref it) s):wpAny (model prog w) A (pyIter (.ref it)) Q E s:=by
 have hT:=hit.typeIs
 refine wpAny_pyIter_slot hT F.slot_dict_keyiterator_iter (di F.slot_dict_keyiterator_iter hT F.entry_dict_keyiterator_iter ?_ (F.args_dict_keyiterator_iter_1 _))
 show wpAny _ _ (ret (.ref it)) _ _ s
 exact aD ⟨_,rfl,"dict_keyiterator",_,hT,bY.lookup,h⟩
end
theorem rY {α β:Type}{R:α->β->Prop} :∀ {l₁:List α}{l₂:List β}{i:Nat}{p:α},Paired R l₁ l₂->l₁[i]? = some p->∃ q,l₂[i]? = some q/\R p q
 |_,_,0,_,.cons r _,e=>by cases e;exact⟨_,rfl,r⟩
 |_,_,i+1,p,.cons _ t,e=>rY (i:=i) t e
def Itk (a:Addr)(o:Obj)(kvs:List (List Key×V)):It:=
 ⟨λi H=>H a=some (.frz o (.dT kvs))/\i<kvs.length,λi H x H'=>H'=H/\∃ b p,kvs[i]? = some p/\x = .ref b/\H b=some (.tup (p.1.map kV)),λi H=>H a=some (.frz o (.dT kvs))/\kvs.length<=i⟩
theorem xH {P:Program}{w:World}{K:PySem.W.Frag}{tg:Expr}{hx:Heap}(htg:∀ it u,letOwnedTupleGo tg it u=pure ())(a it:Addr)(o:Obj)(kvs:List (List Key×V))(es:Array DictEntry)(ep:Nat)(hd:o.data = .dict es ep)(hl:es.size=kvs.length):
  Turn P w K tg (Itk a o kvs) [it] it (λi h=>h.IsKeyIter it a i es.size ep) where
 mem:=by simp
 obj:=λi h st b hb=>by
  have e:b=it:=by simpa using hb
  subst e
  obtain⟨oi,hoi,_,hdi⟩:=st
  exact⟨oi,hoi,λv z=>by rw[hdi]at z;cases z⟩
 keep:=λi h h' st k=>by
  obtain⟨oi,hoi,r⟩:=st
  exact⟨oi,k it (by simp) oi hoi,r⟩
 item:=by
  intro X hP hw hK hc i pins s σ H E I hf st hg
  subst hP hw hK
  obtain⟨ha,hi⟩:=hg
  obtain⟨ho,z,hm,xs,r,o',es',ep',e',_,hd',hes,_⟩:=I.hok a _ ha
  rw[ho]at e'
  cases e'
  rw[hd]at hd'
  cases hd'
  have hp:kvs[i]? = some kvs[i]:=by simp[hi]
  obtain⟨q,hq,q1,q2,q3⟩:=rY r hp
  have he:es[i]? = some (entryOfKey (tupleKind (g9 X.prog X.w)) q):=by
   rw[<-aB,hes,aj,hq];rfl
  obtain⟨g0,g1,g2,g3,g4,g5⟩:=hf it (by simp)
  refine xS st ho hd he λh' k1 k2=>?_
  refine⟨_,rfl,?_⟩
  rw[htg]
  refine aD ⟨.ref q.2.1,H,I.turned (t':=s.toks) (λb u hb e=>k2.extBut b u hb e) g0 g1 g3 g4 g5,rfl,⟨rfl,q.2.1,_,hp,rfl,q2⟩,k1,λb hb=>?_⟩
  have e:b=it:=by simpa using hb
  subst e;exact g0
 done:=by
  intro X hP hw hK hc i pins s σ H E I hf st hg
  subst hP hw hK
  obtain⟨ha,hi⟩:=hg
  obtain⟨ho,_⟩:=I.hok a _ ha
  obtain⟨g0,g1,g2,g3,g4,g5⟩:=hf it (by simp)
  exact yU (I.ok.hd hc) st ho hd (by rw[hl];exact hi) λh' eb=>⟨rfl,I.turned (t':=s.toks) (λb u hb e=>eb b u hb e) g0 g1 g3 g4 g5⟩
 self:=λ_ _ _ _ _ st h=>xR st h
section
variable {X:Cx}
def EC (tl:TE):TI:=λσ H R=>tl σ H λx H1=>∃ a o kvs,x = .ref a/\H1 a=some (.frz o (.dT kvs))/\R (Itk a o kvs) H1
theorem AR {tg e:Expr}{tl:TE}(hl:PE X e tl)(htg:∀ it u,letOwnedTupleGo tg it u=pure ():=by intro _ _;rfl):PI X tg e (EC tl):=by
 intro pins s σ H R I h
 refine thn (hl pins s σ H _ I h) λu s1 ⟨x,H1,I1,r1,a,o,kvs,ex,ha,q⟩=>?_
 subst ex
 cases(show u=Value.ref a from r1)
 obtain⟨ho,z,hm,xs,r,o',es,ep,e',hxd,hd,hes,_⟩:=I1.hok a _ ha
 rw[ho]at e'
 cases e'
 have hsz:es.size=kvs.length:=by
  have h1:=cH List.length hes
  rw[au,aa,<-ei r]at h1
  exact h1
 refine xT hm ho hxd hd ?_
 refine⟨s1.heap.objs.size,[s1.heap.objs.size],_,_,H1,rfl,I1.kept (t':=s1.toks) (λb u e=>aJ _ e),xH (hx:=s1.heap) htg a _ o kvs es ep hd hsz,⟨_,aY _ rfl,rfl,rfl⟩,λb hb=>?_,q⟩
 have e:b=s1.heap.objs.size:=by simpa using hb
 subst e
 exact I1.yn (aq _) (I1.hok.fresh (aq _))
end
section
variable {X:Cx}{pins:List (Addr×Obj)}{σ:St}{H:Hp}{s:Shared}{a b:Addr}{kvs:List (List Key×V)}{k:List Key}{v:V}{r:Value}{A:Around}{E:Value->Shared->Prop}
theorem Dt {Q:Unit->Shared->Prop}(hu:A.units<cLine)(I:Inv X pins σ H s)(e:H a=some (.dT kvs))(eb:H b=some (.tup (k.map kV)))(l:kvs.length<sizeLine)(rv:RelV v r)
  (h:∀ s',Inv X pins σ (upd H a (.dT (putK kvs k v))) s'->Q () s'):wpAny (model X.prog X.w) A (dictSet a (.ref b) r) Q E s:=by
 obtain⟨z,hd,xs,rel,dd⟩:=BM I.hok e
 have hz:xs.length<=sizeLine:=by rw[<-ei rel];exact z
 have hl:(putK kvs k v).length<=sizeLine:=by have:=lW kvs k v;omega
 refine wpAny_dictSet_heap (hsz:=hz) hu (qJ I.hok eb) dd λh' dd' hs=>h _ ?_
 obtain⟨q,es,ep,hq,h2,h3,h4,_,h5⟩:=dd'
 refine t5 I (by rw[e];exact True.intro) hs ⟨q,hq⟩ ⟨hl,hd,_,(rel.put k eb rv).keeps λc ys ec=>?_,q,es,ep,hq,h2,h3,h4,h5⟩
 rw[fc (gL ec e (λz=>nomatch z))]
 exact ec
def BZ (tk tv:TE):TE:=λσ H Q=>∀ p,H p=none->vI [(tk,tv)] σ (upd H p (.dT [])) λps H2=>∃ (x y:V) (b:Addr) (ks:List Key),ps = [(x,y)]/\x=V.ref b/\H2 b=some (.tup (ks.map kV))/\H2 p=some (.dT [])/\Q (.ref p) (upd H2 p (.dT [(ks,y)]))
theorem uK {pos:Pos}{k v:Expr}{tk tv:TE}(hu:X.A.units+1<cLine)(hk:PE X k tk)(hv:PE X v tv):PE X (.Dict [some k] [v] pos) (BZ tk tv):=by
 intro pins s σ H Q I q
 have hn:=I.hok.fresh (aq s.heap.objs.size)
 have I1:=I.laid (a:=s.heap.objs.size) (o:=.dT []) (h':=s.heap.push {cls:=.type "dict",data:=.dict #[]}) (t':=s.toks) (λ_ _ q=>aJ _ q) (aq _) (vj s.heap I.big)
 refine wpAny_Dict_any rfl rfl (by simp) (by simp) (thn (yY hk hv AO pins _ σ _ _ I1 (q _ hn)) λws s2 ⟨ps,H2,I2,rel,x,y,b,ks,ep,ex,hb,hp,q2⟩=>?_)
 subst ep ex
 cases rel with
 |@cons p w' ps ws r t=>
   cases t
   obtain⟨w1,w2⟩:=w'
   obtain⟨r1,r2⟩:=r
   cases(show w1=Value.ref b from r1)
   unfold storeAll
   rw[List.forIn_cons]
   refine ak (ak (Dt (by omega) I2 hp hb (by rw[List.length_nil];decide) r2 λs3 I3=>aD ?_))
   refine aD ⟨.ref s.heap.objs.size,_,I3,rfl,?_⟩
   exact q2
theorem uJ {x y n:Str}{i:Int}{u:Value}{k1 k2:Nat}{p1 p2 p3 p4 pos:Pos}(hg:Gl X n)(hm:X.mg n=some u)(r:RelV (.int i) u)(hi:i.natAbs.log2<1920)(hz:x.length<=1000/\y.length<=1000/\(Str.ofString (toString i)).length<=1000)
  (hd:(n==("__debug__" :Str))=false:=by decide):PE X (.JoinedStr [.Constant (.str x) k1 p1,.FormattedValue (.Name n p2) (-1) none p3,.Constant (.str y) k2 p4] pos) (λ_ H Q=>∀ z,Q (.str z) H):=by
 intro pins s σ H Q I q
 obtain⟨t,rfl⟩:=r
 have hl:∀ a b:Str,(a++b).length=a.length+b.length:=strLen_append
 have he:Str.empty.length=0:=rfl
 refine wpAny_JoinedStr ?_
 refine PySem.wpAny_Constant_str ⟨x,_,rfl,by rw[hl,he,cZ];omega,?_⟩
 refine wpAny_FormattedValue_plain (mW (I.tok _) hg hm (wpAny_formatField_int hi ⟨_,_,rfl,by rw[hl,hl,he,cZ];omega,?_⟩) hd)
 refine PySem.wpAny_Constant_str ⟨y,_,rfl,by rw[hl,hl,hl,he,cZ];omega,?_⟩
 refine⟨by rw[hl,hl,hl,he,cZ];omega,⟨.str _,H,?_,⟨_,rfl⟩,q _⟩⟩
 exact I.tok _
end
section
variable {X:Cx}{K:PySem.W.Frag}
theorem rC (e:X.K=K):jh X (.type "list") (λxs H Q=>∃ p ys,xs = [.ref p]/\(SqL K H p ys\/SqT K H p ys)/\∀ l,H l=none->Q (.ref l) (upd H l (.lst ys))):=by subst e;exact lG
theorem qX (e:X.K=K):jh X (.type "tuple") (λxs H Q=>∃ p ys,xs = [.ref p]/\((SqL K H p ys/\∀ l,H l=none->Q (.ref l) (upd H l (.tup ys)))\/(SqT K H p ys/\Q (.ref p) H))):=by subst e;exact gE
end
abbrev Ln:=Int×List (Int×Int)
structure h9 (l:Ln)(ns:List Int):Prop where
 ends:∀ e∈ns,0<=e/\e<2*l.1
 nd:(ns.map (· / 2)).Nodup
 ch:∀ (i:Nat) x y,ns[i]? = some x->ns[i+1]? = some y->y∈jn l.2 (oth x)
theorem v3 {l:Ln}(ok:fz l){e x:Int} :x∈jn l.2 e↔(min e x,max e x)∈l.2:=by
 unfold jn
 rw[AE,aL]
 constructor
 ·rintro(z |z)
  ·obtain⟨p,hp,rfl⟩:=az.mp z
   obtain⟨h1,h2⟩:=ba.mp hp
   have h2:p.2=e:=by simpa using h2
   have:=ok.ends p h1
   have e1:(min e p.1,max e p.1)=p:=Prod.ext (by show min e p.1=p.1;omega) (by show max e p.1=p.2;omega)
   rw[e1];exact h1
  ·obtain⟨p,hp,rfl⟩:=az.mp z
   obtain⟨h1,h2⟩:=ba.mp hp
   have h2:p.1=e:=by simpa using h2
   have:=ok.ends p h1
   have e1:(min e p.2,max e p.2)=p:=Prod.ext (by show min e p.2=p.1;omega) (by show max e p.2=p.2;omega)
   rw[e1];exact h1
 ·intro h
  by_cases hx:e<=x
  ·have e1:(min e x,max e x)=(e,x):=Prod.ext (by show min e x=e;omega) (by show max e x=x;omega)
   rw[e1]at h
   exact .inr (az.mpr ⟨(e,x),ba.mpr ⟨h,by simp⟩,rfl⟩)
  ·have e1:(min e x,max e x)=(x,e):=Prod.ext (by show min e x=x;omega) (by show max e x=e;omega)
   rw[e1]at h
   exact .inl (az.mpr ⟨(x,e),ba.mpr ⟨h,by simp⟩,rfl⟩)
theorem oq {l:Ln}(ok:fz l){e x:Int}(h:x∈jn l.2 e):e∈jn l.2 x:=by
 rw[v3 ok]at h ⊢
 rw[show min x e=min e x by omega,show max x e=max e x by omega];exact h
theorem v5 {l:Ln}(ok:fz l){e x:Int}(h:x∈jn l.2 e):0<=x/\x<2*l.1:=by
 have:=ok.ends _ ((v3 ok).mp h)
 dsimp only at this
 omega
theorem tY {l:Ln}{ns:List Int}{e x:Int}(h:x∈fr l ns e):x∈jn l.2 e/\x/2∉ns.map (· / 2):=by
 obtain⟨h1,h2⟩:=ba.mp h
 exact⟨h1,by simpa using h2⟩
theorem h9.on {l:Ln}{ns:List Int}{e:Int}(ok:fz l)(T:h9 l ns)(hne:ns≠ [])(he:e∈fr l ns (oth (ns.getLastD 0))):h9 l (ns.drop 1 ++ [e]):=by
 obtain⟨h1,h2⟩:=tY he
 have hl:1<=ns.length:=by cases ns with |nil=>exact absurd rfl hne |cons x r=>simp
 refine⟨λx hx=>?_,?_,λi x y hx hy=>?_⟩
 ·rcases aL.mp hx with z |z
  ·exact T.ends x (List.mem_of_mem_drop z)
  ·have z:x=e:=by simpa using z
   rw[z];exact v5 ok h1
 ·rw[aw,cb]
  refine⟨by rw[eN];exact T.nd.sublist (List.drop_sublist _ _),by simp,λa ha b hb z=>?_⟩
  have hb:b=e/2:=by simpa using hb
  rw[eN]at ha
  exact h2 (by rw[<-hb,<-z];exact List.mem_of_mem_drop ha)
 ·have ld:(ns.drop 1).length=ns.length-1:=cS
  by_cases hi:i+1<(ns.drop 1).length
  ·rw[ao hi,cG]at hy
   rw[ao (by omega),cG]at hx
   exact T.ch (1+i) x y hx (by rw[<-hy];congr 1)
  ·have hlt:=(af.mp hy).1
   rw[ah,bG]at hlt
   have e1:i+1=(ns.drop 1).length:=by omega
   rw[e1,ar (aq _),b8]at hy
   cases hy
   rw[ao (by omega),cG]at hx
   have e2:ns.getLastD 0=x:=by
    rw[cY,eD,show ns.length-1=1+i by omega,hx];rfl
   rw[e2]at h1
   exact h1
theorem h9.back {l:Ln}{ns:List Int}{e:Int}(ok:fz l)(T:h9 l ns)(hne:ns≠ [])(he:e∈fr l ns (ns.headD 0)):h9 l (oth e::ns.dropLast):=by
 obtain⟨h1,h2⟩:=tY he
 have hl:1<=ns.length:=by cases ns with |nil=>exact absurd rfl hne |cons x r=>simp
 refine⟨λx hx=>?_,?_,λi x y hx hy=>?_⟩
 ·rcases aO.mp hx with z |z
  ·rw[z]
   have:=v5 ok h1
   unfold oth
   omega
  ·exact T.ends x ((List.dropLast_sublist ns).subset z)
 ·rw[aS,cn]
  refine⟨λz=>h2 ?_,?_⟩
  ·rw[qu]at z
   have:=(List.dropLast_sublist ns).map (· / 2)
   exact this.subset z
  ·exact T.nd.sublist ((List.dropLast_sublist ns).map _)
 ·cases i with
  |zero=>
   cases hx
   have hy:ns.dropLast[0]? = some y:=hy
   rw[mU]
   have hy2:ns[0]? = some y:=by
    have:=(af.mp hy).1
    rw[dC]at hy
    split at hy
    ·exact hy
    ·cases hy
   have e2:ns.headD 0=y:=by cases ns with |nil=>cases hy2 |cons a r=>cases hy2;rfl
   rw[e2]at h1
   exact oq ok h1
  |succ j=>
   have hx:ns.dropLast[j]? = some x:=hx
   have hy:ns.dropLast[j+1]? = some y:=hy
   rw[dC]at hx hy
   split at hx
   ·split at hy
    ·exact T.ch j x y hx hy
    ·cases hy
   ·cases hx
theorem zw {l:Ln}{ns:List Int}{m:Mv}(ok:fz l)(T:h9 l ns)(hne:ns≠ [])(hm:m∈mvs l ns):h9 l m.2/\m.2.length=ns.length/\m.2≠ []:=by
 have hl:1<=ns.length:=by cases ns with |nil=>exact absurd rfl hne |cons x r=>simp
 rcases aL.mp hm with z |z
 ·obtain⟨e,he,rfl⟩:=az.mp z
  refine⟨T.on ok hne he,?_,λe=>?_⟩
  ·simp only[onM,ah,cS,aX,List.length_nil];omega
  ·simp[onM]at e
 ·obtain⟨e,he,rfl⟩:=az.mp z
  refine⟨T.back ok hne he,?_,λe=>?_⟩
  ·simp only[oD,aX,cm];omega
  ·simp[oD]at e
theorem lA {α:Type} [DecidableEq α]:∀ {l1 l2:List α},l1.Nodup->(∀ x∈l1,x∈l2)->l1.length<=l2.length
 |[],_,_,_=>aM _
 |x::r,l2,nd,h=>by
  rw[cn]at nd
  have hx:=h x aC
  have:=lA (l1:=r) (l2:=l2.erase x) nd.2 λy hy=>by
   have:y≠x:=λz=>nd.1 (by rw[<-z];exact hy)
   exact(List.mem_erase_of_ne this).mpr (h y (aE _ hy))
  rw[List.length_erase_of_mem hx]at this
  have h1:1<=l2.length:=by cases l2 with |nil=>cases hx |cons a b=>simp
  rw[aX]
  omega
def q9 (l:Ln):List (Int×Int):=l.2.map (λp=>(oth p.1,p.2))++l.2.map λp=>(oth p.2,p.1)
def wu (l:Ln):List Int:=(List.range (2*l.1).toNat).map λi:Nat=>(i:Int)
def nh (l:Ln):Nat->List (List Int)
 | 0=>[[]]
 | 1=>(wu l).map λe=>[e]
 |n+2=>(q9 l).flatMap λp=>(nh l n).map λr=>p.1::p.2::r
theorem Bt {l:Ln}(ok:fz l){x y:Int}(h:y∈jn l.2 (oth x)):(x,y)∈q9 l:=by
 have h:=(v3 ok).mp h
 unfold q9
 rw[aL]
 by_cases hc:oth x<=y
 ·rw[show min (oth x) y=oth x by omega,show max (oth x) y=y by omega]at h
  exact .inl (az.mpr ⟨_,h,by rw[mU]⟩)
 ·rw[show min (oth x) y=y by omega,show max (oth x) y=oth x by omega]at h
  exact .inr (az.mpr ⟨_,h,by rw[mU]⟩)
theorem qV {l:Ln}(ok:fz l):∀ (n:Nat) (ns:List Int),ns.length=n->(∀ e∈ns,0<=e/\e<2*l.1)->(∀ (i:Nat) x y,ns[i]? = some x->ns[i+1]? = some y->y∈jn l.2 (oth x))->ns∈nh l n
 | 0,ns,hl,_,_=>by rw[List.eq_nil_of_length_eq_zero hl];exact aC
 | 1,[e],_,he,_=>by
  have:=he e aC
  refine az.mpr ⟨e,az.mpr ⟨e.toNat,by rw[eB];omega,by omega⟩,rfl⟩
 |n+2,x::y::r,hl,he,hc=>by
  refine List.mem_flatMap.mpr ⟨(x,y),Bt ok (hc 0 x y rfl rfl),az.mpr ⟨r,qV ok n r (by simpa using hl) (λe h=>he e (aE _ (aE _ h))) (λi a b ha hb=>hc (i+2) a b ha hb),rfl⟩⟩
theorem vB {l:Ln}(ok:fz l):∀ n,(nh l n).length<=160 ^ ((n+1)/2)
 | 0=>by simp[nh]
 | 1=>by
  simp only[nh,wu,aa,List.length_range]
  have:=ok.most
  omega
 |n+2=>by
  have ih:=vB ok n
  simp only[nh]
  rw[List.length_flatMap]
  have e1:(q9 l).map (λa=>((nh l n).map λr=>a.1::a.2::r).length)=(q9 l).map λ_=>(nh l n).length:=by
   refine List.map_congr_left λa _=>by rw[aa]
  rw[e1,List.map_const',List.sum_replicate_nat]
  have h1:(q9 l).length<=160:=by
   unfold q9
   rw[ah,aa,aa]
   have:=ok.len
   omega
  have e2:(n+2+1)/2=(n+1)/2+1:=by omega
  rw[e2,Nat.pow_succ,Nat.mul_comm (160 ^ _)]
  exact Nat.mul_le_mul h1 ih
theorem vH {l:Ln}(ok:fz l){n:Nat}(hn:n<=6){ts:List (List Int)}(nd:ts.Nodup)(h:∀ t∈ts,h9 l t/\t.length=n):ts.length<=4096000:=by
 have h1:=lA nd (l2:=nh l n) λt ht=>qV ok n t (h t ht).2 (h t ht).1.ends (h t ht).1.ch
 have h2:=vB ok n
 have h3:160 ^ ((n+1)/2)<=160 ^ 3:=Nat.pow_le_pow_right (by decide) (by omega)
 have h4:160 ^ 3=4096000:=by decide
 omega
abbrev Ent:=List Int×Option (List Int×(Str×Int))
def lJ (t:List Int)(o:List Ent)(m:Mv):List Ent:=if m.2∈o.map (·.1)then o else o ++ [(m.2,some (t,m.1))]
def fT (t:List Int)(ms:List Mv)(o:List Ent):List Ent:=ms.foldl (lJ t) o
def fy (l:Ln)(ns:List Int):Nat->List Ent
 | 0=>[(ns,none)]
 |i+1=>match (fy l ns i)[i]? with
  |some e=>fT e.1 (mvs l e.1) (fy l ns i)
  |none=>fy l ns i
theorem vE (t:List Int)(o:List Ent)(m:Mv):o <+:lJ t o m:=by
 unfold lJ
 split
 ·exact List.prefix_rfl
 ·exact List.prefix_append _ _
theorem mM (t:List Int)(ms:List Mv):∀ o,o <+:fT t ms o:=by
 induction ms with
 |nil=>exact λo=>List.prefix_rfl
 |cons m r ih=>exact λo=>(vE t o m).trans (ih _)
theorem qc {t:List Int}{ms:List Mv}{o:List Ent}{j:Nat}{m:Mv}(h:ms[j]? = some m):fT t (ms.take (j+1)) o=lJ t (fT t (ms.take j) o) m:=by
 unfold fT
 rw[bD,h,eJ];rfl
theorem lN {t:List Int}(ms:List Mv)(o:List Ent)(j:Nat):fT t (ms.take j) o <+:fT t ms o:=by
 have:fT t ms o=fT t (ms.drop j) (fT t (ms.take j) o):=by
  unfold fT
  rw[<-eJ,cL]
 rw[this]
 exact mM _ _ _
theorem kF {l:Ln}{ns:List Int}{i:Nat}{e:Ent}(h:(fy l ns i)[i]? = some e):fy l ns (i+1)=fT e.1 (mvs l e.1) (fy l ns i):=by
 rw[fy,h]
theorem mJ (l:Ln)(ns:List Int)(i:Nat):fy l ns i <+:fy l ns (i+1):=by
 rw[fy]
 split
 ·exact mM _ _ _
 ·exact List.prefix_rfl
theorem uk (l:Ln)(ns:List Int)(i:Nat):∀ k,fy l ns i <+:fy l ns (i+k)
 | 0=>List.prefix_rfl
 |k+1=>(uk l ns i k).trans (mJ l ns (i+k))
structure mI (l:Ln)(ns:List Int)(es:List Ent):Prop where
 tr:∀ e∈es,h9 l e.1/\e.1.length=ns.length/\e.1≠ []
 nd:(es.map (·.1)).Nodup
 ne:es≠ []
theorem mI.add {l:Ln}{ns t:List Int}{es:List Ent}{m:Mv}(ok:fz l)(h:mI l ns es)(hm:m∈mvs l t)(ht:h9 l t/\t.length=ns.length/\t≠ []):mI l ns (lJ t es m):=by
 unfold lJ
 split
 ·exact h
 ·rename_i hn
  obtain⟨h1,h2,h3⟩:=zw ok ht.1 ht.2.2 hm
  refine⟨λe he=>?_,?_,by simp⟩
  ·rcases aL.mp he with z |z
   ·exact h.tr e z
   ·have z:e=(m.2,some (t,m.1)):=by simpa using z
    rw[z];exact⟨h1,by show m.2.length=ns.length;omega,h3⟩
  ·rw[aw,cb]
   refine⟨h.nd,by simp,λa ha b hb z=>?_⟩
   have hb:b=m.2:=by simpa using hb
   exact hn (by rw[<-hb,<-z];exact ha)
theorem mI.scan {l:Ln}{ns t:List Int}(ok:fz l)(ht:h9 l t/\t.length=ns.length/\t≠ []):∀ {ms:List Mv}{es:List Ent},(∀ m∈ms,m∈mvs l t)->mI l ns es->mI l ns (fT t ms es)
 |[],_,_,h=>h
 |m::r,es,hm,h=>mI.scan (ms:=r) ok ht (λx hx=>hm x (aE _ hx)) (h.add ok (hm m aC) ht)
theorem jL {l:Ln}{ns:List Int}(ok:fz l)(T:h9 l ns)(hne:ns≠ []):∀ i,mI l ns (fy l ns i)
 | 0=>⟨λe he=>by have z:e=(ns,none):=(by simpa [fy]using he);rw[z];exact⟨T,rfl,hne⟩,by simp[fy],by simp[fy]⟩
 |i+1=>by
  have ih:=jL ok T hne i
  rw[fy]
  split
  ·rename_i e he
   exact mI.scan ok (ih.tr e (aA he)) (λm hm=>hm) ih
  ·exact ih
theorem mI.len {l:Ln}{ns:List Int}{es:List Ent}(ok:fz l)(h:mI l ns es)(hn:ns.length<=6):es.length<=4096000:=by
 have:=vH ok hn h.nd λt ht=>by
  obtain⟨e,he,rfl⟩:=az.mp ht
  exact⟨(h.tr e he).1,(h.tr e he).2.1⟩
 rw[aa]at this
 exact this
def okJ (m:Int)(p:Int×Int):Prop:=(0<=p.1/\p.1<2*m)/\(0<=p.2/\p.2<2*m)/\p.1<=p.2/\p.1/2≠p.2/2
structure gW (l:Ln):Prop where
 one:1<=l.1
 most:l.1<=14
 len:l.2.length<=24
 ok:∀ p∈l.2,okJ l.1 p
 nd:l.2.Nodup
theorem gW.jF {l:Ln}(G:gW l):fz l:=by
 have h1:=G.len
 refine⟨G.one,by have:=G.most;omega,by omega,λe=>?_,λp hp=>?_⟩
 ·have:=inc_le l.2 e;omega
 ·obtain⟨a,b,c,_⟩:=G.ok p hp
  exact⟨a.1,c,b.2⟩
structure Ren (m:Int)(nm es:List Int):Prop where
 len:(nm.length:Int)=m
 nb:∀ x∈nm,0<=x/\x<m
 nd:nm.Nodup
 yq:es.length=2*nm.length
 at_:∀ j,j<nm.length->∃ f:Int,(f=0\/f=1)/\es[2*j]? = some (2*nm.getD j 0+f)/\es[2*j+1]? = some (2*nm.getD j 0+1-f)
def rho (es:List Int)(e:Int):Int:=es.getD e.toNat 0
def rj (es:List Int)(p:Int×Int):Int×Int:=(min (rho es p.1) (rho es p.2),max (rho es p.1) (rho es p.2))
theorem Ren.rho {m:Int}{nm es:List Int}(R:Ren m nm es){e:Int}(h0:0<=e)(h1:e<2*m):
  ∃ f:Int,(f=0\/f=1)/\TL.rho es e=2*nm.getD (e/2).toNat 0+(if e%2=0 then f else 1-f)/\
   ∀ e',0<=e'->e'/2=e/2->TL.rho es e'=2*nm.getD (e/2).toNat 0+(if e'%2=0 then f else 1-f):=by
 have hl:=R.len
 obtain⟨f,hf,e1,e2⟩:=R.at_ (e/2).toNat (by omega)
 have key:∀ e',0<=e'->e'/2=e/2->TL.rho es e'=2*nm.getD (e/2).toNat 0+(if e'%2=0 then f else 1-f):=λe' h2 h3=>by
  unfold TL.rho
  by_cases c:e'%2=0
  ·rw[aH c,aP,show e'.toNat=2*(e/2).toNat by omega,e1];rfl
  ·rw[ax c,aP,show e'.toNat=2*(e/2).toNat+1 by omega,e2]
   show 2*nm.getD (e/2).toNat 0+1-f=_
   omega
 exact⟨f,hf,key e h0 rfl,key⟩
theorem Ren.wX {m:Int}{nm es:List Int}(R:Ren m nm es){e:Int}(h0:0<=e)(h1:e<2*m):TL.rho es e/2=nm.getD (e/2).toNat 0:=by
 obtain⟨f,hf,e1,_⟩:=R.rho h0 h1
 rw[e1]
 split<;>omega
theorem Ren.Eo {m:Int}{nm es:List Int}(R:Ren m nm es){p:Int}(h0:0<=p)(h1:p<m):0<=nm.getD p.toNat 0/\nm.getD p.toNat 0<m:=by
 have hl:=R.len
 have h2:p.toNat<nm.length:=by omega
 have:nm.getD p.toNat 0=nm[p.toNat]:=by rw[aP,ae h2];rfl
 rw[this]
 exact R.nb _ (eS h2)
theorem Ren.zu {m:Int}{nm es:List Int}(R:Ren m nm es){p q:Int}(h0:0<=p)(h1:p<m)(g0:0<=q)(g1:q<m)(e:nm.getD p.toNat 0=nm.getD q.toNat 0):p=q:=by
 have hl:=R.len
 have h2:p.toNat<nm.length:=by omega
 have h3:q.toNat<nm.length:=by omega
 have e1:nm.getD p.toNat 0=nm[p.toNat]:=by rw[aP,ae h2];rfl
 have e2:nm.getD q.toNat 0=nm[q.toNat]:=by rw[aP,ae h3];rfl
 rw[e1,e2]at e
 have:=(cU R.nd).mp e
 omega
theorem Ren.yT {m:Int}{nm es:List Int}(R:Ren m nm es){e:Int}(h0:0<=e)(h1:e<2*m):0<=TL.rho es e/\TL.rho es e<2*m:=by
 obtain⟨f,hf,e1,_⟩:=R.rho h0 h1
 have:=R.Eo (p:=e/2) (by omega) (by omega)
 rw[e1]
 split<;>omega
theorem Ren.inj {m:Int}{nm es:List Int}(R:Ren m nm es){e e':Int}(h0:0<=e)(h1:e<2*m)(g0:0<=e')(g1:e'<2*m)(h:TL.rho es e=TL.rho es e'):e=e':=by
 have hp:e/2=e'/2:=by
  have a:=R.wX h0 h1
  have b:=R.wX g0 g1
  rw[h,b]at a
  exact(R.zu (by omega) (by omega) (by omega) (by omega) a).symm
 obtain⟨f,hf,e1,e2⟩:=R.rho h0 h1
 rw[e1,e2 e' g0 hp.symm]at h
 by_cases c:e%2=0<;>by_cases d:e'%2=0
 ·omega
 ·rw[aH c,ax d]at h;omega
 ·rw[ax c,aH d]at h;omega
 ·omega
theorem Ren.okJ {m:Int}{nm es:List Int}(R:Ren m nm es){p:Int×Int}(h:TL.okJ m p):TL.okJ m (rj es p):=by
 obtain⟨⟨a0,a1⟩,⟨b0,b1⟩,le,ne⟩:=h
 have ha:=R.yT a0 a1
 have hb:=R.yT b0 b1
 have pa:=R.wX a0 a1
 have pb:=R.wX b0 b1
 have hne:TL.rho es p.1/2≠TL.rho es p.2/2:=λz=>by
  rw[pa,pb]at z
  exact ne (R.zu (by omega) (by omega) (by omega) (by omega) z)
 unfold TL.okJ rj
 dsimp only
 generalize TL.rho es p.1=x at *
 generalize TL.rho es p.2=y at *
 refine⟨by omega,by omega,by omega,λz=>?_⟩
 by_cases c:x<=y
 ·rw[dg c,cW c]at z;exact hne z
 ·rw[cV (by omega),dh (by omega)]at z;exact hne z.symm
theorem okJ.lt {m:Int}{p:Int×Int}(h:okJ m p):p.1<p.2:=by
 obtain⟨_,_,le,ne⟩:=h
 by_cases c:p.1=p.2
 ·rw[c]at ne;exact absurd rfl ne
 ·omega
theorem Er {a b c d:Int}(h1:min a b=min c d)(h2:max a b=max c d):(a=c/\b=d)\/(a=d/\b=c):=by
 rcases Int.le_total a b with x |x<;>rcases Int.le_total c d with y |y
 ·rw[dg x,dg y]at h1;rw[cW x,cW y]at h2;exact .inl ⟨h1,h2⟩
 ·rw[dg x,cV y]at h1;rw[cW x,dh y]at h2;exact .inr ⟨h1,h2⟩
 ·rw[cV x,dg y]at h1;rw[dh x,cW y]at h2;exact .inr ⟨h2,h1⟩
 ·rw[cV x,cV y]at h1;rw[dh x,dh y]at h2;exact .inl ⟨h2,h1⟩
theorem Ren.Cd {m:Int}{nm es:List Int}(R:Ren m nm es){p q:Int×Int}(hp:TL.okJ m p)(hq:TL.okJ m q)(e:rj es p=rj es q):p=q:=by
 obtain⟨⟨a0,a1⟩,⟨b0,b1⟩,le,ne⟩:=id hp
 obtain⟨⟨c0,c1⟩,⟨d0,d1⟩,le',ne'⟩:=id hq
 have l1:=hp.lt
 have l2:=hq.lt
 unfold rj at e
 rw[Prod.mk.injEq]at e
 obtain⟨e1,e2⟩:=e
 obtain⟨pa,pb⟩:=p
 obtain⟨qa,qb⟩:=q
 dsimp only at *
 have hor:=Er e1 e2
 rcases hor with⟨x,y⟩|⟨x,y⟩
 ·rw[R.inj a0 a1 c0 c1 x,R.inj b0 b1 d0 d1 y]
 ·have:=R.inj a0 a1 d0 d1 x
  have:=R.inj b0 b1 c0 c1 y
  omega
theorem Ren.line {m:Int}{nm es:List Int}(R:Ren m nm es){js js':List (Int×Int)}(G:gW (m,js))(hp:js'.Perm (js.map (rj es))):gW (m,js'):=by
 refine⟨G.one,G.most,?_,λp h=>?_,?_⟩
 ·have:=hp.length_eq
  rw[aa]at this
  show js'.length<=24
  have:=G.len
  dsimp only at this
  omega
 ·obtain⟨q,hq,rfl⟩:=az.mp (hp.mem_iff.mp h)
  exact R.okJ (G.ok q hq)
 ·refine hp.nodup_iff.mpr ?_
  rw[List.Nodup,bU]
  exact cB (λ{a b} ha hb hab z=>hab (R.Cd (G.ok a ha) (G.ok b hb) z)) G.nd
def Kh (K:PySem.W.Frag)(H:Hp)(Q:VK):Prop:=∀ (v:V) (l:Ln) (H':Hp),fg H H'->Da K H' (dL l) v->gW l->Q v H'
end TL
namespace TL
theorem wk {m:Int}{js:List (Int×Int)}{a b:Int}(G:gW (m,js))(ne:a/2≠b/2)(a0:0<=a)(a1:a<2*m)(b0:0<=b)(b1:b<2*m)(hn:(min a b,max a b)∉js)(hl:js.length<24):gW (m,js ++ [(min a b,max a b)]):=by
 refine⟨G.one,G.most,?_,λp hp=>?_,?_⟩
 ·show(js ++ [(min a b,max a b)]).length<=24
  rw[ah];show js.length+1<=24;omega
 ·rcases aL.mp hp with z |z
  ·exact G.ok p z
  ·have z:p=(min a b,max a b):=by simpa using z
   subst z
   unfold okJ
   dsimp only
   refine⟨by omega,by omega,by omega,λz=>?_⟩
   by_cases c:a<=b
   ·rw[dg c,cW c]at z;exact ne z
   ·rw[cV (by omega),dh (by omega)]at z;exact ne z.symm
 ·refine cb.mpr ⟨G.nd,by simp,λx hx y hy=>?_⟩
  have hy:y=(min a b,max a b):=by simpa using hy
  rw[hy]
  exact λz=>hn (z ▸ hx)
open PySem PySem.Spec PyProof.Rows L2
section
variable {prog:Program}{w:World}{A:Around}{E:Value->Shared->Prop}{s:Shared}{l b:Addr}{items Ie:Array Value}{n n2:Nat}
end
section
variable {X:Cx}
end
abbrev TF:=St->Hp->Str->(Str->Hp->Prop)->Prop
section
variable {X:Cx}{e:Expr}{es:List Expr}{te:TE}{tf:TF}{pos:Pos}
end
section
variable {X:Cx}
end
section
variable {prog:Program}{w:World}{A:Around}{E:Value->Shared->Prop}{s:Shared}
end
section
variable {X:Cx}{pos:Pos}
end
section
variable {prog:Program}{w:World}{A:Around}{E:Value->Shared->Prop}{s:Shared}
end
section
variable {X:Cx}{pos:Pos}
end
section
variable {X:Cx}
end
section
variable {X:Cx}{tg e:Expr}{te:TE}
end
end TL
namespace TS
open PySem
open SetTable
def adv (mask:Nat)(p:Probe):Probe:=
 if p.more>0 then {p with j:=p.j+1,more:=p.more-1} else
 {p with j:=(leap mask p.i p.perturb).1,more:=runEnd mask (leap mask p.i p.perturb).1-(leap mask p.i p.perturb).1,i:=(leap mask p.i p.perturb).1,perturb:=(leap mask p.i p.perturb).2}
def pAt (mask:Nat)(h:Int):Nat->Probe
 | 0=>{j:=bits h%(mask+1),more:=runEnd mask (bits h%(mask+1))-bits h%(mask+1),i:=bits h%(mask+1),perturb:=bits h,dummy:=none}
 |n+1=>adv mask (pAt mask h n)
open SetTable
def Bu (mask:Nat)(taken:List Nat)(h:Int)(j:Nat):Prop:=∃ n,(pAt mask h n).j=j/\∀ m,m<n->(pAt mask h m).j∈taken
structure WFT (t:SetTable)(hs:List Int):Prop where
 pow:∃ k,3<=k/\t.mask+1=2 ^ k
 small:t.mask<=8191
 dum:t.dummies = #[]
 rise:t.place.toList.Pairwise (· < ·)
 all:∀ j∈t.place.toList,j<=t.mask
 len:t.place.size=hs.length
 room:hs.length*5<t.mask*3
 reach:∀ i (h:i<hs.length) j,t.place[i]? = some j->Bu t.mask t.place.toList hs[i] j
open SetTable
end TS
namespace TL
open PySem TS
section
variable {prog:Program}{w:World}{K:Type} [DecidableEq K] {knd:KeyKind prog w K}{A:Around}{E:Value->Shared->Prop}{s:Shared}
def IF (knd:KeyKind prog w K)(x:List K×Addr):Int×Value:=(tupleKeyHash knd x.1,.ref x.2)
def Kg (knd:KeyKind prog w K)(h:Heap)(a:Addr)(xs:List (List K×Addr)):Prop:=
 ∃ o es ep t,h.get? a=some o/\o.ExactSet/\o.data = .set es ep t/\es.toList=xs.map (IF knd)/\(xs.map (·.1)).Nodup/\WFT t (xs.map λx=>tupleKeyHash knd x.1)
end
section
variable {prog:Program}{w:World}{K:Type} [DecidableEq K] {knd:KeyKind prog w K}{A:Around}{E:Value->Shared->Prop}{s:Shared}
end
open PySem.Spec PyProof.Rows L2
def Kf (P:Program)(w:World)(a:Addr)(xs:List (List Key×Addr)):HO:=.ext λh=>Kg (g9 P w) h a xs
abbrev keysOf (xs:List (List Key×Addr)):List (List Key):=xs.map λx=>x.1
section
variable {X:Cx}{pins:List (Addr×Obj)}{σ:St}{H:Hp}{s:Shared}
end
section
variable {prog:Program}{w:World}{A:Around}{R:Result->Shared->Prop}{I:Addr}{fp wr:List Addr}{G:Array GenState->Array GenState->Prop}{n:Nat}{P:Nat->Value->Prop}{St:Nat->Shared->Prop}
end
section
variable {prog:Program}{w:World}{A:Around}{E:Value->Shared->Prop}{s:Shared}
end
section
variable {X:Cx}
end
section
variable {X:Cx}{o e:Expr}{es:List Expr}{to:TE}{t:TA}{name:Str}{apos lI:Pos}{id:String}{r:V->List V->Hp->VK->Prop}
end
open HT
section
variable {prog:Program}{w:World}{A:Around}{E:Value->Shared->Prop}{s:Shared}
end
section
variable {X:Cx}{e:Expr}{te:TE}{pos p2:Pos}
end
section
variable {X:Cx}{a b c d:Expr}{ta tb tc td:TE}{pos:Pos}
end
end TL
namespace TL
open PySem PySem.Spec PyProof.Rows L2
section
variable {X:Cx}
theorem t8:jh X (.builtin "isinstance") (λxs H Q=>∃ a ys c b,xs = [.ref a,.ty c]/\SqL X.K H a ys/\PySem.W.kitOne X.K (.type "list") (.type c)=some b/\Q (.bl b) H):=by
 intro pins s σ H xs us Q I r h
 obtain⟨a,ys,c,b,rfl,hq,e,q⟩:=h
 obtain⟨u,u2,rfl,ru,rc⟩:=vals2 r
 cases rc
 cases ru
 obtain⟨its,rv,p,hz⟩:=I.list hq
 obtain⟨o,h1,h2,_⟩:=p.isList
 exact bN PySem.W.kitx_list I.kIn ⟨o,h1,h2⟩ e (λz=>nomatch z) λtk=>⟨.bl b,H,I.tok tk,rfl,q⟩
theorem tR {K:PySem.W.Frag} :PySem.W.kitOne K (.type "int") (.type "bool")=some false:=by
 unfold PySem.W.kitOne PySem.W.kitCls
 rfl
end
section
variable {X:Cx}
end
section
variable {X:Cx}{K:PySem.W.Frag}{T:String}{name:Str}{id:String}{r:V->List V->Hp->VK->Prop}{o e:Expr}{es:List Expr}{to:TE}{t:TA}{apos lI:Pos}
end
section
variable {K:PySem.W.Frag}{l:Addr}{g:TG}{tt:TT}{te:TE}{cap:List (Option Nat)}{σ:St}{Q:VK}{H1:Hp}{J:It}
end
section
variable {X:Cx}
end
open PySem.W
def ev {α:Type} :List α->List α
 |[]=>[]
 |[x]=>[x]
 |x::_::r=>x::ev r
section
variable {X:Cx}{e st lo:Expr}{te ts tl:TE}{pos p2:Pos}
end
section
variable {X:Cx}{tg:Expr}
end
section
variable {X:Cx}
end
section
variable {X:Cx}
end
def ItD (hi:Int)(n:Nat):It:=⟨λi _=>i<n,λi H x H'=>H'=H/\x = .int (hi+(i:Int) * -1),λi _=>n<=i⟩
theorem uq {P:Program}{w:World}{K:PySem.W.Frag}{tg:Expr}(it:Addr)(hi:Int)(n:Nat):Turn P w K tg (ItD hi n) [it] it (λi h=>IsRangeIter h it (hi+(i:Nat) * -1) ((n:Int)-(i:Nat)) (-1)) where
 mem:=by simp
 obj:=λi h st b hb=>by
  have e:b=it:=by simpa using hb
  subst e
  exact⟨_,st,λv z=>by
   have z':Data.fields _=Data.cell v:=z
   cases z'⟩
 keep:=λi h h' st k=>k it (by simp) _ st
 item:=by
  intro X hP hw hK hc i pins s σ H E I hf st hg
  subst hP hw hK
  obtain⟨f0,f1,f2,f3,f4,f5⟩:=hf it (by simp)
  have W:=Walks.range (prog:=X.prog) (w:=X.w) (I.ok.hd hc) it hi (-1) n
  refine W.item i s _ _ hg st λv h' tk hv st' kk=>?_
  obtain⟨t,rfl⟩:=hv
  have I1:Inv X pins σ H {s with heap:=h',toks:=tk} :=I.turned (λb o hb e=>kk b o (by simpa using hb) e) f0 f1 f3 f4 f5
  exact⟨_,rfl,xn (s:={s with heap:=h',toks:=tk}) (n:= "range_iterator") st' rfl rfl (by decide) ⟨.int (hi+(i:Int) * -1),H,I1,⟨t,rfl⟩,⟨rfl,rfl⟩,st',λb hb=>(hf b hb).1⟩⟩
 done:=by
  intro X hP hw hK hc i pins s σ H E I hf st hg
  subst hP hw hK
  obtain⟨f0,f1,f2,f3,f4,f5⟩:=hf it (by simp)
  exact wpAny_pyNext_range_end (I.ok.hd hc) st (by have:n<=i:=hg;omega) λh' eb=>⟨rfl,I.turned (t':=s.toks) (λb o hb e=>eb b o hb e) f0 f1 f3 f4 f5⟩
 self:=λ_ _ _ _ _ st h=>wpAny_pyIter_rangeiter st h
section
variable {X:Cx}{tg:Expr}
end
end TL
namespace TL
open PySem PySem.Spec PyProof.Rows L2 TS
section
variable {prog:Program}{w:World}{A:Around}{R:Result->Shared->Prop}{s:Shared}
end
section
variable {X:Cx}{pins:List (Addr×Obj)}{σ:St}{H1:Hp}{s2:Shared}{scope:Scope}{N:List Str}{own:Nat}{cap:List (Option Nat)}{cl:List (Str×Addr)}{fp:List Addr}
 {tg iter elt vlt:Expr}{ifs:List Expr}{pos:Pos}{g:TG}{tt:TT}{te tv:TE}{wi:TI}
end
section
variable {X:Cx}{pins:List (Addr×Obj)}{σ:St}{H1:Hp}{s2:Shared}{scope:Scope}{N:List Str}{own:Nat}{cap:List (Option Nat)}{cl:List (Str×Addr)}{fp:List Addr}
 {tg iter elt vlt:Expr}{ifs:List Expr}{pos:Pos}{g:TG}{tt:TT}{te tv:TE}{wi:TI}
end
end TL
namespace L2
open PySem PySem.Spec PySem.Calls PyProof.Rows PySem.W
section
variable {X:Cx}{body wI:List Stmt}{b₀:Stmt}{x:Str}{np CY pos:Pos}{D:Addr}{tb:(St->XK)->TS}{th:TS}
end
end L2
namespace TL
open PySem PySem.Spec PyProof.Rows L2
theorem tS {l:Int×List (Int×Int)}(h:fz l)(e:Int):(jn l.2 e).length<=160:=by
 unfold jn
 rw[nF,ah]
 exact h.inc e
theorem qO {l:Int×List (Int×Int)}(h:fz l)(ns:List Int)(e:Int):(fr l ns e).length<=160:=bF (bH _ _) (tS h e)
theorem ni {α β:Type}(f:α->β)(l:List α)(i:Nat)(x:α)(h:l[i]? = some x):(l.take (i+1)).map f=(l.take i).map f ++ [f x]:=by
 rw[bD,h,aw];rfl
theorem mB:∀ (ds:List PyData),(∀ d∈ds,d.canLay0=true)->PyData.canLayAll0 ds=true
 |[],_=>by simp[PyData.canLayAll0]
 |d::ds,h=>by
  simp only[PyData.canLayAll0,dN]
  exact⟨h d aC,mB ds λx hx=>h x (aE _ hx)⟩
def dM (k:Str×Int):PyData:=.tuple [.str k.1,.int k.2]
theorem BD {K:PySem.W.Frag}{H H1:Hp}{p:Addr}{ms:List Mv}{vs:List V}{i:Nat}{y:V}(D:Dgs (Lf H H1 p) (SqT K H1) (ms.map dMv) vs)(hy:vs[i]? = some y):
  ∃ m ad p1 b,ms[i]? = some m/\y = .ref ad/\SqT K H1 ad [.ref p1,.ref b]/\Da K H1 (dM m.1) (.ref p1)/\H1 b=some (.lst (m.2.map V.int))/\H b=none/\b≠p:=by
 obtain⟨d,e1,hd⟩:=Dgs.get D hy
 rw[aj]at e1
 cases q:ms[i]? with
 |none=>rw[q]at e1;cases e1
 |some m=>
  rw[q]at e1
  cases e1
  unfold dMv at hd
  obtain⟨ad,us,rfl,ht,q⟩:=hG.mp hd
  obtain⟨v1,r,rfl,h1,q⟩:=fN.mp q
  obtain⟨v2,r,rfl,h2,q⟩:=fN.mp q
  cases fV.mp q
  have h1':Da K H1 (dM m.1) v1:=Dg.mono (λa us h=>SqL.of h.1) (λ_ _ h=>h) h1
  obtain⟨p1,_,rfl,_,_⟩:=hG.mp h1
  unfold dI at h2
  obtain⟨b,zs,rfl,⟨l1,l2,l3⟩,hz⟩:=h7.mp h2
  rw[kO.mp hz]at l1
  exact⟨m,ad,p1,b,rfl,rfl,ht,h1',l1,l2,l3⟩
def dLI (xss:List (List Int)):PyData:=.list (xss.map dI)
theorem tL (xss:List (List Int)):OkD (dLI xss):=by
 refine⟨?_,?_⟩
 ·simp only[dLI,PyData.canLay0]
  refine mB _ λd hd=>?_
  obtain⟨m,hm,rfl⟩:=az.mp hd
  exact(oj m).1
 ·simp only[dLI,PyData.depth]
  have:=gD (f:=dI) (k:=1) (λm=>by
   simp only[dI,PyData.depth]
   have:=gD (f:=PyData.int) (k:=0) (λ_=>by simp[PyData.depth]) m
   omega) xss
  omega
abbrev Ma:=Mv×Addr×Addr
theorem h9.snoc {l:Int×List (Int×Int)}{ns:List Int}{x:Int}(ok:fz l)(T:h9 l ns)(hne:ns≠ [])(hx:x∈fr l ns (oth (ns.getLastD 0))):h9 l (ns ++ [x]):=by
 obtain⟨h1,h2⟩:=ba.mp hx
 have h2:¬x/2∈ns.map (· / 2):=by simpa using h2
 refine⟨λe he=>?_,?_,λi a b ha hb=>?_⟩
 ·rcases aL.mp he with z |z
  ·exact T.ends e z
  ·have z:e=x:=by simpa using z
   rw[z];exact v5 ok h1
 ·rw[aw,cb]
  refine⟨T.nd,by simp,λa ha b hb=>?_⟩
  have hb:b=x/2:=by simpa using hb
  intro z
  exact h2 (by rw[<-hb,<-z];exact ha)
 ·by_cases hi:i+1<ns.length
  ·rw[ao hi]at hb
   rw[ao (by omega)]at ha
   exact T.ch i a b ha hb
  ·have hlt:i+1<(ns ++ [x]).length:=(af.mp hb).1
   rw[ah,bG]at hlt
   have e1:i+1=ns.length:=by omega
   rw[e1,ar (aq _),b8]at hb
   cases hb
   rw[ao (by omega)]at ha
   have e2:ns.getLastD 0=a:=by
    rw[cY,eD]
    have:ns.length-1=i:=by omega
    rw[this,ha];rfl
   rw[e2]at h1
   exact h1
theorem Jb {K:PySem.W.Frag}{H:Hp}{k:Str×Int}{v:V}(h:Da K H (dM k) v):∃ a,v = .ref a/\SqT K H a [.str k.1,.int k.2]:=by
 unfold dM at h
 obtain⟨a,vs,rfl,ht,q⟩:=hG.mp h
 obtain⟨v1,r,rfl,h1,q⟩:=fN.mp q
 obtain⟨v2,r,rfl,h2,q⟩:=fN.mp q
 cases fV.mp q
 cases nL.mp h1
 cases iq.mp h2
 exact⟨a,rfl,ht⟩
abbrev Ko (cs:List Ma):List Mv:=cs.map (·.1)
open TS
def kyI (t:List Int):List Key:=t.map Sum.inl
theorem kc (t:List Int):(kyI t).map kV=t.map V.int:=by
 unfold kyI;rw[bP];rfl
theorem tQ {a b:List Int}(h:kyI a=kyI b):a=b:=by
 unfold kyI at h
 induction a generalizing b with
 |nil=>cases b with |nil=>rfl |cons y r=>cases h
 |cons x r ih=>
  cases b with
  |nil=>cases h
  |cons y s=>
   rw[aS,aS,List.cons.injEq]at h
   rw[Sum.inl.inj h.1,ih h.2]
abbrev Rows:=List (List Int×Int)
def D6 (l:Ln)(tr s:List Int):Prop:=s.length=tr.length/\s≠ []/\h9 l s
def Fd (l:Ln)(tr:List Int)(ss:List (List Int)):Prop:=ss.Nodup/\∀ s∈ss,D6 l tr s
def gH (rows:Rows)(s:List Int):Option Int:=(rows.find? λr=>decide (r.1=s)).map (·.2)
def Ea (l:Ln)(rows:Rows)(r:List Int×Int):Prop:=∀ m∈mvs l r.1,∃ n,gH rows m.2=some n/\n<=r.2+1
def Fe (l:Ln)(tr:List Int)(rows:Rows):Prop:=Fd l tr (rows.map (·.1))/\gH rows tr=some 0/\∀ r∈rows,Ea l rows r
def kvR (rows:Rows):List (List Key×V):=rows.map λr=>(kyI r.1,V.int r.2)
theorem xh (rows:Rows)(s:List Int):i8 (kvR rows) (kyI s)=(gH rows s).map V.int:=by
 unfold i8 gH kvR
 rw[List.find?_map,Option.map_map,Option.map_map]
 have:((λkv:List Key×V=>decide (kv.1=kyI s)) ∘ λr:List Int×Int=>(kyI r.1,V.int r.2)) = λr=>decide (r.1=s):=by
  funext r
  show decide (kyI r.1=kyI s)=decide (r.1=s)
  by_cases h:r.1=s
  ·rw[bC h,bC (by rw[h])]
  ·rw[bo h,bo λz=>h (tQ z)]
 rw[this]
 rfl
theorem kK {rows:Rows}(nd:(rows.map (·.1)).Nodup){r:List Int×Int}(h:r∈rows):gH rows r.1=some r.2:=by
 unfold gH
 induction rows with
 |nil=>cases h
 |cons q qs ih=>
  rw[aS,cn]at nd
  by_cases e:q.1=r.1
  ·rw[List.find?_cons_of_pos (by simpa using e)]
   rcases aO.mp h with z |z
   ·rw[z];rfl
   ·exact absurd (az.mpr ⟨r,z,e.symm⟩) nd.1
  ·rw[List.find?_cons_of_neg (by simpa using e)]
   rcases aO.mp h with z |z
   ·exact absurd (by rw[z]) e
   ·exact ih nd.2 z
theorem jm {rows:Rows}{s:List Int}{n:Int}(h:gH rows s=some n):(s,n)∈rows:=by
 unfold gH at h
 cases q:rows.find? λr=>decide (r.1=s)with
 |none=>rw[q]at h;cases h
 |some r=>
  rw[q]at h
  have h1:=List.mem_of_find?_eq_some q
  have h2:r.1=s:=by simpa using List.find?_some q
  have h3:r.2=n:=by simpa using h
  rw[<-h2,<-h3];exact h1
theorem qG {rows:Rows}{s:List Int}(h:gH rows s=none):s∉rows.map (·.1):=λz=>by
 obtain⟨r,hr,e⟩:=az.mp z
 unfold gH at h
 rw[Option.map_eq_none_iff,List.find?_eq_none]at h
 exact h r hr (by simpa using e)
theorem vi:∀ (a b:List Int),PyData.eqvAll (a.map PyData.int) (b.map PyData.int)=decide (a=b)
 |[],[]=>by simp[PyData.eqvAll]
 |[],y::b=>by simp[PyData.eqvAll]
 |x::a,[]=>by simp[PyData.eqvAll]
 |x::a,y::b=>by
  rw[aS,aS,PyData.eqvAll,vi a b,cg]
  simp[PyData.eqv]
theorem BL (a b:List Int):PyData.eqv (dI a) (dI b)=decide (a=b):=by
 unfold dI
 rw[PyData.eqv,vi]
theorem Ak (ss:List (List Int))(t:List Int):((ss.map dI).any λz=>PyData.eqv z (dI t))=decide (t∈ss):=by
 rw[List.any_map,cg,eT,cF]
 constructor
 ·rintro⟨y,hy,e⟩
  have e:PyData.eqv (dI y) (dI t)=true:=e
  rw[BL,cF]at e
  exact e ▸ hy
 ·exact λh=>⟨t,h,by show PyData.eqv (dI t) (dI t)=true;rw[BL];exact bC rfl⟩
theorem w6 (ss:List (List Int)):Bw (ss.map dI):=by
 have h:=tL ss
 unfold dLI at h
 refine⟨by have:=h.1;rwa [PyData.canLay0]at this,?_⟩
 have:=h.2
 rw[PyData.depth]at this
 omega
def Bz (l:Ln)(tr:List Int)(ss:List (List Int)):Prop:=ss.Nodup/\tr∈ss/\∀ s∈ss,D6 l tr s/\∀ m∈mvs l s,m.2∈ss
def Ce (l:Ln)(tr:List Int)(rows:Rows):Prop:=∀ r∈rows,(r.1=tr->r.2=0)/\∀ q∈rows,q.1∈(mvs l r.1).map (·.2)->q.2<=r.2+1
theorem Aj {l:Ln}{tr:List Int}{rows:Rows} :Fe l tr rows↔Bz l tr (rows.map (·.1))/\Ce l tr rows:=by
 constructor
 ·rintro⟨⟨nd,st⟩,h0,h1⟩
  refine⟨⟨nd,az.mpr ⟨_,jm h0,rfl⟩,λs hs=>⟨st s hs,λm hm=>?_⟩⟩,λr hr=>⟨λe=>?_,λq hq hm=>?_⟩⟩
  ·obtain⟨r,hr,rfl⟩:=az.mp hs
   obtain⟨n,hn,_⟩:=h1 r hr m hm
   exact az.mpr ⟨_,jm hn,rfl⟩
  ·have:=kK nd hr
   rw[e,h0]at this
   exact(aZ this).symm
  ·obtain⟨m,hm1,hm2⟩:=az.mp hm
   obtain⟨n,hn,hle⟩:=h1 r hr m hm1
   have:=kK nd hq
   rw[<-hm2,hn]at this
   cases this
   exact hle
 ·rintro⟨⟨nd,ht,st⟩,h1⟩
  obtain⟨r,hr,e⟩:=az.mp ht
  refine⟨⟨nd,λs hs=>(st s hs).1⟩,?_,λr hr m hm=>?_⟩
  ·have:=kK nd hr
   rw[(h1 r hr).1 e,show r.1=tr from e]at this
   exact this
  ·obtain⟨q,hq,e⟩:=az.mp ((st r.1 (az.mpr ⟨r,hr,rfl⟩)).2 m hm)
   have e:q.1=m.2:=e
   exact⟨q.2,by rw[<-e];exact kK nd hq,(h1 r hr).2 q hq (az.mpr ⟨m,hm,e.symm⟩)⟩
end TL
namespace TL
open PySem TS
section
variable {prog:Program}{w:World}{A:Around}{E:Value->Shared->Prop}{s:Shared}
end
open PyProof.Rows PySem.W
section
variable {prog:Program}{w:World}{A:Around}{E:Value->Shared->Prop}{s:Shared}{it a:Addr}{o:Obj}{es:Array (Int×Value)}{ep:Nat}{t:SetTable}{hs:List Int}{i j:Nat}
end
section
variable {prog:Program}{w:World}{A:Around}{E:Value->Shared->Prop}{s:Shared}{a:Addr}{ep:Nat}{xs:List (Int×Tok)}
end
end TL
namespace TL
open PySem PySem.Spec PyProof.Rows L2 TS
section
variable {X:Cx}{pins:List (Addr×Obj)}{σ:St}{H:Hp}{s:Shared}
end
section
variable {X:Cx}{o e:Expr}{es:List Expr}{to:TE}{t:TA}{name:Str}{apos lI:Pos}{id:String}{r:V->List V->Hp->VK->Prop}
end
end TL
namespace L2
open PySem PySem.Spec PyProof.Rows
section
variable {P:Program}{w:World}{K:PySem.W.Frag}{mg:Str->Option Value}{base:Heap}
end
end L2
namespace TL
open PySem PySem.Spec PyProof.Rows L2 TS
def jM (lo:Int)(n:Nat):List Int:=(List.range n).map λi:Nat=>lo+(i:Int)
theorem j8 (lo:Int)(n:Nat):(jM lo n).length=n:=by simp[jM]
theorem qh {lo:Int}{n i:Nat}(h:i<n):(jM lo n)[i]? = some (lo+(i:Int)):=by simp[jM,h]
theorem uE {lo x:Int}{n:Nat} :x∈jM lo n↔lo<=x/\x<lo+n:=by
 unfold jM
 rw[az]
 constructor
 ·rintro⟨i,hi,rfl⟩
  have:=eB.mp hi
  omega
 ·rintro⟨h1,h2⟩
  exact⟨(x-lo).toNat,eB.mpr (by omega),by omega⟩
theorem AH (lo:Int)(n:Nat):(jM lo n).Pairwise (· < ·):=by
 unfold jM
 rw[bU]
 exact cA (λ{a b} h=>by omega) (List.pairwise_lt_range)
section
variable {X:Cx}
theorem yy:jh X (.type "range") (λxs H Q=>∃ j:Int,xs = [.int j]/\∀ p,H p=none->Q (.ref p) (upd H p (.rng 0 j))):=by
 intro pins s σ H xs us Q I r h
 obtain⟨j,rfl,q⟩:=h
 obtain⟨u,rfl,ru⟩:=vals1 r
 obtain⟨t,rfl⟩:=ru
 refine call_range_1 ?_
 exact⟨.ref _,_,I.laid (t':=s.toks+1+1) (o:=.rng 0 j) (λb u e=>aJ _ e) (aq _) ⟨_,_,_,aY _ rfl⟩,rfl,q _ I.fresh⟩
theorem yx:jh X (.type "range") (λxs H Q=>∃ i j:Int,xs = [.int i,.int j]/\∀ p,H p=none->Q (.ref p) (upd H p (.rng i j))):=by
 intro pins s σ H xs us Q I r h
 obtain⟨i,j,rfl,q⟩:=h
 obtain⟨u,u2,rfl,ru,rc⟩:=vals2 r
 obtain⟨t,rfl⟩:=ru
 obtain⟨t2,rfl⟩:=rc
 refine call_range_2 ?_
 exact⟨.ref _,_,I.laid (o:=.rng i j) (λb u e=>aJ _ e) (aq _) ⟨_,_,_,aY _ rfl⟩,rfl,q _ I.fresh⟩
theorem rB (hc:X.calm=true):jh X (.type "list") (λxs H Q=>∃ (p:Addr) (lo hi:Int),xs = [.ref p]/\H p=some (.rng lo hi)/\ -1000<=lo/\lo<=1000/\ -1000<=hi/\hi<=1000/\∀ l,H l=none->Q (.ref l) (upd H l (.lst ((jM lo (hi-lo).toNat).map V.int)))):=by
 intro pins s σ H xs us Q I r h
 obtain⟨p,lo,hi,rfl,hH,l1,l2,l3,l4,q⟩:=h
 obtain⟨u,rfl,ru⟩:=vals1 r
 cases ru
 obtain⟨t,u,v,e⟩:=I.hok p _ hH
 refine call_list_range (n:=(hi-lo).toNat) (I.ok.hd hc) e (small_one (by omega) (by omega) (by omega) (by omega)) (rangeSize_nat lo hi) (by omega) λh' tk acc c hk hg EX=>?_
 have hv:Vals ((jM lo (hi-lo).toNat).map V.int) acc.toList:=by
  have hI:IntsAre acc.toList (jM lo (hi-lo).toNat):=by
   have hl:acc.toList.length=(jM lo (hi-lo).toNat).length:=by rw[au,EX.1,j8]
   have hg:∀ (j:Nat) (x:Value),acc.toList[j]? = some x->∃ t,x = .int (lo+(j:Int)) t:=λj x hx=>by
    obtain⟨t,e⟩:=EX.2 j x (by rw[<-aB];exact hx)
    exact⟨t,by rw[e];simp⟩
   have hg2:∀ (j:Nat) (x:Int),(jM lo (hi-lo).toNat)[j]? = some x->x=lo+(j:Int):=λj x hx=>by
    have hj:j<(hi-lo).toNat:=by
     have:=(af.mp hx).1
     rwa [j8]at this
    rw[qh hj]at hx
    exact(aZ hx).symm
   have gen:∀ (k:Nat) (vs:List Value) (ns:List Int),vs.length=ns.length->(∀ (j:Nat) (x:Value),vs[j]? = some x->∃ t,x = .int (lo+((k+j:Nat):Int)) t)->(∀ (j:Nat) (x:Int),ns[j]? = some x->x=lo+((k+j:Nat):Int))->IntsAre vs ns:=by
    intro k vs
    induction vs generalizing k with
    |nil=>intro ns hl _ _;cases ns with |nil=>exact .nil |cons _ _=>simp at hl
    |cons v vs ih=>
     intro ns hl h1 h2
     cases ns with
     |nil=>simp at hl
     |cons n ns=>
      obtain⟨t,e⟩:=h1 0 v rfl
      have e2:=h2 0 n rfl
      subst e
      rw[e2]
      exact .cons _ _ (ih (k+1) ns (by simpa using hl) (λj x hx=>by rw[show k+1+j=k+(j+1) by omega];exact h1 (j+1) x (by simpa using hx)) (λj x hx=>by rw[show k+1+j=k+(j+1) by omega];exact h2 (j+1) x (by simpa using hx)))
   exact gen 0 _ _ hl (λj x hx=>by rw[cy];exact hg j x hx) (λj x hx=>by rw[cy];exact hg2 j x hx)
  exact oG hI
 refine⟨.ref s.heap.objs.size,_,I.laid (t':=tk) (o:=.lst ((jM lo (hi-lo).toNat).map V.int)) (λb ob q=>hk b ob q) (aq _) ⟨?_,acc.toList,c,hv,?_⟩,rfl,q _ I.fresh⟩
 ·rw[aa,j8,cZ];omega
 ·rw[hg,Array.toArray_toList]
end
end TL
namespace TL
open PySem PySem.Spec PyProof.Rows PySem.W
def Bb:Bool->Keyed->Array Keyed->Nat->Nat->Nat->StateT SortSt Sem (Option Nat):=sortPriv% PySem.Builtin.gallop
def Orc (prog:Program)(w:World)(A:Around)(s:Shared)(κ:SortKind)(key:Keyed->Int)(D:Keyed->Prop):Prop:=
 ∀ x y,D x->D y->∀ Q:Bool->Shared->Prop,Q (decide (key x<key y)) s->wpAny (model prog w) A (keyLt' κ x.1 y.1) Q (λ_ _=>False) s
section
variable {prog:Program}{w:World}{A:Around}{E:Value->Shared->Prop}{s:Shared}{κ:SortKind}{key:Keyed->Int}{D:Keyed->Prop}
theorem ji {α:Type}{m:Sem α}{Q:α->SortSt->Prop}{st:SortSt}(h:wpAny (model prog w) A m (λa s'=>s'=s/\Q a st) E s):wpS (model prog w) A E s (liftM m:StateT SortSt Sem α) Q st:=by
 unfold wpS
 show wpAny (model prog w) A ((StateT.lift m:StateT SortSt Sem α).run st) _ E s
 rw[StateT.run_lift]
 exact ak (bQ h (λa s' h'=>aD h') λ_ _ e=>e)
theorem qv (O:Orc prog w A s κ key D){x y:Keyed}(hx:D x)(hy:D y){st:SortSt}(hk:kindOf st=κ){Q:Option Bool->SortSt->Prop}(h:Q (some (decide (key x<key y))) st):wpS (model prog w) A E s (lt' x y) Q st:=by
 rw[lt'_eq]
 refine ay (wpS_get ?_)
 rw[hk]
 refine ay (ji (wpAny_attempt (bQ (O x y hx hy (λb s'=>s'=s/\b=decide (key x<key y)) ⟨rfl,rfl⟩) (λc s' hc=>⟨hc.1,?_⟩) λ_ _ hF=>hF.elim)))
 rw[hc.2]
 exact aI h
theorem gi {arr:Array Keyed}{i:Nat}{x:Keyed}(h:arr[i]? = some x){st:SortSt}{Q:Keyed->SortSt->Prop}(hq:Q x st):wpS (model prog w) A E s (elem' arr i) Q st:=by
 rw[elem'_eq,h]
 exact aI hq
def Ka (key:Keyed->Int)(arr:Array Keyed)(i:Nat):Int:=key (arr.getD i (Value.none,Value.none))
theorem hU {arr:Array Keyed}{i:Nat}{x:Keyed}(h:arr[i]? = some x):Ka key arr i=key x:=by
 unfold Ka
 rw[bz,h];rfl
theorem gw {arr:Array Keyed}{i:Nat}(h:i<arr.size):∃ x,arr[i]? = some x:=⟨_,bj h⟩
def Bey (key:Keyed->Int)(left:Bool)(k:Keyed)(arr:Array Keyed)(base i:Nat):Bool:=if left=true then decide (Ka key arr (base+i)<key k)else !(decide (key k<Ka key arr (base+i)))
theorem yz (O:Orc prog w A s κ key D){left:Bool}{k:Keyed}(hkD:D k){arr:Array Keyed}(hA:∀ (i:Nat) x,arr[i]? = some x->D x){j:Nat}(hj:j<arr.size){base i:Nat}(e:j=base+i){st:SortSt}(hk:kindOf st=κ){Q:Option Bool->SortSt->Prop}(h:Q (some (Bey key left k arr base i)) st):
  wpS (model prog w) A E s (do let x <-elem' arr j;if left=true then lt' x k else do let r <-lt' k x;pure (r.map (!·)):StateT SortSt Sem (Option Bool)) Q st:=by
 obtain⟨x,hx⟩:=gw hj
 have hK:=hU (key:=key) hx
 refine ay (gi hx ?_)
 unfold Bey at h
 rw[<-e,hK]at h
 cases left with
 |true=>
  rw[aH rfl]at h ⊢
  exact qv O (hA _ _ hx) hkD hk h
 |false=>
  rw[ax (by decide)]at h ⊢
  exact ay (qv O hkD (hA _ _ hx) hk (aI h))
def Cut (P:Nat->Bool)(n k:Nat):Prop:=k<=n/\(∀ i,i<k->P i=true)/\∀ i,k<=i->i<n->P i=false
theorem jW (O:Orc prog w A s κ key D){left:Bool}{k:Keyed}(hkD:D k){arr:Array Keyed}(hA:∀ (i:Nat) x,arr[i]? = some x->D x){base n hint:Nat}(hn:base+n<=arr.size)(hh:hint<n)
  (mono:∀ i j,i<=j->j<n->Bey key left k arr base j=true->Bey key left k arr base i=true) {st:SortSt} (hk:kindOf st=κ) {Q:Option Nat->SortSt->Prop} (h:∀ m,Cut (Bey key left k arr base) n m->Q (some m) st):
  wpS (model prog w) A E s (Bb left k arr base n hint) Q st:=by
 have B:∀ i,i<n->∀ R:Option Bool->SortSt->Prop,R (some (Bey key left k arr base i)) st->wpS (model prog w) A E s (do let x <-elem' arr (base+i);if left=true then lt' x k else do let r <-lt' k x;pure (r.map (!·)):StateT SortSt Sem (Option Bool)) R st:=λi hi R hR=>yz O hkD hA (by omega) rfl hk hR
 generalize Bey key left k arr base=P at *
 have Dx:∀ i j,i<=j->j<n->P i=false->P j=false:=λi j h1 h2 h3=>by
  cases q:P j with
  |false=>rfl
  |true=>rw[mono i j h1 h2 q]at h3;cases h3
 refine ay (B hint hh _ ?_)
 dsimp only
 cases hr:P hint
 case' true=>
  rw[aH rfl]
  refine ay (cE (bL (I:=λx c st'=>st=st'/\∃ l o,c=(none,l,o)/\l<o/\hint+l<n/\P (hint+l)=true/\x+1<=o)
   (Q:=λc st'=>st=st'/\∃ l o,c=(none,l,o)/\l<o/\hint+l<n/\P (hint+l)=true/\(n-hint<=o\/(hint+o<n/\P (hint+o)=false))) ?_ ?_ ⟨rfl,0,1,rfl,by omega,by omega,hr,by omega⟩) ?_)
  ·rintro x c st' _ hx ⟨rfl,l,o,rfl,h1,h2,h3,h4⟩
   dsimp only
   by_cases g:o≥n-hint
   ·rw[aH g];exact aI ⟨rfl,l,o,rfl,h1,h2,h3,.inl g⟩
   ·rw[ax g]
    refine ay (B (hint+o) (by omega) _ ?_)
    cases q:P (hint+o)with
    |false=>exact aI ⟨rfl,l,o,rfl,h1,h2,h3,.inr ⟨by omega,q⟩⟩
    |true=>exact aI ⟨rfl,o,2*o+1,rfl,by omega,by omega,q,by omega⟩
  ·rintro c st' ⟨rfl,l,o,rfl,h1,h2,h3,h4⟩
   exact⟨rfl,l,o,rfl,h1,h2,h3,.inl (by omega)⟩
  rintro c st' ⟨rfl,l,o,rfl,h1,h2,h3,h4⟩
  dsimp only
  have a1:hint+l+1<=hint+min o (n-hint):=by omega
  have a2:hint+min o (n-hint)<=n:=by omega
  have a3:∀ i,i<hint+l+1->P i=true:=λi hi=>mono i (hint+l) (by omega) h2 h3
  have a4:∀ i,hint+min o (n-hint)<=i->i<n->P i=false:=λi hi hn=>by
   rcases h4 with g |⟨g,g'⟩
   ·omega
   ·exact Dx (hint+o) i (by omega) hn g'
  clear h4
  generalize hint+l+1=lo at a1 a3 ⊢
  generalize hint+min o (n-hint)=hi at a1 a2 a4 ⊢
  clear h1 h2 h3 hr
 case' false=>
  rw[ax (by decide)]
  refine ay (cE (bL (I:=λx c st'=>st=st'/\∃ l o,c=(none,l,o)/\l<o/\l<=hint/\P (hint-l)=false/\x+1<=o)
   (Q:=λc st'=>st=st'/\∃ l o,c=(none,l,o)/\l<o/\l<=hint/\P (hint-l)=false/\(hint+1<=o\/(o<=hint/\P (hint-o)=true))) ?_ ?_ ⟨rfl,0,1,rfl,by omega,by omega,hr,by omega⟩) ?_)
  ·rintro x c st' _ hx ⟨rfl,l,o,rfl,h1,h2,h3,h4⟩
   dsimp only
   by_cases g:o≥hint+1
   ·rw[aH g];exact aI ⟨rfl,l,o,rfl,h1,h2,h3,.inl g⟩
   ·rw[ax g]
    refine ay (B (hint-o) (by omega) _ ?_)
    cases q:P (hint-o)with
    |true=>exact aI ⟨rfl,l,o,rfl,h1,h2,h3,.inr ⟨by omega,q⟩⟩
    |false=>exact aI ⟨rfl,o,2*o+1,rfl,by omega,by omega,q,by omega⟩
  ·rintro c st' ⟨rfl,l,o,rfl,h1,h2,h3,h4⟩
   exact⟨rfl,l,o,rfl,h1,h2,h3,.inl (by omega)⟩
  rintro c st' ⟨rfl,l,o,rfl,h1,h2,h3,h4⟩
  dsimp only
  have a1:hint+1-min o (hint+1)<=hint-l:=by omega
  have a2:hint-l<=n:=by omega
  have a3:∀ i,i<hint+1-min o (hint+1)->P i=true:=λi hi=>by
   rcases h4 with g |⟨g,g'⟩
   ·omega
   ·exact mono i (hint-o) (by omega) (by omega) g'
  have a4:∀ i,hint-l<=i->i<n->P i=false:=λi hi hn=>Dx (hint-l) i (by omega) hn h3
  clear h4
  generalize hint+1-min o (hint+1)=lo at a1 a3 ⊢
  generalize hint-l=hi at a1 a2 a4 ⊢
  clear h1 h2 h3 hr
 all_goals
  refine ay (cE (bL (I:=λx c st'=>st=st'/\∃ lo hi,c=(none,lo,hi)/\lo<=hi/\hi<=n/\(∀ i,i<lo->P i=true)/\(∀ i,hi<=i->i<n->P i=false)/\hi+x<=n+lo)
   (Q:=λc st'=>st=st'/\∃ lo hi,c=(none,lo,hi)/\Cut P n hi) ?_ ?_ ⟨rfl,lo,hi,rfl,a1,a2,a3,a4,by omega⟩) ?_)
  ·rintro x c st' _ hx ⟨rfl,lo,hi,rfl,h1,h2,h3,h4,h5⟩
   dsimp only
   by_cases g:lo≥hi
   ·rw[aH g];exact aI ⟨rfl,lo,hi,rfl,h2,λi hi=>h3 i (by omega),h4⟩
   ·rw[ax g]
    refine ay (B (lo+(hi-lo)/2) (by omega) _ ?_)
    cases q:P (lo+(hi-lo)/2)with
    |true=>exact aI ⟨rfl,_,hi,rfl,by omega,h2,λi hi'=>mono i _ (by omega) (by omega) q,h4,by omega⟩
    |false=>exact aI ⟨rfl,lo,_,rfl,by omega,by omega,h3,λi h1' h2'=>Dx _ i h1' h2' q,by omega⟩
  ·rintro c st' ⟨rfl,lo,hi,rfl,h1,h2,h3,h4,h5⟩
   exact⟨rfl,lo,hi,rfl,h2,λi hi=>h3 i (by omega),h4⟩
  rintro c st' ⟨rfl,lo,hi,rfl,hc⟩
  exact aI (h hi hc)
end
def zC:Array Keyed->Array Keyed->StateT SortSt Sem (Array Keyed):=sortPriv% PySem.Builtin.mergeLo
def zD:Array Keyed->Array Keyed->StateT SortSt Sem (Array Keyed):=sortPriv% PySem.Builtin.mergeHi
section
variable {key:Keyed->Int}{a b out:List Keyed}{ia ib:Nat}
def iR (key:Keyed->Int)(l:List Keyed):Prop:=l.Pairwise λx y=>key x<=key y
structure ML (key:Keyed->Int)(a b out:List Keyed)(ia ib:Nat):Prop where
 srt:iR key out
 le:∀ x∈out,∀ y,y∈a.drop ia\/y∈b.drop ib->key x<=key y
 perm:(out++(a.drop ia++b.drop ib)).Perm (a++b)
def Mgd (key:Keyed->Int)(a b r:List Keyed):Prop:=iR key r/\r.Perm (a++b)
theorem lE {l:List Keyed}{i:Nat}{x:Keyed}(h:l[i]? = some x):l.drop i=x::l.drop (i+1):=by
 obtain⟨h1,h2⟩:=af.mp h
 rw[eF h1,h2]
theorem jz {l:List Keyed}(h:iR key l)(i:Nat):iR key (l.drop i):=h.sublist (List.drop_sublist _ _)
theorem ML.pf (m:ML key a b out ia ib)(sb:iR key b){y:Keyed}(h:b[ib]? = some y)(g:∀ x∈a.drop ia,key y<=key x):ML key a b (out ++ [y]) ia (ib+1):=by
 have e:=lE h
 have s2:=jz sb ib
 rw[e]at s2
 have m2:=m.le
 have m3:=m.perm
 rw[e]at m2 m3
 refine⟨br.mpr ⟨m.srt,cC _ _,λx hx z hz=>?_⟩,λx hx z hz=>?_,?_⟩
 ·rw[aV.mp hz];exact m2 x hx y (.inr aC)
 ·rcases aL.mp hx with hx |hx
  ·exact m2 x hx z (hz.imp_right λq=>aE _ q)
  ·rw[aV.mp hx]
   rcases hz with q |q
   ·exact g z q
   ·exact(cj.mp s2).1 z q
 ·refine List.Perm.trans ?_ m3
  rw[aN]
  refine dF out ?_
  exact(List.perm_middle (a:=y) (l₁:=a.drop ia) (l₂:=b.drop (ib+1))).symm
theorem ML.ph (m:ML key a b out ia ib)(sa:iR key a){y:Keyed}(h:a[ia]? = some y)(g:∀ x∈b.drop ib,key y<=key x):ML key a b (out ++ [y]) (ia+1) ib:=by
 have e:=lE h
 have s2:=jz sa ia
 rw[e]at s2
 have m2:=m.le
 have m3:=m.perm
 rw[e]at m2 m3
 refine⟨br.mpr ⟨m.srt,cC _ _,λx hx z hz=>?_⟩,λx hx z hz=>?_,?_⟩
 ·rw[aV.mp hz];exact m2 x hx y (.inl aC)
 ·rcases aL.mp hx with hx |hx
  ·exact m2 x hx z (hz.imp_left λq=>aE _ q)
  ·rw[aV.mp hx]
   rcases hz with q |q
   ·exact(cj.mp s2).1 z q
   ·exact g z q
 ·rw[aN];exact m3
theorem ML.qU (sa:iR key a):∀ (k:Nat) {out:List Keyed}{ia:Nat},ML key a b out ia ib->ia+k<=a.length->(∀ i y,ia<=i->i<ia+k->a[i]? = some y->∀ x∈b.drop ib,key y<=key x)->ML key a b (out++(a.drop ia).take k) (ia+k) ib
 | 0,out,ia,m,_,_=>by rw[List.take_zero,bO];exact m
 |k+1,out,ia,m,hk,g=>by
  have h:a[ia]? = some a[ia]:=ae (by omega)
  have m2:=m.ph sa h (g ia _ (aq _) (by omega) h)
  have m3:=ML.qU sa k m2 (by omega) λi y h1 h2=>g i y (by omega) (by omega)
  rw[lE h,List.take_succ_cons]
  rw[aN]at m3
  rw[show ia+(k+1)=ia+1+k by omega]
  exact m3
theorem ML.qT (sb:iR key b):∀ (k:Nat) {out:List Keyed}{ib:Nat},ML key a b out ia ib->ib+k<=b.length->(∀ i y,ib<=i->i<ib+k->b[i]? = some y->∀ x∈a.drop ia,key y<=key x)->ML key a b (out++(b.drop ib).take k) ia (ib+k)
 | 0,out,ib,m,_,_=>by rw[List.take_zero,bO];exact m
 |k+1,out,ib,m,hk,g=>by
  have h:b[ib]? = some b[ib]:=ae (by omega)
  have m2:=m.pf sb h (g ib _ (aq _) (by omega) h)
  have m3:=ML.qT sb k m2 (by omega) λi y h1 h2=>g i y (by omega) (by omega)
  rw[lE h,List.take_succ_cons]
  rw[aN]at m3
  rw[show ib+(k+1)=ib+1+k by omega]
  exact m3
theorem ML.done (m:ML key a b out ia ib)(sa:iR key a)(sb:iR key b)(h:∀ x∈a.drop ia,∀ y∈b.drop ib,key x<=key y):Mgd key a b (out++a.drop ia++b.drop ib):=by
 refine⟨?_,by rw[aN];exact m.perm⟩
 rw[aN]
 exact br.mpr ⟨m.srt,br.mpr ⟨jz sa _,jz sb _,h⟩,λx hx y hy=>m.le x hx y (aL.mp hy)⟩
theorem ML.E6 (m:ML key a b out ia ib)(sa:iR key a)(sb:iR key b)(h:∀ x∈a.drop ia,∀ y∈b.drop ib,key y<=key x):Mgd key a b (out++b.drop ib++a.drop ia):=by
 refine⟨?_,List.Perm.trans ?_ m.perm⟩
 ·rw[aN]
  exact br.mpr ⟨m.srt,br.mpr ⟨jz sb _,jz sa _,λx hx y hy=>h y hy x hx⟩,λx hx y hy=>m.le x hx y (aL.mp hy).symm⟩
 ·rw[aN];exact dF out dD
end
section
variable {prog:Program}{w:World}{A:Around}{E:Value->Shared->Prop}{s:Shared}{κ:SortKind}{key:Keyed->Int}{D:Keyed->Prop}
def SmS (st st':SortSt):Prop:=kindOf st'=kindOf st/\arrOf st'=arrOf st/\pendingOf st'=pendingOf st/\failedOf st'=failedOf st
theorem SmS.gal {st st':SortSt}(h:SmS st st')(g:Nat):SmS st (SortSt.mk' (kindOf st') (arrOf st') (pendingOf st') g (failedOf st')):=h
theorem fC {α:Type}{c:Prop} [Decidable c] {x y:StateT SortSt Sem α}{Q:α->SortSt->Prop}{st:SortSt}(h1:c->wpS (model prog w) A E s x Q st)(h2:¬c->wpS (model prog w) A E s y Q st):wpS (model prog w) A E s (if c then x else y) Q st:=by
 by_cases h:c
 ·rw[aH h];exact h1 h
 ·rw[ax h];exact h2 h
def wQ:Nat->StateT SortSt Sem Unit:=sortPriv% PySem.Builtin.setMinGallop
theorem xM {g:Nat}{Q:Unit->SortSt->Prop}{st:SortSt}(h:Q () (SortSt.mk' (kindOf st) (arrOf st) (pendingOf st) g (failedOf st))):wpS (model prog w) A E s (wQ g) Q st:=wpS_modify h
theorem mL {g:Nat}{Q:Unit->SortSt->Prop}{st0 st:SortSt}(S:SmS st0 st)(h:∀ st',SmS st0 st'->Q () st'):wpS (model prog w) A E s (wQ g) Q st:=xM (h _ (S.gal g))
theorem kP {left:Bool}{k:Keyed}{arr:Array Keyed}{base n:Nat}(h:∀ i j,i<=j->j<n->Ka key arr (base+i)<=Ka key arr (base+j)):∀ i j,i<=j->j<n->Bey key left k arr base j=true->Bey key left k arr base i=true:=by
 intro i j hij hj hb
 have:=h i j hij hj
 unfold Bey at hb ⊢
 cases left with
 |true=>
  rw[aH rfl]at hb ⊢
  have hb:Ka key arr (base+j)<key k:=by simpa using hb
  exact bC (by omega)
 |false=>
  rw[ax (by decide)]at hb ⊢
  have hb:¬key k<Ka key arr (base+j):=by simpa using hb
  rw[bo (by omega)];rfl
theorem oY {k:Keyed}{arr:Array Keyed}{base i:Nat} :(Bey key false k arr base i=true) = ¬(key k<Ka key arr (base+i)):=by
 unfold Bey;rw[ax (by decide)];simp
theorem lH {k:Keyed}{arr:Array Keyed}{base i:Nat} :(Bey key false k arr base i=false)=(key k<Ka key arr (base+i)):=by
 unfold Bey;rw[ax (by decide)];simp
theorem qZ {k:Keyed}{arr:Array Keyed}{base i:Nat} :(Bey key true k arr base i=true)=(Ka key arr (base+i)<key k):=by
 unfold Bey;rw[aH rfl];simp
theorem m8 {k:Keyed}{arr:Array Keyed}{base i:Nat} :(Bey key true k arr base i=false) = ¬(Ka key arr (base+i)<key k):=by
 unfold Bey;rw[aH rfl];simp
theorem pQ {arr:Array Keyed}(h:iR key arr.toList){i j:Nat}(hij:i<=j)(hj:j<arr.size):Ka key arr i<=Ka key arr j:=by
 by_cases e:i=j
 ·rw[e];exact cO _
 ·obtain⟨x,hx⟩:=gw (show i<arr.size by omega)
  obtain⟨y,hy⟩:=gw hj
  rw[hU hx,hU hy]
  have h2:=bR.mp h i j (by rw[au];omega) (by rw[au];omega) (by omega)
  rw[Array.getElem?_eq_some_iff]at hx hy
  obtain⟨_,rfl⟩:=hx
  obtain⟨_,rfl⟩:=hy
  exact h2
theorem vX (O:Orc prog w A s κ key D){a b:Array Keyed}(hA:∀ (i:Nat) x,a[i]? = some x->D x)(hB:∀ (i:Nat) x,b[i]? = some x->D x)(sa:iR key a.toList)(sb:iR key b.toList)(na:1<=a.size)(nb:1<=b.size)
  (h0:∀ x∈a.toList,∀ y,b[0]? = some y->key y<=key x) (hl:∀ y∈b.toList,∀ x,a[a.size-1]? = some x->key y<=key x) {st:SortSt} (hk:kindOf st=κ) {Q:Array Keyed->SortSt->Prop} (h:∀ r st',Mgd key a.toList b.toList r.toList->SmS st st'->Q r st'):
  wpS (model prog w) A E s (zC a b) Q st:=by
 obtain⟨y0,hy0⟩:=gw (show 0<b.size from nb)
 have la:a.toList.length=a.size:=au
 have lb:b.toList.length=b.size:=au
 have ga:∀ {i:Nat}{x:Keyed},a[i]? = some x->a.toList[i]? = some x:=λh=>by rw[aB];exact h
 have gb:∀ {i:Nat}{x:Keyed},b[i]? = some x->b.toList[i]? = some x:=λh=>by rw[aB];exact h
 have dA:∀ {i:Nat}{x:Keyed},a[i]? = some x->∀ z∈a.toList.drop i,key x<=key z:=λ{i x} hx z hz=>by
  have e:=lE (ga hx)
  have s2:=jz sa i
  rw[e]at s2 hz
  rcases aO.mp hz with rfl |q
  ·exact cO _
  ·exact(cj.mp s2).1 z q
 have dB:∀ {i:Nat}{x:Keyed},b[i]? = some x->∀ z∈b.toList.drop i,key x<=key z:=λ{i x} hx z hz=>by
  have e:=lE (gb hx)
  have s2:=jz sb i
  rw[e]at s2 hz
  rcases aO.mp hz with rfl |q
  ·exact cO _
  ·exact(cj.mp s2).1 z q
 have m0:ML key a.toList b.toList #[y0].toList 0 1:=by
  refine(show ML key a.toList b.toList ([] ++ [y0]) 0 (0+1) from ML.pf ⟨List.Pairwise.nil,λx hx=>(by cases hx),List.Perm.refl _⟩ sb (gb hy0) λx hx=>h0 x (by simpa using hx) y0 hy0)
 have fB:∀ {out:Array Keyed}{ia ib:Nat},ML key a.toList b.toList out.toList ia ib->ib=b.size->Mgd key a.toList b.toList (out++a.extract ia a.size++b.extract ib b.size).toList:=λ{out ia ib} m e=>by
  have eb:b.toList.drop ib = []:=cx (by omega)
  have:=m.done sa sb (λx _ y hy=>by rw[eb]at hy;cases hy)
  rw[eb]at this
  subst e
  simpa [bE,bq]using this
 have fA:∀ {out:Array Keyed}{ia ib:Nat},ML key a.toList b.toList out.toList ia ib->ia=a.size->Mgd key a.toList b.toList (out++a.extract ia a.size++b.extract ib b.size).toList:=λ{out ia ib} m e=>by
  have ea:a.toList.drop ia = []:=cx (by omega)
  have:=m.done sa sb (λx hx=>by rw[ea]at hx;cases hx)
  rw[ea]at this
  subst e
  simpa [bE,bq]using this
 have fL:∀ {out:Array Keyed}{ia ib:Nat},ML key a.toList b.toList out.toList ia ib->ia+1=a.size->Mgd key a.toList b.toList (out++b.extract ib b.size++a.extract ia a.size).toList:=λ{out ia ib} m e=>by
  obtain⟨z,hz⟩:=gw (show ia<a.size by omega)
  have ea:a.toList.drop ia = [z]:=by rw[lE (ga hz),cx (by omega)]
  have:=m.E6 sa sb (λx hx y hy=>by
   rw[ea]at hx
   rw[aV.mp hx]
   exact hl y (List.mem_of_mem_drop hy) z (by rw[show a.size-1=ia by omega];exact hz))
  simpa [bE,bq]using this
 refine ay (ji (eO ⟨rfl,?_⟩))
 refine ay (gi hy0 ?_)
 dsimp only
 by_cases e1:1=b.size
 ·rw[aH (by simpa using e1)]
  exact aI (h _ _ (fB m0 e1) ⟨rfl,rfl,rfl,rfl⟩)
 rw[ax (by simpa using e1)]
 by_cases e2:0+1=a.size
 ·rw[aH (by simpa using e2)]
  exact aI (h _ _ (fL m0 e2) ⟨rfl,rfl,rfl,rfl⟩)
 rw[ax (by simpa using e2)]
 refine ay (wpS_get ?_)
 refine ay (cE (bL (I:=λx c st'=>SmS st st'/\∃ out ia ib g,c=(none,out,ia,ib,g)/\ML key a.toList b.toList out.toList ia ib/\ia+1<a.size/\ib<b.size/\x+1<=ia+ib)
  (Q:=λc st'=>SmS st st'/\∃ r out ia ib g,c=(some r,out,ia,ib,g)/\Mgd key a.toList b.toList r.toList) ?_ ?_ ⟨⟨rfl,rfl,rfl,rfl⟩,_,0,1,_,rfl,m0,by omega,by omega,by omega⟩) ?_)
 ·rintro x c st1 _ hx ⟨S1,out,ia,ib,g,rfl,m,i1,i2,i3⟩
  dsimp only
  refine ay (cE (bL (I:=λy c st'=>SmS st st'/\∃ out ia' ib' ac bc,c=(none,out,ia',ib',ac,bc)/\ML key a.toList b.toList out.toList ia' ib'/\ia'+1<a.size/\ib'<b.size/\ia+ib+y=ia'+ib')
   (Q:=λc st'=>SmS st st'/\∃ o out ia' ib' ac bc,c=(o,out,ia',ib',ac,bc)/\((∃ r,o=some r/\Mgd key a.toList b.toList r.toList)\/(o=none/\ML key a.toList b.toList out.toList ia' ib'/\ia'+1<a.size/\ib'<b.size/\ia+ib+1<=ia'+ib'))) ?_ ?_ ⟨S1,_,_,_,_,_,rfl,m,i1,i2,rfl⟩) ?_)
  ·clear m i1 i2 S1
   rintro y c st2 _ hy ⟨S2,out,ia',ib',ac,bc,rfl,m,i1,i2,i3⟩
   dsimp only
   obtain⟨u,hu⟩:=gw i2
   obtain⟨v,hv⟩:=gw (show ia'<a.size by omega)
   refine ay (gi hu (ay (gi hv (ay (qv O (hB _ _ hu) (hA _ _ hv) (S2.1.trans hk) ?_)))))
   dsimp only
   by_cases q:key u<key v
   ·rw[aH (by simpa using q)]
    refine ay (gi hu ?_)
    have m2:ML key a.toList b.toList (out.push u).toList ia' (ib'+1):=by
     rw[cc]
     exact m.pf sb (gb hu) λz hz=>by have:=dA hv z hz;omega
    refine fC (λe=>?_) (λe=>?_)
    ·exact aI ⟨S2,_,_,_,_,_,_,rfl,.inl ⟨_,rfl,fB m2 (by simpa using e)⟩⟩
    ·have e:ib'+1≠b.size:=by simpa using e
     refine fC (λ_=>?_) (λ_=>?_)
     ·exact aI ⟨S2,_,_,_,_,_,_,rfl,.inr ⟨rfl,m2,i1,by omega,by omega⟩⟩
     ·exact aI ⟨S2,_,_,_,_,_,rfl,m2,i1,by omega,by omega⟩
   ·rw[ax (by simpa using q)]
    refine ay (gi hv ?_)
    have m2:ML key a.toList b.toList (out.push v).toList (ia'+1) ib':=by
     rw[cc]
     exact m.ph sa (ga hv) λz hz=>by have:=dB hu z hz;omega
    refine fC (λe=>?_) (λe=>?_)
    ·exact aI ⟨S2,_,_,_,_,_,_,rfl,.inl ⟨_,rfl,fL m2 (by simpa using e)⟩⟩
    ·have e:ia'+1+1≠a.size:=by simpa using e
     refine fC (λ_=>?_) (λ_=>?_)
     ·exact aI ⟨S2,_,_,_,_,_,_,rfl,.inr ⟨rfl,m2,by omega,i2,by omega⟩⟩
     ·exact aI ⟨S2,_,_,_,_,_,rfl,m2,by omega,i2,by omega⟩
  ·rintro c st2 ⟨S2,out,ia',ib',ac,bc,rfl,m,i1,i2,i3⟩
   omega
  clear m i1 i2 S1
  rintro c st2 ⟨S2,o,out,ia',ib',ac,bc,rfl,z⟩
  dsimp only
  rcases z with⟨r,rfl,z⟩|⟨rfl,m,i1,i2,i4⟩
  ·exact aI ⟨S2,_,_,_,_,_,rfl,z⟩
  dsimp only
  refine ay (ji (eO ⟨rfl,?_⟩))
  refine ay (cE (bL (I:=λy c st'=>SmS st st'/\∃ out ja jb g ac bc,c=(none,out,ja,jb,g,ac,bc)/\ML key a.toList b.toList out.toList ja jb/\ja+1<a.size/\jb<b.size/\ia'+ib'<=ja+jb)
   (Q:=λc st'=>SmS st st'/\∃ o out ja jb g ac bc,c=(o,out,ja,jb,g,ac,bc)/\((∃ r,o=some r/\Mgd key a.toList b.toList r.toList)\/(o=none/\ML key a.toList b.toList out.toList ja jb/\ja+1<a.size/\jb<b.size/\ia'+ib'<=ja+jb))) ?_ ?_ ⟨S2,_,_,_,_,_,_,rfl,m,i1,i2,aq _⟩) ?_)
  ·clear m i1 i2 S2
   rintro y c st3 _ hy ⟨S3,out,ja,jb,g,ac,bc,rfl,m,i1,i2,i5⟩
   dsimp only
   obtain⟨u,hu⟩:=gw i2
   refine fC (λ_=>?_) (λ_=>?_)
   all_goals
    refine ay (mL S3 λst4 S3=>?_)
    refine ay (gi hu ?_)
    refine ay (jW O (base:=ja) (n:=a.size-ja) (hint:=0) (hB _ _ hu) hA (by omega) (by omega) (kP λi j h1 h2=>pQ sa (by omega) (by omega)) (S3.1.trans hk) λk C=>?_)
    obtain⟨C0,C1,C2⟩:=C
    dsimp only
    apply fC
    case' h1=>
     intro g1
     have m2:ML key a.toList b.toList (out++a.extract ja (ja+k)).toList (ja+k) jb:=by
      have:=m.qU sa k (by omega) λi y' h1 h2 hy' x hx=>by
       have:=C1 (i-ja) (by omega)
       have e:=hU (key:=key) (show a[ja+(i-ja)]? = some y' by rw[show ja+(i-ja)=i by omega,<-aB];exact hy')
       rw[oY,e]at this
       have:=dB hu x hx
       omega
      simpa [bE,bq]using this
     refine fC (λg2=>aI ⟨S3,_,_,_,_,_,_,_,rfl,.inl ⟨_,rfl,fL m2 (by simpa using g2)⟩⟩) (λg2=>?_)
     have g2:ja+k+1≠a.size:=by simpa using g2
     refine fC (λg3=>aI ⟨S3,_,_,_,_,_,_,_,rfl,.inl ⟨_,rfl,fA m2 (by simpa using g3)⟩⟩) (λg3=>?_)
     have g3:ja+k≠a.size:=by simpa using g3
     have j1:ja+k+1<a.size:=by omega
     obtain⟨v,hv⟩:=gw (show ja+k<a.size by omega)
     have uv:key u<key v:=by
      have:=C2 k (aq _) (by omega)
      rw[lH,hU (key:=key) hv]at this
      exact this
     have j2:ia'+ib'<=ja+k+jb:=by omega
     generalize out++a.extract ja (ja+k)=qt at m2 ⊢
     generalize ja+k=ja' at m2 j1 hv j2 ⊢
    case' h2=>
     intro g1
     have m2:ML key a.toList b.toList out.toList ja jb:=m
     have j1:ja+1<a.size:=i1
     obtain⟨v,hv⟩:=gw (show ja<a.size by omega)
     have uv:key u<key v:=by
      have:=C2 0 (by omega) (by omega)
      rw[lH,eh,hU (key:=key) hv]at this
      exact this
     have j2:=i5
     generalize out=qt at m2 ⊢
     generalize ja=ja' at m2 j1 hv j2 ⊢
    all_goals
     refine ay (gi hu ?_)
     have m3:ML key a.toList b.toList (qt.push u).toList ja' (jb+1):=by
      rw[cc]
      exact m2.pf sb (gb hu) λz hz=>by have:=dA hv z hz;omega
     refine fC (λg4=>aI ⟨S3,_,_,_,_,_,_,_,rfl,.inl ⟨_,rfl,fB m3 (by simpa using g4)⟩⟩) (λg4=>?_)
     have g4:jb+1≠b.size:=by simpa using g4
     refine ay (gi hv ?_)
     refine ay (jW O (base:=jb+1) (n:=b.size-(jb+1)) (hint:=0) (hA _ _ hv) hB (by omega) (by omega) (kP λi j h1 h2=>pQ sb (by omega) (by omega)) (S3.1.trans hk) λk2 C=>?_)
     obtain⟨B0,B1,B2⟩:=C
     dsimp only
     apply fC
     case' h1=>
      intro g5
      have m4:ML key a.toList b.toList (qt.push u++b.extract (jb+1) (jb+1+k2)).toList ja' (jb+1+k2):=by
       have:=m3.qT sb k2 (by omega) λi y' h1 h2 hy' x hx=>by
        have:=B1 (i-(jb+1)) (by omega)
        have e:=hU (key:=key) (show b[jb+1+(i-(jb+1))]? = some y' by rw[show jb+1+(i-(jb+1))=i by omega,<-aB];exact hy')
        rw[qZ,e]at this
        have:=dA hv x hx
        omega
       simpa [bE,bq]using this
      refine fC (λg6=>aI ⟨S3,_,_,_,_,_,_,_,rfl,.inl ⟨_,rfl,fB m4 (by simpa using g6)⟩⟩) (λg6=>?_)
      have g6:jb+1+k2≠b.size:=by simpa using g6
      have j3:jb+1+k2<b.size:=by omega
      have vb:∀ z∈b.toList.drop (jb+1+k2),key v<=key z:=λz hz=>by
       obtain⟨t,ht⟩:=gw j3
       have:=B2 k2 (aq _) (by omega)
       rw[m8,hU (key:=key) ht]at this
       have:=dB ht z hz
       omega
      have j4:ia'+ib'<=ja'+(jb+1+k2):=by omega
      generalize qt.push u++b.extract (jb+1) (jb+1+k2)=zg at m4 ⊢
      generalize jb+1+k2=jb' at m4 j3 vb j4 ⊢
     case' h2=>
      intro g5
      have m4:=m3
      have j3:jb+1<b.size:=by omega
      have vb:∀ z∈b.toList.drop (jb+1),key v<=key z:=λz hz=>by
       obtain⟨t,ht⟩:=gw j3
       have:=B2 0 (by omega) (by omega)
       rw[m8,eh,hU (key:=key) ht]at this
       have:=dB ht z hz
       omega
      have j4:ia'+ib'<=ja'+(jb+1):=by omega
      generalize qt.push u=zg at m4 ⊢
      generalize jb+1=jb' at m4 j3 vb j4 ⊢
     all_goals
      refine ay (gi hv ?_)
      have m5:ML key a.toList b.toList (zg.push v).toList (ja'+1) jb':=by
       rw[cc]
       exact m4.ph sa (ga hv) vb
      refine fC (λg7=>aI ⟨S3,_,_,_,_,_,_,_,rfl,.inl ⟨_,rfl,fL m5 (by simpa using g7)⟩⟩) (λg7=>?_)
      have g7:ja'+1+1≠a.size:=by simpa using g7
      refine fC (λ_=>?_) (λ_=>?_)
      ·exact aI ⟨S3,_,_,_,_,_,_,_,rfl,.inr ⟨rfl,m5,by omega,j3,by omega⟩⟩
      ·exact aI ⟨S3,_,_,_,_,_,_,rfl,m5,by omega,j3,by omega⟩
  ·rintro c st3 ⟨S3,out,ja,jb,g,ac,bc,rfl,m,i1,i2,i5⟩
   exact⟨S3,_,_,_,_,_,_,_,rfl,.inr ⟨rfl,m,i1,i2,i5⟩⟩
  rintro c st3 ⟨S3,o,out,ja,jb,g,ac,bc,rfl,z⟩
  rcases z with⟨r,rfl,z⟩|⟨rfl,m,i1,i2,i5⟩
  ·exact aI ⟨S3,_,_,_,_,_,rfl,z⟩
  ·exact ay (mL S3 λst4 S3=>aI ⟨S3,_,_,_,_,rfl,m,i1,i2,(by show x+1+1<=ja+jb;omega)⟩)
 ·rintro c st' ⟨S1,out,ia,ib,g,rfl,m,i1,i2,i3⟩
  omega
 rintro c st' ⟨S1,r,out,ia,ib,g,rfl,z⟩
 exact aI (h r st' z S1)
end
section
variable {key:Keyed->Int}{a b out:List Keyed}{na nb:Nat}
structure MH (key:Keyed->Int)(a b out:List Keyed)(na nb:Nat):Prop where
 srt:iR key out.reverse
 le:∀ x∈out,∀ y,y∈a.take na\/y∈b.take nb->key y<=key x
 perm:(a.take na++b.take nb++out.reverse).Perm (a++b)
theorem mK {l:List Keyed}{i:Nat}{x:Keyed}(h1:1<=i)(h:l[i-1]? = some x):l.take i=l.take (i-1) ++ [x]:=by
 obtain⟨n,rfl⟩:∃ n,i=n+1:=⟨i-1,by omega⟩
 rw[Nat.add_sub_cancel]at h ⊢
 rw[bD,h];rfl
theorem lL {l:List Keyed}(h:iR key l)(i:Nat):iR key (l.take i):=h.sublist (List.take_sublist _ _)
theorem nU {l:List Keyed}(h:iR key l){i:Nat}{x:Keyed}(h1:1<=i)(hx:l[i-1]? = some x):∀ z∈l.take i,key z<=key x:=λz hz=>by
 have s2:=lL h i
 rw[mK h1 hx]at s2 hz
 rcases aL.mp hz with q |q
 ·exact(br.mp s2).2.2 z q x (aV.mpr rfl)
 ·rw[aV.mp q];exact cO _
theorem MH.ph (m:MH key a b out na nb)(sa:iR key a)(h1:1<=na){y:Keyed}(h:a[na-1]? = some y)(g:∀ x∈b.take nb,key x<=key y):MH key a b (out ++ [y]) (na-1) nb:=by
 have e:=mK h1 h
 have m2:=m.le
 have m3:=m.perm
 have sl:=nU sa h1 h
 rw[e]at m2 m3 sl
 refine⟨?_,λx hx z hz=>?_,?_⟩
 ·rw[bS]
  refine br.mpr ⟨cC _ _,m.srt,λx hx z hz=>?_⟩
  rw[show x=y by simpa using hx]
  exact m2 z (cD.mp hz) y (.inl (by simp))
 ·rcases aL.mp hx with hx |hx
  ·exact m2 x hx z (hz.imp_left λq=>bM _ q)
  ·rw[aV.mp hx]
   rcases hz with q |q
   ·exact sl z (bM _ q)
   ·exact g z q
 ·refine List.Perm.trans ?_ m3
  rw[bS]
  show(a.take (na-1)++b.take nb++([y]++out.reverse)).Perm _
  rw[<-aN]
  refine List.Perm.append_right _ ?_
  rw[aN,aN]
  exact dF _ dD
theorem MH.pf (m:MH key a b out na nb)(sb:iR key b)(h1:1<=nb){y:Keyed}(h:b[nb-1]? = some y)(g:∀ x∈a.take na,key x<=key y):MH key a b (out ++ [y]) na (nb-1):=by
 have e:=mK h1 h
 have m2:=m.le
 have m3:=m.perm
 have sl:=nU sb h1 h
 rw[e]at m2 m3 sl
 refine⟨?_,λx hx z hz=>?_,?_⟩
 ·rw[bS]
  refine br.mpr ⟨cC _ _,m.srt,λx hx z hz=>?_⟩
  rw[show x=y by simpa using hx]
  exact m2 z (cD.mp hz) y (.inr (by simp))
 ·rcases aL.mp hx with hx |hx
  ·exact m2 x hx z (hz.imp_right λq=>bM _ q)
  ·rw[aV.mp hx]
   rcases hz with q |q
   ·exact g z q
   ·exact sl z (bM _ q)
 ·refine List.Perm.trans ?_ m3
  rw[bS]
  show(a.take na++b.take (nb-1)++([y]++out.reverse)).Perm _
  rw[<-aN,aN (a.take na)]
theorem MH.qU (sa:iR key a):∀ (k p:Nat) {out:List Keyed}{na:Nat},na=p+k->MH key a b out na nb->na<=a.length->(∀ i y,p<=i->i<na->a[i]? = some y->∀ x∈b.take nb,key x<=key y)->MH key a b (out++((a.drop p).take (na-p)).reverse) p nb
 | 0,p,out,na,e,m,_,_=>by subst e;simpa using m
 |k+1,p,out,na,e,m,hk,g=>by
  have h:a[na-1]? = some a[na-1]:=ae (by omega)
  have m2:=m.ph sa (by omega) h (g (na-1) _ (by omega) (by omega) h)
  have m3:=MH.qU sa k p (by omega) m2 (by omega) λi y h1 h2=>g i y h1 (by omega)
  have e2:(a.drop p).take (na-p)=(a.drop p).take (na-1-p) ++ [a[na-1]]:=by
   rw[mK (i:=na-p) (by omega) (x:=a[na-1]) (by rw[cG,show p+(na-p-1)=na-1 by omega];exact h),show na-p-1=na-1-p by omega]
  rw[e2,bS]
  rw[aN]at m3
  exact m3
theorem MH.qT (sb:iR key b):∀ (k p:Nat) {out:List Keyed}{nb:Nat},nb=p+k->MH key a b out na nb->nb<=b.length->(∀ i y,p<=i->i<nb->b[i]? = some y->∀ x∈a.take na,key x<=key y)->MH key a b (out++((b.drop p).take (nb-p)).reverse) na p
 | 0,p,out,nb,e,m,_,_=>by subst e;simpa using m
 |k+1,p,out,nb,e,m,hk,g=>by
  have h:b[nb-1]? = some b[nb-1]:=ae (by omega)
  have m2:=m.pf sb (by omega) h (g (nb-1) _ (by omega) (by omega) h)
  have m3:=MH.qT sb k p (by omega) m2 (by omega) λi y h1 h2=>g i y h1 (by omega)
  have e2:(b.drop p).take (nb-p)=(b.drop p).take (nb-1-p) ++ [b[nb-1]]:=by
   rw[mK (i:=nb-p) (by omega) (x:=b[nb-1]) (by rw[cG,show p+(nb-p-1)=nb-1 by omega];exact h),show nb-p-1=nb-1-p by omega]
  rw[e2,bS]
  rw[aN]at m3
  exact m3
theorem MH.done (m:MH key a b out na nb)(sa:iR key a)(sb:iR key b)(h:∀ x∈a.take na,∀ y∈b.take nb,key x<=key y):Mgd key a b (a.take na++b.take nb++out.reverse):=
 ⟨br.mpr ⟨br.mpr ⟨lL sa _,lL sb _,h⟩,m.srt,λx hx y hy=>m.le y (cD.mp hy) x (aL.mp hx)⟩,m.perm⟩
theorem MH.doneF (m:MH key a b out na nb)(sa:iR key a)(sb:iR key b)(h:∀ x∈a.take na,∀ y∈b.take nb,key y<=key x):Mgd key a b (b.take nb++a.take na++out.reverse):=
 ⟨br.mpr ⟨br.mpr ⟨lL sb _,lL sa _,λx hx y hy=>h y hy x hx⟩,m.srt,λx hx y hy=>m.le y (cD.mp hy) x (aL.mp hx).symm⟩,(List.Perm.append_right _ dD).trans m.perm⟩
end
section
variable {prog:Program}{w:World}{A:Around}{E:Value->Shared->Prop}{s:Shared}{κ:SortKind}{key:Keyed->Int}{D:Keyed->Prop}
theorem vY (O:Orc prog w A s κ key D){a b:Array Keyed}(hA:∀ (i:Nat) x,a[i]? = some x->D x)(hB:∀ (i:Nat) x,b[i]? = some x->D x)(sa:iR key a.toList)(sb:iR key b.toList)(za:1<=a.size)(zb:1<=b.size)
  (h0:∀ x∈a.toList,∀ y,b[0]? = some y->key y<=key x) (hl:∀ y∈b.toList,∀ x,a[a.size-1]? = some x->key y<=key x) {st:SortSt} (hk:PyProof.Rows.kindOf st=κ) {Q:Array Keyed->SortSt->Prop} (h:∀ r st',Mgd key a.toList b.toList r.toList->SmS st st'->Q r st'):
  wpS (model prog w) A E s (zD a b) Q st:=by
 obtain⟨y0,hy0⟩:=gw (show a.size-1<a.size by omega)
 have la:a.toList.length=a.size:=au
 have lb:b.toList.length=b.size:=au
 have ga:∀ {i:Nat}{x:Keyed},a[i]? = some x->a.toList[i]? = some x:=λh=>by rw[aB];exact h
 have gb:∀ {i:Nat}{x:Keyed},b[i]? = some x->b.toList[i]? = some x:=λh=>by rw[aB];exact h
 have dA:∀ {i:Nat}{x:Keyed},1<=i->a[i-1]? = some x->∀ z∈a.toList.take i,key z<=key x:=λ{i x} h1 hx=>nU sa h1 (ga hx)
 have dB:∀ {i:Nat}{x:Keyed},1<=i->b[i-1]? = some x->∀ z∈b.toList.take i,key z<=key x:=λ{i x} h1 hx=>nU sb h1 (gb hx)
 have m0:MH key a.toList b.toList #[y0].toList (a.size-1) b.size:=by
  refine(show MH key a.toList b.toList ([] ++ [y0]) (a.size-1) b.size from MH.ph (out:=[]) ⟨List.Pairwise.nil,λx hx=>(by cases hx),?_⟩ sa za (ga hy0) λx hx=>hl x (dR hx) y0 hy0)
  rw[bq (by omega),bq (by omega)]
  simp
 have fA:∀ {out:Array Keyed}{na nb:Nat},MH key a.toList b.toList out.toList na nb->na=0->Mgd key a.toList b.toList (a.extract 0 na++b.extract 0 nb++out.reverse).toList:=λ{out na nb} m e=>by
  subst e
  have:=m.done sa sb (λx hx=>by simp at hx)
  simpa [bE]using this
 have fB:∀ {out:Array Keyed}{na nb:Nat},MH key a.toList b.toList out.toList na nb->nb=0->Mgd key a.toList b.toList (a.extract 0 na++b.extract 0 nb++out.reverse).toList:=λ{out na nb} m e=>by
  subst e
  have:=m.done sa sb (λx _ y hy=>by simp at hy)
  simpa [bE]using this
 have fF:∀ {out:Array Keyed}{na nb:Nat},MH key a.toList b.toList out.toList na nb->nb=1->Mgd key a.toList b.toList (b.extract 0 nb++a.extract 0 na++out.reverse).toList:=λ{out na nb} m e=>by
  subst e
  obtain⟨z,hz⟩:=gw (show 0<b.size by omega)
  have:=m.doneF sa sb (λx hx y hy=>by
   have e1:b.toList.take 1 = [z]:=by rw[mK (aq 1) (gb hz)];simp
   rw[e1]at hy
   rw[aV.mp hy]
   exact h0 x (dR hx) z hz)
  simpa [bE]using this
 refine ay (ji (eO ⟨rfl,?_⟩))
 refine ay (gi hy0 ?_)
 dsimp only
 refine fC (λe1=>aI (h _ _ (fA m0 (by simpa using e1)) ⟨rfl,rfl,rfl,rfl⟩)) (λe1=>?_)
 have e1:a.size-1≠0:=by simpa using e1
 refine fC (λe2=>aI (h _ _ (fF m0 (by simpa using e2)) ⟨rfl,rfl,rfl,rfl⟩)) (λe2=>?_)
 have e2:b.size≠1:=by simpa using e2
 refine ay (wpS_get ?_)
 refine ay (cE (bL (I:=λx c st'=>SmS st st'/\∃ na nb out g,c=(none,na,nb,out,g)/\MH key a.toList b.toList out.toList na nb/\1<=na/\2<=nb/\na<=a.size/\nb<=b.size/\na+nb+(x+1)<=a.size+b.size)
  (Q:=λc st'=>SmS st st'/\∃ r na nb out g,c=(some r,na,nb,out,g)/\Mgd key a.toList b.toList r.toList) ?_ ?_ ⟨⟨rfl,rfl,rfl,rfl⟩,_,_,_,_,rfl,m0,by omega,by omega,by omega,by omega,by omega⟩) ?_)
 ·rintro x c st1 _ hx ⟨S1,na,nb,out,g,rfl,m,i1,i2,z1,z2,i3⟩
  dsimp only
  refine ay (cE (bL (I:=λy c st'=>SmS st st'/\∃ na' nb' out ac bc,c=(none,na',nb',out,ac,bc)/\MH key a.toList b.toList out.toList na' nb'/\1<=na'/\2<=nb'/\na'<=a.size/\nb'<=b.size/\na'+nb'+y=na+nb)
   (Q:=λc st'=>SmS st st'/\∃ o na' nb' out ac bc,c=(o,na',nb',out,ac,bc)/\((∃ r,o=some r/\Mgd key a.toList b.toList r.toList)\/(o=none/\MH key a.toList b.toList out.toList na' nb'/\1<=na'/\2<=nb'/\na'<=a.size/\nb'<=b.size/\na'+nb'+1<=na+nb))) ?_ ?_ ⟨S1,_,_,_,_,_,rfl,m,i1,i2,z1,z2,rfl⟩) ?_)
  ·clear m i1 i2 S1
   rintro y c st2 _ hy ⟨S2,na',nb',out,ac,bc,rfl,m,i1,i2,y1,y2,i4⟩
   dsimp only
   obtain⟨u,hu⟩:=gw (show nb'-1<b.size by omega)
   obtain⟨v,hv⟩:=gw (show na'-1<a.size by omega)
   refine ay (gi hu (ay (gi hv (ay (qv O (hB _ _ hu) (hA _ _ hv) (S2.1.trans hk) ?_)))))
   dsimp only
   by_cases q:key u<key v
   ·rw[aH (by simpa using q)]
    refine ay (gi hv ?_)
    have m2:MH key a.toList b.toList (out.push v).toList (na'-1) nb':=by
     rw[cc]
     exact m.ph sa i1 (ga hv) λz hz=>by have:=dB (by omega) hu z hz;omega
    refine fC (λe=>?_) (λe=>?_)
    ·exact aI ⟨S2,_,_,_,_,_,_,rfl,.inl ⟨_,rfl,fA m2 (by simpa using e)⟩⟩
    ·have e:na'-1≠0:=by simpa using e
     refine fC (λ_=>?_) (λ_=>?_)
     ·exact aI ⟨S2,_,_,_,_,_,_,rfl,.inr ⟨rfl,m2,by omega,i2,by omega,y2,by omega⟩⟩
     ·exact aI ⟨S2,_,_,_,_,_,rfl,m2,by omega,i2,by omega,y2,by omega⟩
   ·rw[ax (by simpa using q)]
    refine ay (gi hu ?_)
    have m2:MH key a.toList b.toList (out.push u).toList na' (nb'-1):=by
     rw[cc]
     exact m.pf sb (by omega) (gb hu) λz hz=>by have:=dA i1 hv z hz;omega
    refine fC (λe=>?_) (λe=>?_)
    ·exact aI ⟨S2,_,_,_,_,_,_,rfl,.inl ⟨_,rfl,fF m2 (by simpa using e)⟩⟩
    ·have e:nb'-1≠1:=by simpa using e
     refine fC (λ_=>?_) (λ_=>?_)
     ·exact aI ⟨S2,_,_,_,_,_,_,rfl,.inr ⟨rfl,m2,i1,by omega,y1,by omega,by omega⟩⟩
     ·exact aI ⟨S2,_,_,_,_,_,rfl,m2,i1,by omega,y1,by omega,by omega⟩
  ·rintro c st2 ⟨S2,na',nb',out,ac,bc,rfl,m,i1,i2,y1,y2,i4⟩
   omega
  clear m i1 i2 S1
  rintro c st2 ⟨S2,o,na',nb',out,ac,bc,rfl,z⟩
  dsimp only
  rcases z with⟨r,rfl,z⟩|⟨rfl,m,i1,i2,y1,y2,i4⟩
  ·exact aI ⟨S2,_,_,_,_,_,rfl,z⟩
  dsimp only
  refine ay (ji (eO ⟨rfl,?_⟩))
  refine ay (cE (bL (I:=λy c st'=>SmS st st'/\∃ ja jb out g ac bc,c=(none,ja,jb,out,g,ac,bc)/\MH key a.toList b.toList out.toList ja jb/\1<=ja/\2<=jb/\ja<=a.size/\jb<=b.size/\ja+jb<=na'+nb')
   (Q:=λc st'=>SmS st st'/\∃ o ja jb out g ac bc,c=(o,ja,jb,out,g,ac,bc)/\((∃ r,o=some r/\Mgd key a.toList b.toList r.toList)\/(o=none/\MH key a.toList b.toList out.toList ja jb/\1<=ja/\2<=jb/\ja<=a.size/\jb<=b.size/\ja+jb<=na'+nb'))) ?_ ?_ ⟨S2,_,_,_,_,_,_,rfl,m,i1,i2,y1,y2,aq _⟩) ?_)
  ·clear m i1 i2 S2 z1 z2
   rintro y c st3 _ hy ⟨S3,ja,jb,out,g,ac,bc,rfl,m,i1,i2,z1,z2,i5⟩
   dsimp only
   obtain⟨u,hu⟩:=gw (show jb-1<b.size by omega)
   refine fC (λ_=>?_) (λ_=>?_)
   all_goals
    refine ay (mL S3 λst4 S3=>?_)
    refine ay (gi hu ?_)
    refine ay (jW O (base:=0) (n:=ja) (hint:=ja-1) (hB _ _ hu) hA (by omega) (by omega) (kP λi j h1 h2=>pQ sa (by omega) (by omega)) (S3.1.trans hk) λk C=>?_)
    obtain⟨C0,C1,C2⟩:=C
    dsimp only
    have ka:∀ z∈a.toList.take k,key z<=key u:=λz hz=>by
     obtain⟨i,hi,e⟩:=bt.mp hz
     rw[bB]at hi
     have:=C1 i (by omega)
     rw[List.getElem_take]at e
     rw[oY,cy,hU (key:=key) (show a[i]? = some z by rw[<-aB,ae (by omega),e])]at this
     omega
    apply fC
    case' h1=>
     intro g1
     have m2:MH key a.toList b.toList (out++(a.extract k ja).reverse).toList k jb:=by
      have:=m.qU sa (ja-k) k (by omega) (by omega) λi y' h1 h2 hy' x hx=>by
       have:=C2 i h1 h2
       rw[lH,cy,hU (key:=key) (show a[i]? = some y' by rw[<-aB];exact hy')]at this
       have:=dB (by omega) hu x hx
       omega
      simpa [bE,bq]using this
     refine fC (λg2=>aI ⟨S3,_,_,_,_,_,_,_,rfl,.inl ⟨_,rfl,fA m2 (by simpa using g2)⟩⟩) (λg2=>?_)
     have g2:k≠0:=by simpa using g2
     have j1:1<=k:=by omega
     have j0:k<=a.size:=by omega
     have j2:k+jb<=na'+nb':=by omega
     generalize ja-k=kk
     generalize out++(a.extract k ja).reverse=qt at m2 ⊢
     generalize k=ja' at m2 j1 j0 j2 ka ⊢
    case' h2=>
     intro g1
     have ek:k=ja:=by omega
     have m2:MH key a.toList b.toList out.toList ja jb:=m
     have j1:1<=ja:=i1
     have j0:ja<=a.size:=by omega
     have j2:=i5
     generalize ja-k=kk
     subst ek
     generalize out=qt at m2 ⊢
     generalize k=ja' at m2 j1 j0 j2 ka ⊢
    all_goals
     obtain⟨v,hv⟩:=gw (show ja'-1<a.size by omega)
     refine ay (gi hu ?_)
     have m3:MH key a.toList b.toList (qt.push u).toList ja' (jb-1):=by
      rw[cc]
      exact m2.pf sb (by omega) (gb hu) ka
     refine fC (λg4=>aI ⟨S3,_,_,_,_,_,_,_,rfl,.inl ⟨_,rfl,fF m3 (by simpa using g4)⟩⟩) (λg4=>?_)
     have g4:jb-1≠1:=by simpa using g4
     refine ay (gi hv ?_)
     refine ay (jW O (base:=0) (n:=jb-1) (hint:=jb-1-1) (hA _ _ hv) hB (by omega) (by omega) (kP λi j h1 h2=>pQ sb (by omega) (by omega)) (S3.1.trans hk) λk2 C=>?_)
     obtain⟨B0,B1,B2⟩:=C
     dsimp only
     have kb:∀ z∈b.toList.take k2,key z<=key v:=λz hz=>by
      obtain⟨i,hi,e⟩:=bt.mp hz
      rw[bB]at hi
      have:=B1 i (by omega)
      rw[List.getElem_take]at e
      rw[qZ,cy,hU (key:=key) (show b[i]? = some z by rw[<-aB,ae (by omega),e])]at this
      omega
     apply fC
     case' h1=>
      intro g5
      have m4:MH key a.toList b.toList (qt.push u++(b.extract k2 (jb-1)).reverse).toList ja' k2:=by
       have:=m3.qT sb (jb-1-k2) k2 (by omega) (by omega) λi y' h1 h2 hy' x hx=>by
        have:=B2 i h1 h2
        rw[m8,cy,hU (key:=key) (show b[i]? = some y' by rw[<-aB];exact hy')]at this
        have:=dA (by omega) hv x hx
        omega
       simpa [bE,bq]using this
      refine fC (λg6=>aI ⟨S3,_,_,_,_,_,_,_,rfl,.inl ⟨_,rfl,fF m4 (by simpa using g6)⟩⟩) (λg6=>?_)
      have g6:k2≠1:=by simpa using g6
      refine fC (λg8=>aI ⟨S3,_,_,_,_,_,_,_,rfl,.inl ⟨_,rfl,fB m4 (by simpa using g8)⟩⟩) (λg8=>?_)
      have g8:k2≠0:=by simpa using g8
      have j3:2<=k2:=by omega
      have j5:k2<=b.size:=by omega
      have j4:ja'+k2<=na'+nb':=by omega
      generalize jb-1-k2=kk2
      generalize qt.push u++(b.extract k2 (jb-1)).reverse=zg at m4 ⊢
      generalize k2=jb' at m4 j3 j5 kb j4 ⊢
     case' h2=>
      intro g5
      have ek:k2=jb-1:=by omega
      rw[ek]at kb
      have m4:=m3
      have j3:2<=jb-1:=by omega
      have j5:jb-1<=b.size:=by omega
      have j4:ja'+(jb-1)<=na'+nb':=by omega
      generalize jb-1-k2=kk2
      generalize qt.push u=zg at m4 ⊢
      generalize jb-1=jb' at m4 j3 j5 kb j4 ⊢
     all_goals
      refine ay (gi hv ?_)
      have m5:MH key a.toList b.toList (zg.push v).toList (ja'-1) jb':=by
       rw[cc]
       exact m4.ph sa j1 (ga hv) kb
      refine fC (λg7=>aI ⟨S3,_,_,_,_,_,_,_,rfl,.inl ⟨_,rfl,fA m5 (by simpa using g7)⟩⟩) (λg7=>?_)
      have g7:ja'-1≠0:=by simpa using g7
      refine fC (λ_=>?_) (λ_=>?_)
      ·exact aI ⟨S3,_,_,_,_,_,_,_,rfl,.inr ⟨rfl,m5,by omega,j3,by omega,j5,by omega⟩⟩
      ·exact aI ⟨S3,_,_,_,_,_,_,rfl,m5,by omega,j3,by omega,j5,by omega⟩
  ·rintro c st3 ⟨S3,ja,jb,out,g,ac,bc,rfl,m,i1,i2,z1,z2,i5⟩
   exact⟨S3,_,_,_,_,_,_,_,rfl,.inr ⟨rfl,m,i1,i2,z1,z2,i5⟩⟩
  rintro c st3 ⟨S3,o,ja,jb,out,g,ac,bc,rfl,z⟩
  rcases z with⟨r,rfl,z⟩|⟨rfl,m,i1,i2,x1,x2,i5⟩
  ·exact aI ⟨S3,_,_,_,_,_,rfl,z⟩
  ·exact ay (mL S3 λst4 S3=>aI ⟨S3,_,_,_,_,rfl,m,i1,i2,x1,x2,(by show ja+jb+(x+1+1)<=a.size+b.size;omega)⟩)
 ·rintro c st' ⟨S1,na,nb,out,g,rfl,m,i1,i2,x1,x2,i3⟩
  omega
 rintro c st' ⟨S1,r,na,nb,out,g,rfl,z⟩
 exact aI (h r st' z S1)
end
section
variable {key:Keyed->Int}
def kh (key:Keyed->Int)(arr:Array Keyed)(s n:Nat):Prop:=∀ i j,i<=j->j<n->Ka key arr (s+i)<=Ka key arr (s+j)
def Pd (key:Keyed->Int)(arr:Array Keyed):Nat->List (Nat×Nat×Nat)->Nat->Prop
 |s,[],lo=>s=lo
 |s,p::r,lo=>p.1=s/\1<=p.2.1/\kh key arr s p.2.1/\Pd key arr (s+p.2.1) r lo
theorem kh.congr {arr jg:Array Keyed}{s n:Nat}(h:kh key arr s n)(e:∀ i,s<=i->i<s+n->Ka key jg i=Ka key arr i):kh key jg s n:=λi j hij hj=>by
 rw[e _ (by omega) (by omega),e _ (by omega) (by omega)];exact h i j hij hj
theorem Pd.le {arr:Array Keyed} :∀ {p:List (Nat×Nat×Nat)}{s lo:Nat},Pd key arr s p lo->s+p.length<=lo
 |[],s,lo,h=>by have h:s=lo:=h;simp[h]
 |p::r,s,lo,h=>by
  have:=Pd.le h.2.2.2
  have:=h.2.1
  rw[aX];omega
theorem Pd.congr {arr jg:Array Keyed} :∀ {p:List (Nat×Nat×Nat)}{s lo:Nat},Pd key arr s p lo->(∀ i,s<=i->i<lo->Ka key jg i=Ka key arr i)->Pd key jg s p lo
 |[],s,lo,h,_=>h
 |p::r,s,lo,h,e=>⟨h.1,h.2.1,h.2.2.1.congr λi h1 h2=>e i h1 (by have:=Pd.le h.2.2.2;omega),Pd.congr h.2.2.2 λi h1 h2=>e i (by omega) h2⟩
theorem Pd.snoc {arr:Array Keyed} :∀ {p:List (Nat×Nat×Nat)}{s lo n pw:Nat},Pd key arr s p lo->1<=n->kh key arr lo n->Pd key arr s (p ++ [(lo,n,pw)]) (lo+n)
 |[],s,lo,n,pw,h,h1,h2=>by
  have h:s=lo:=h
  subst h
  exact⟨rfl,h1,h2,rfl⟩
 |p::r,s,lo,n,pw,h,h1,h2=>⟨h.1,h.2.1,h.2.2.1,Pd.snoc h.2.2.2 h1 h2⟩
theorem Pd.two {arr:Array Keyed} :∀ {p:List (Nat×Nat×Nat)}{s lo i:Nat}{a b:Nat×Nat×Nat},Pd key arr s p lo->p[i]? = some a->p[i+1]? = some b->
  s<=a.1/\b.1=a.1+a.2.1/\1<=a.2.1/\1<=b.2.1/\kh key arr a.1 a.2.1/\kh key arr b.1 b.2.1/\b.1+b.2.1<=lo/\
  ∀ jg,(∀ j,j<a.1\/b.1+b.2.1<=j->Ka key jg j=Ka key arr j)->kh key jg a.1 (a.2.1+b.2.1)->Pd key jg s ((p.set i (a.1,a.2.1+b.2.1,a.2.2)).eraseIdx (i+1)) lo
 |[],s,lo,i,a,b,h,h1,_=>by simp at h1
 |q::r,s,lo,0,a,b,h,h1,h2=>by
  have h1:q=a:=by simpa using h1
  subst h1
  cases r with
  |nil=>simp at h2
  |cons q2 r=>
   have h2:q2=b:=by simpa using h2
   subst h2
   obtain⟨e1,n1,g1,e2,n2,g2,t⟩:=h
   have l:=Pd.le t
   refine⟨by omega,by omega,n1,n2,by rw[e1];exact g1,by rw[e2];exact g2,by omega,λjg ag sg=>?_⟩
   show Pd key jg s ((q.1,q.2.1+q2.2.1,q.2.2)::r) lo
   refine⟨e1,by show 1<=q.2.1+q2.2.1;omega,by rw[e1]at sg;exact sg,?_⟩
   show Pd key jg (s+(q.2.1+q2.2.1)) r lo
   rw[<-Nat.add_assoc]
   exact t.congr λj h1 h2=>ag j (.inr (by omega))
 |q::r,s,lo,i+1,a,b,h,h1,h2=>by
  obtain⟨e1,n1,g1,t⟩:=h
  obtain⟨a1,a2,a3,a4,a5,a6,a7,a8⟩:=Pd.two t (by simpa using h1) (by simpa using h2)
  refine⟨by omega,a2,a3,a4,a5,a6,a7,λjg ag sg=>?_⟩
  show Pd key jg s (q::(r.set i _).eraseIdx (i+1)) lo
  exact⟨e1,n1,g1.congr λj h1 h2=>ag j (.inl (by omega)),a8 jg ag sg⟩
theorem vf (b:Nat):∀ (l:List Keyed) (o:Nat) (arr:Array Keyed),b+o+l.length<=arr.size->∀ i:Nat,((l.zipIdx o).foldl (λa (pj:Keyed×Nat)=>a.setIfInBounds (b+pj.2) pj.1) arr)[i]? = if b+o<=i/\i<b+o+l.length then l[i-(b+o)]? else arr[i]?
 |[],o,arr,h,i=>by rw[ax (by simp)];rfl
 |x::l,o,arr,h,i=>by
  rw[aX]at h
  rw[List.zipIdx_cons,cJ,vf b l (o+1) _ (by rw[Array.size_setIfInBounds];omega) i,Array.getElem?_setIfInBounds]
  rw[aX]
  by_cases g:i=b+o
  ·subst g
   rw[ax (by omega),aH rfl,aH (by omega),aH (by omega),b8];rfl
  ·by_cases g2:b+o<=i/\i<b+o+(l.length+1)
   ·rw[aH (by omega),aH g2]
    rw[show i-(b+o)=i-(b+(o+1))+1 by omega];rfl
   ·rw[ax (by omega),ax g2,ax (λz=>g z.symm)]
end
section
variable {prog:Program}{w:World}{A:Around}{E:Value->Shared->Prop}{s:Shared}{κ:SortKind}{key:Keyed->Int}{D:Keyed->Prop}
structure Sok (κ:SortKind)(key:Keyed->Int)(D:Keyed->Prop)(a₀:Array Keyed)(lo:Nat)(st:SortSt):Prop where
 kind:PyProof.Rows.kindOf st=κ
 fail:failedOf st=none
 perm:(arrOf st).Perm a₀
 pend:Pd key (arrOf st) 0 (pendingOf st).toList lo
theorem Sok.size {a₀:Array Keyed}{lo:Nat}{st:SortSt}(h:Sok κ key D a₀ lo st):(arrOf st).size=a₀.size:=by
 have:=(cP.mp h.perm).length_eq
 simpa using this
theorem Sok.dom {a₀:Array Keyed}{lo:Nat}{st:SortSt}(h:Sok κ key D a₀ lo st)(hD:∀ x∈a₀.toList,D x)(i:Nat)(x:Keyed)(hx:(arrOf st)[i]? = some x):D x:=
 hD x ((cP.mp h.perm).mem_iff.mp (aA (by rw[aB];exact hx)))
theorem Cb {x:SortSt}{Q:PUnit->SortSt->Prop}{st:SortSt}(h:∀ st1,PyProof.Rows.kindOf st1=PyProof.Rows.kindOf x->arrOf st1=arrOf x->pendingOf st1=pendingOf x->failedOf st1=failedOf x->Q ⟨⟩ st1):wpS (model prog w) A E s (set x:StateT SortSt Sem PUnit) Q st:=by
 unfold wpS;rw[StateT.run_set];exact aD ⟨rfl,h x rfl rfl rfl rfl⟩
theorem qF (O:Orc prog w A s κ key D){a₀:Array Keyed}(hD:∀ x∈a₀.toList,D x){lo:Nat}{st:SortSt}(S:Sok κ key D a₀ lo st)(hlo:lo<=a₀.size){i:Nat}(hi:i+1<(pendingOf st).size){Q:Bool->SortSt->Prop}
  (h:∀ st',Sok κ key D a₀ lo st'->(pendingOf st').size+1=(pendingOf st).size->(∀ j,lo<=j->Ka key (arrOf st') j=Ka key (arrOf st) j)->Q true st'):wpS (model prog w) A E s (mergeAt' i) Q st:=by
 obtain⟨⟨sa,na,pw⟩,ea⟩:∃ a,(pendingOf st)[i]? = some a:=⟨_,bj (by omega)⟩
 obtain⟨⟨sb,nb,pw2⟩,eb⟩:∃ b,(pendingOf st)[i+1]? = some b:=⟨_,bj hi⟩
 have hs:=S.size
 have dm:=S.dom hD
 obtain⟨_,e1,n1,n2,g1,g2,le,mk⟩:=S.pend.two (by rw[aB];exact ea) (by rw[aB];exact eb)
 dsimp only at e1 n1 n2 g1 g2 le mk
 have lp:(((pendingOf st).setIfInBounds i (sa,na+nb,pw)).eraseIdxIfInBounds (i+1)).toList=((pendingOf st).toList.set i (sa,na+nb,pw)).eraseIdx (i+1):=by
  rw[Array.toList_eraseIdxIfInBounds,Array.toList_setIfInBounds]
 have sz:(((pendingOf st).setIfInBounds i (sa,na+nb,pw)).eraseIdxIfInBounds (i+1)).size+1=(pendingOf st).size:=by
  have:=cH List.length lp
  rw[au,List.length_eraseIdx,List.length_set,au,aH hi]at this
  omega
 refine ay (wpS_get ?_)
 dsimp only
 rw[ea,eb]
 dsimp only
 refine ay (Cb λst1 k1 k2 k3 k4=>?_)
 have k1:PyProof.Rows.kindOf st1=κ:=k1.trans S.kind
 have k2:arrOf st1=arrOf st:=k2
 have k3:pendingOf st1=((pendingOf st).setIfInBounds i (sa,na+nb,pw)).eraseIdxIfInBounds (i+1):=k3
 have k4:failedOf st1=none:=k4.trans S.fail
 have same:kh key (arrOf st) sa (na+nb)->Q true st1:=λsg=>h st1 ⟨k1,k4,by rw[k2];exact S.perm,by rw[k2,k3,lp];exact mk _ (λ_ _=>rfl) sg⟩ (by rw[k3];exact sz) (λj _=>by rw[k2])
 obtain⟨u,hu⟩:=gw (show sb<(arrOf st).size by omega)
 have ku:=hU (key:=key) hu
 refine ay (gi hu ?_)
 refine ay (jW O (base:=sa) (n:=na) (hint:=0) (dm _ _ hu) dm (by omega) (by omega) (kP g1) k1 λk C=>?_)
 obtain⟨C0,C1,C2⟩:=C
 have C1:∀ i,i<k->Ka key (arrOf st) (sa+i)<=key u:=λi hi=>by have:=C1 i hi;rw[oY]at this;omega
 have C2:∀ i,k<=i->i<na->key u<Ka key (arrOf st) (sa+i):=λi hi h2=>by have:=C2 i hi h2;rw[lH]at this;exact this
 have bu:∀ i,i<nb->key u<=Ka key (arrOf st) (sb+i):=λi hi=>by
  have:=g2 0 i (by omega) hi
  rw[eh,ku]at this
  exact this
 dsimp only
 refine fC (λe=>aI (same λi j hij hj=>?_)) (λe=>?_)
 ·have e:na-k=0:=by simpa using e
  by_cases q:j<na
  ·exact g1 i j hij q
  ·have h2:=bu (j-na) (by omega)
   rw[show sb+(j-na)=sa+j by omega]at h2
   by_cases q2:i<na
   ·have:=C1 i (by omega)
    omega
   ·have:=g2 (i-na) (j-na) (by omega) (by omega)
    rw[show sb+(j-na)=sa+j by omega,show sb+(i-na)=sa+i by omega]at this
    exact this
 have e:na-k≠0:=by simpa using e
 obtain⟨v,hv⟩:=gw (show sa+k+(na-k)-1<(arrOf st).size by omega)
 have kv:=hU (key:=key) hv
 refine ay (gi hv ?_)
 refine ay (jW O (base:=sb) (n:=nb) (hint:=nb-1) (dm _ _ hv) dm (by omega) (by omega) (kP g2) k1 λm C=>?_)
 obtain⟨B0,B1,B2⟩:=C
 have B1:∀ i,i<m->Ka key (arrOf st) (sb+i)<key v:=λi hi=>by have:=B1 i hi;rw[qZ]at this;exact this
 have B2:∀ i,m<=i->i<nb->key v<=Ka key (arrOf st) (sb+i):=λi hi h2=>by have:=B2 i hi h2;rw[m8]at this;omega
 have av:∀ i,i<na->Ka key (arrOf st) (sa+i)<=key v:=λi hi=>by
  have:=g1 i (na-1) (by omega) (by omega)
  rw[show sa+(na-1)=sa+k+(na-k)-1 by omega,kv]at this
  exact this
 dsimp only
 refine fC (λe=>aI (same λi j hij hj=>?_)) (λe3=>?_)
 ·have e:m=0:=by simpa using e
  by_cases q:j<na
  ·exact g1 i j hij q
  ·have h2:=B2 (j-na) (by omega) (by omega)
   rw[show sb+(j-na)=sa+j by omega]at h2
   by_cases q2:i<na
   ·have:=av i q2
    omega
   ·have:=g2 (i-na) (j-na) (by omega) (by omega)
    rw[show sb+(j-na)=sa+j by omega,show sb+(i-na)=sa+i by omega]at this
    exact this
 have e3:m≠0:=by simpa using e3
 have zx:((arrOf st).extract (sa+k) sb).size=na-k:=by rw[Array.size_extract];omega
 have zy:((arrOf st).extract sb (sb+m)).size=m:=by rw[Array.size_extract];omega
 have gx:∀ t:Nat,t<na-k->((arrOf st).extract (sa+k) sb)[t]? = (arrOf st)[sa+k+t]? :=λt ht=>by rw[Array.getElem?_extract,aH (by omega)]
 have gy:∀ t:Nat,t<m->((arrOf st).extract sb (sb+m))[t]? = (arrOf st)[sb+t]? :=λt ht=>by rw[Array.getElem?_extract,aH (by omega)]
 have mx:∀ z∈((arrOf st).extract (sa+k) sb).toList,∃ t,t<na-k/\(arrOf st)[sa+k+t]? = some z:=λz hz=>by
  obtain⟨t,ht,et⟩:=bt.mp hz
  rw[au,zx]at ht
  refine⟨t,ht,?_⟩
  rw[<-gx t ht,<-aB,ae (by rw[au,zx];exact ht),et]
 have my:∀ z∈((arrOf st).extract sb (sb+m)).toList,∃ t,t<m/\(arrOf st)[sb+t]? = some z:=λz hz=>by
  obtain⟨t,ht,et⟩:=bt.mp hz
  rw[au,zy]at ht
  refine⟨t,ht,?_⟩
  rw[<-gy t ht,<-aB,ae (by rw[au,zy];exact ht),et]
 have px:∀ z∈((arrOf st).extract (sa+k) sb).toList,key u<=key z/\key z<=key v:=λz hz=>by
  obtain⟨t,ht,et⟩:=mx z hz
  have h1:=C2 (k+t) (by omega) (by omega)
  have h2:=av (k+t) (by omega)
  rw[show sa+(k+t)=sa+k+t by omega,hU et]at h1 h2
  omega
 have py:∀ z∈((arrOf st).extract sb (sb+m)).toList,key u<=key z/\key z<=key v:=λz hz=>by
  obtain⟨t,ht,et⟩:=my z hz
  have h1:=bu t (by omega)
  have h2:=B1 t ht
  rw[hU et]at h1 h2
  omega
 have sx:iR key ((arrOf st).extract (sa+k) sb).toList:=bR.mpr λi j hi hj hij=>by
  rw[au,zx]at hi hj
  have h1:=g1 (k+i) (k+j) (by omega) (by omega)
  have e1:(arrOf st)[sa+k+i]? = some ((arrOf st).extract (sa+k) sb).toList[i]:=by rw[<-gx i hi,<-aB,ae (by rw[au,zx];exact hi)]
  have e2:(arrOf st)[sa+k+j]? = some ((arrOf st).extract (sa+k) sb).toList[j]:=by rw[<-gx j hj,<-aB,ae (by rw[au,zx];exact hj)]
  rw[show sa+(k+i)=sa+k+i by omega,show sa+(k+j)=sa+k+j by omega,hU e1,hU e2]at h1
  exact h1
 have sy:iR key ((arrOf st).extract sb (sb+m)).toList:=bR.mpr λi j hi hj hij=>by
  rw[au,zy]at hi hj
  have h1:=g2 i j (by omega) (by omega)
  have e1:(arrOf st)[sb+i]? = some ((arrOf st).extract sb (sb+m)).toList[i]:=by rw[<-gy i hi,<-aB,ae (by rw[au,zy];exact hi)]
  have e2:(arrOf st)[sb+j]? = some ((arrOf st).extract sb (sb+m)).toList[j]:=by rw[<-gy j hj,<-aB,ae (by rw[au,zy];exact hj)]
  rw[hU e1,hU e2]at h1
  exact h1
 have hA:∀ (i:Nat) x,((arrOf st).extract (sa+k) sb)[i]? = some x->D x:=λi x hx=>by
  obtain⟨t,_,et⟩:=mx x (aA (by rw[aB];exact hx))
  exact dm _ _ et
 have hB:∀ (i:Nat) x,((arrOf st).extract sb (sb+m))[i]? = some x->D x:=λi x hx=>by
  obtain⟨t,_,et⟩:=my x (aA (by rw[aB];exact hx))
  exact dm _ _ et
 have h0:∀ x∈((arrOf st).extract (sa+k) sb).toList,∀ y,((arrOf st).extract sb (sb+m))[0]? = some y->key y<=key x:=λx hx y hy=>by
  rw[gy 0 (by omega),eh,hu]at hy
  cases hy
  exact(px x hx).1
 have hl:∀ y∈((arrOf st).extract sb (sb+m)).toList,∀ x,((arrOf st).extract (sa+k) sb)[((arrOf st).extract (sa+k) sb).size-1]? = some x->key y<=key x:=λy hy x hx=>by
  rw[zx,gx _ (by omega),show sa+k+(na-k-1)=sa+k+(na-k)-1 by omega,hv]at hx
  cases hx
  exact(py y hy).2
 have back:∀ r:Array Keyed,Mgd key ((arrOf st).extract (sa+k) sb).toList ((arrOf st).extract sb (sb+m)).toList r.toList->∀ jg,jg=r.toList.zipIdx.foldl (λa (pj:Keyed×Nat)=>a.setIfInBounds (sa+k+pj.2) pj.1) (arrOf st)->jg.Perm (arrOf st)/\(∀ j,j<sa\/sb+nb<=j->Ka key jg j=Ka key (arrOf st) j)/\kh key jg sa (na+nb):=by
  rintro r ⟨rs,rp⟩ jg rfl
  have rl:r.toList.length=na-k+m:=by
   have:=rp.length_eq
   rw[ah,au,au,au,zx,zy]at this
   rw[au];exact this
  have G:=vf (sa+k) r.toList 0 (arrOf st) (by omega)
  rw[eh,rl]at G
  have pr:∀ z∈r.toList,key u<=key z/\key z<=key v:=λz hz=>by
   rcases aL.mp (rp.mem_iff.mp hz)with q |q
   ·exact px z q
   ·exact py z q
  generalize r.toList.zipIdx.foldl (λa (pj:Keyed×Nat)=>a.setIfInBounds (sa+k+pj.2) pj.1) (arrOf st)=jg at G
  have Go:∀ j,j<sa+k\/sb+m<=j->Ka key jg j=Ka key (arrOf st) j:=λj hj=>by
   have:=G j
   rw[ax (by omega)]at this
   unfold Ka
   rw[bz,this,bz]
  have Gi:∀ j,sa+k<=j->j<sb+m->∃ z,r.toList[j-(sa+k)]? = some z/\Ka key jg j=key z:=λj h1 h2=>by
   have:=G j
   rw[aH (by omega)]at this
   have hz:r.toList[j-(sa+k)]? = some r.toList[j-(sa+k)]:=ae (by omega)
   rw[hz]at this
   exact⟨_,hz,hU this⟩
  refine⟨?_,λj hj=>Go j (by omega),λi j hij hj=>?_⟩
  ·rw[cP]
   have es:jg.size=(arrOf st).size:=by
    refine Nat.le_antisymm (Nat.le_of_not_lt λz=>?_) (Nat.le_of_not_lt λz=>?_)
    ·have:=G (arrOf st).size
     rw[ax (by omega),Array.getElem?_eq_none (aq _),bj z]at this
     cases this
    ·have:=G jg.size
     rw[Array.getElem?_eq_none (aq _)]at this
     by_cases q:sa+k<=jg.size/\jg.size<sa+k+(na-k+m)
     ·rw[aH q,ae (by omega)]at this;cases this
     ·rw[ax q,bj z]at this;cases this
   have el:jg.toList=(arrOf st).toList.take (sa+k)++(r.toList++(arrOf st).toList.drop (sb+m)):=by
    refine eL λj=>?_
    rw[aB,G j]
    have ll:((arrOf st).toList.take (sa+k)).length=sa+k:=by rw[bB,au];omega
    by_cases q1:j<sa+k
    ·rw[ax (by omega),ao (by omega),List.getElem?_take,aH q1,aB]
    ·rw[ar (by omega),ll]
     by_cases q2:j<sb+m
     ·rw[aH (by omega),ao (by omega)]
     ·rw[ax (by omega),ar (by omega),cG,aB]
      congr 1
      omega
   have eo:(arrOf st).toList=(arrOf st).toList.take (sa+k)++((((arrOf st).extract (sa+k) sb).toList++((arrOf st).extract sb (sb+m)).toList)++(arrOf st).toList.drop (sb+m)):=by
    rw[bE,bE,List.extract_eq_take_drop,List.extract_eq_take_drop]
    have a1:(arrOf st).toList.drop (sa+k)=((arrOf st).toList.drop (sa+k)).take (sb-(sa+k))++(arrOf st).toList.drop sb:=by
     have:=(cL (sb-(sa+k)) ((arrOf st).toList.drop (sa+k))).symm
     rw[List.drop_drop,show sa+k+(sb-(sa+k))=sb by omega]at this
     exact this
    have a2:(arrOf st).toList.drop sb=((arrOf st).toList.drop sb).take (sb+m-sb)++(arrOf st).toList.drop (sb+m):=by
     have:=(cL (sb+m-sb) ((arrOf st).toList.drop sb)).symm
     rw[List.drop_drop,show sb+(sb+m-sb)=sb+m by omega]at this
     exact this
    rw[aN,<-a2,<-a1,cL]
   rw[el]
   conv=>rhs;rw[eo]
   exact dF _ (List.Perm.append_right _ rp)
  ·-- rising
   by_cases i1:i<k
   ·rw[Go (sa+i) (by omega)]
    have c1:=C1 i i1
    by_cases j1:j<k
    ·rw[Go (sa+j) (by omega)];exact g1 i j hij (by omega)
    ·by_cases j2:j<na+m
     ·obtain⟨z,hz,ez⟩:=Gi (sa+j) (by omega) (by omega)
      have:=(pr z (aA hz)).1
      omega
     ·rw[Go (sa+j) (by omega)]
      have:=bu (j-na) (by omega)
      rw[show sb+(j-na)=sa+j by omega]at this
      omega
   ·by_cases i2:i<na+m
    ·obtain⟨z,hz,ez⟩:=Gi (sa+i) (by omega) (by omega)
     have c2:=(pr z (aA hz)).2
     by_cases j2:j<na+m
     ·obtain⟨z',hz',ez'⟩:=Gi (sa+j) (by omega) (by omega)
      rw[ez,ez']
      by_cases ee:i=j
      ·subst ee
       rw[hz]at hz';cases hz';exact cO _
      ·obtain⟨p1,rfl⟩:=af.mp hz
       obtain⟨p2,rfl⟩:=af.mp hz'
       exact bR.mp rs _ _ p1 p2 (by omega)
     ·rw[Go (sa+j) (by omega)]
      have:=B2 (j-na) (by omega) (by omega)
      rw[show sb+(j-na)=sa+j by omega]at this
      omega
    ·rw[Go (sa+i) (by omega),Go (sa+j) (by omega)]
     have:=g2 (i-na) (j-na) (by omega) (by omega)
     rw[show sb+(i-na)=sa+i by omega,show sb+(j-na)=sa+j by omega]at this
     exact this
 have last:∀ (r:Array Keyed) (st2:SortSt),Mgd key ((arrOf st).extract (sa+k) sb).toList ((arrOf st).extract sb (sb+m)).toList r.toList->SmS st1 st2->∀ st3,PyProof.Rows.kindOf st3=PyProof.Rows.kindOf st2->arrOf st3=r.toList.zipIdx.foldl (λa (pj:Keyed×Nat)=>a.setIfInBounds (sa+k+pj.2) pj.1) (arrOf st2)->pendingOf st3=pendingOf st2->failedOf st3=failedOf st2->Q (failedOf st3).isNone st3:=by
  intro r st2 M S2 st3 b1 b2 b3 b4
  rw[S2.2.1,k2]at b2
  obtain⟨c1,c2,c3⟩:=back r M _ b2
  have hf:failedOf st3=none:=b4.trans (S2.2.2.2.trans k4)
  rw[hf]
  refine h st3 ⟨b1.trans (S2.1.trans k1),hf,c1.trans S.perm,?_⟩ ?_ (λj hj=>c2 j (.inr (by omega)))
  ·rw[b3,S2.2.2.1,k3,lp];exact mk _ c2 c3
  ·rw[b3,S2.2.2.1,k3];exact sz
 refine fC (λ_=>ay (vX O hA hB sx sy (by omega) (by omega) h0 hl k1 λr st2 M S2=>?_)) (λ_=>ay (vY O hA hB sx sy (by omega) (by omega) h0 hl k1 λr st2 M S2=>?_))
 all_goals exact ay (wpS_modify (ay (wpS_get (aI (last r st2 M S2 _ rfl rfl rfl rfl)))))
end
section
variable {prog:Program}{w:World}{A:Around}{E:Value->Shared->Prop}{s:Shared}{κ:SortKind}{key:Keyed->Int}{D:Keyed->Prop}{a₀:Array Keyed}{lo:Nat}{st:SortSt}
theorem mV (O:Orc prog w A s κ key D)(hD:∀ x∈a₀.toList,D x)(S:Sok κ key D a₀ lo st){i j:Nat}(hi:i<a₀.size)(hj:j<a₀.size){Q:Option Bool->SortSt->Prop}(h:Q (some (decide (Ka key (arrOf st) i<Ka key (arrOf st) j))) st):wpS (model prog w) A E s (ltAt' i j) Q st:=by
 have hs:=S.size
 obtain⟨x,hx⟩:=gw (show i<(arrOf st).size by omega)
 obtain⟨y,hy⟩:=gw (show j<(arrOf st).size by omega)
 rw[hU hx,hU hy]at h
 rw[ltAt'_eq]
 refine ay (wpS_get ?_)
 refine ay (gi hx (ay (gi hy (qv O (S.dom hD _ _ hx) (S.dom hD _ _ hy) S.kind h))))
theorem ue {arr:Array Keyed}{i j k:Nat}(hj:j<=arr.size):Ka key (mirror arr i j ((j-i)/2)) k=if i<=k/\k<j then Ka key arr (i+j-1-k)else Ka key arr k:=by
 unfold Ka
 rw[bz,getElem?_mirror_all hj]
 by_cases h:i<=k/\k<j
 ·rw[aH h,aH h,bz]
 ·rw[ax h,ax h,bz]
theorem o4 {arr:Array Keyed}{i j:Nat}(hj:j<=arr.size)(he:∀ k,i<=k->k<j->Ka key arr k=Ka key arr (j-1))(k:Nat):Ka key (mirror arr i j ((j-i)/2)) k=Ka key arr k:=by
 rw[ue hj]
 by_cases h:i<=k/\k<j
 ·rw[aH h,he k h.1 h.2,he _ (by omega) (by omega)]
 ·rw[ax h]
theorem sW (S:Sok κ key D a₀ lo st){i j:Nat}(hi:lo<=i)(hj:j<=a₀.size){Q:Unit->SortSt->Prop}(h:∀ st',Sok κ key D a₀ lo st'->arrOf st'=mirror (arrOf st) i j ((j-i)/2)->Q () st'):wpS (model prog w) A E s (reverseSlice' i j) Q st:=by
 rw[reverseSlice'_eq]
 refine wpS_modify (h _ ⟨S.kind,S.fail,(mirror_perm _ _ _ _).trans S.perm,S.pend.congr λk _ hk=>?_⟩ rfl)
 show Ka key (mirror (arrOf st) i j ((j-i)/2)) k=_
 rw[ue (by rw[S.size];exact hj),ax (by omega)]
def uc (key:Keyed->Int)(arr:Array Keyed)(lo n:Nat):Prop:=∀ i,1<=i->i<n->Ka key arr (lo+i-1)<=Ka key arr (lo+i)
def As (key:Keyed->Int)(arr:Array Keyed)(lo n:Nat):Prop:=∀ i,1<=i->i<n->Ka key arr (lo+i)<=Ka key arr (lo+i-1)
theorem uc.seg {arr:Array Keyed}{lo n:Nat}(h:uc key arr lo n):kh key arr lo n:=by
 intro i j
 induction j with
 |zero=>intro hij _;rw[show i=0 by omega];exact cO _
 |succ j ih=>
  intro hij hj
  by_cases e:i=j+1
  ·rw[e];exact cO _
  ·have h1:=ih (by omega) (by omega)
   have h2:=h (j+1) (by omega) hj
   rw[show lo+(j+1)-1=lo+j by omega]at h2
   omega
theorem kh.rise {arr:Array Keyed}{lo n:Nat}(h:kh key arr lo n):uc key arr lo n:=λi h1 h2=>by
 have:=h (i-1) i (by omega) h2
 rw[show lo+(i-1)=lo+i-1 by omega]at this
 exact this
theorem yu (O:Orc prog w A s κ key D)(hD:∀ x∈a₀.toList,D x)(S:Sok κ key D a₀ lo st){oO:Nat}(h1:1<=oO)(hn:lo+oO<=a₀.size){Q:Option Nat->SortSt->Prop}
  (h:∀ n st',Sok κ key D a₀ lo st'->1<=n->n<=oO->kh key (arrOf st') lo n->Q (some n) st'):wpS (model prog w) A E s (countRun' lo oO) Q st:=by
 refine ay (cE (bL (I:=λx c st'=>st=st'/\c=(none,x)/\uc key (arrOf st) lo x)
  (Q:=λc st'=>st=st'/\∃ n,c=(none,n)/\1<=n/\n<=oO/\uc key (arrOf st) lo n/\(n<oO->Ka key (arrOf st) (lo+n)<Ka key (arrOf st) (lo+n-1))) ?_ ?_ ⟨rfl,rfl,λi a b=>absurd b (by omega)⟩) ?_)
 ·rintro x c st' hx1 hx ⟨rfl,rfl,R⟩
  dsimp only
  refine ay (mV O hD S (by omega) (by omega) ?_)
  dsimp only
  by_cases q:Ka key (arrOf st) (lo+x)<Ka key (arrOf st) (lo+x-1)
  ·rw[aH (by simpa using q)]
   exact aI ⟨rfl,x,rfl,hx1,by omega,R,λ_=>q⟩
  ·rw[ax (by simpa using q)]
   refine aI ⟨rfl,rfl,λi a b=>?_⟩
   by_cases e:i=x
   ·rw[e];omega
   ·exact R i a (by omega)
 ·rintro c st' ⟨rfl,rfl,R⟩
  rw[show max 1 oO=oO by omega]at R ⊢
  exact⟨rfl,oO,rfl,h1,aq _,R,λz=>absurd z (cK _)⟩
 rintro c st' ⟨rfl,n,rfl,n1,n2,R,dn⟩
 dsimp only
 refine fC (λe=>aI (h n st S n1 n2 R.seg)) (λe=>?_)
 have e:n≠oO:=by simpa using e
 have dn:=dn (by omega)
 have hs:=S.size
 apply fC
 case' h1=>
  intro g
  refine ay (mV O hD S (by omega) (by omega) ?_)
  dsimp only
  refine fC (λq=>aI (h n st S n1 n2 R.seg)) (λq=>?_)
  have q:Ka key (arrOf st) (lo+n-1)<=Ka key (arrOf st) lo:=by
   have q:¬(Ka key (arrOf st) lo<Ka key (arrOf st) (lo+n-1)):=by simpa using q
   omega
  refine ay (sW S (aq _) (by omega) λst1 S1 e1=>?_)
  have F:As key (arrOf st1) lo (n+1):=by
   have all:∀ k,lo<=k->k<lo+n->Ka key (arrOf st) k=Ka key (arrOf st) (lo+n-1):=λk a b=>by
    have c1:=R.seg 0 (k-lo) (by omega) (by omega)
    have c2:=R.seg (k-lo) (n-1) (by omega) (by omega)
    rw[show lo+(k-lo)=k by omega]at c1 c2
    rw[show lo+(n-1)=lo+n-1 by omega]at c2
    rw[eh]at c1
    omega
   have G:=o4 (key:=key) (arr:=arrOf st) (i:=lo) (j:=lo+n) (by omega) all
   intro i a b
   rw[e1,G,G]
   by_cases z:i=n
   ·rw[z];omega
   ·have:=all (lo+i) (by omega) (by omega)
    have:=all (lo+i-1) (by omega) (by omega)
    omega
 case' h2=>
  intro g
  have S1:=S
  have F:As key (arrOf st) lo (n+1):=λi a b=>by
   rw[show i=n by omega];omega
  generalize st=st1 at S1 F ⊢
 all_goals
  clear dn R hs S
  refine ay (ji (eO ⟨rfl,?_⟩))
  refine ay (cE (bL (I:=λx c st'=>Sok κ key D a₀ lo st'/\∃ q,c=(none,x,q)/\q+1<=x/\x<=oO/\As key (arrOf st') lo x/\∀ k,lo+x-(q+1)<=k->k<lo+x->Ka key (arrOf st') k=Ka key (arrOf st') (lo+x-1))
   (Q:=λc st'=>Sok κ key D a₀ lo st'/\∃ x q,c=(none,x,q)/\q+1<=x/\x<=oO/\As key (arrOf st') lo x/\∀ k,lo+x-(q+1)<=k->k<lo+x->Ka key (arrOf st') k=Ka key (arrOf st') (lo+x-1)) ?_ ?_ ⟨S1,0,rfl,by omega,by omega,F,λk a b=>by rw[show k=lo+(n+1)-1 by omega]⟩) ?_)
  ·rintro x c st' hx1 hx ⟨S2,q,rfl,q1,q2,F,eq⟩
   dsimp only
   have hs:=S2.size
   refine ay (mV O hD S2 (by omega) (by omega) ?_)
   dsimp only
   by_cases z:Ka key (arrOf st') (lo+x)<Ka key (arrOf st') (lo+x-1)
   ·rw[aH (by simpa using z)]
    refine fC (λg2=>?_) (λg2=>?_)
    ·refine ay (sW S2 (by omega) (by omega) λst3 S3 e3=>aI ⟨S3,0,rfl,by omega,by omega,λi a b=>?_,λk a b=>by rw[show k=lo+(x+1)-1 by omega]⟩)
     have G:=o4 (key:=key) (arr:=arrOf st') (i:=lo+x-(q+1)) (j:=lo+x) (by omega) eq
     rw[e3,G,G]
     by_cases y:i=x
     ·rw[y];omega
     ·exact F i a (by omega)
    ·refine aI ⟨S2,0,rfl,by omega,by omega,λi a b=>?_,λk a b=>by rw[show k=lo+(x+1)-1 by omega]⟩
     by_cases y:i=x
     ·rw[y];omega
     ·exact F i a (by omega)
   ·rw[ax (by simpa using z)]
    refine ay (mV O hD S2 (by omega) (by omega) ?_)
    dsimp only
    by_cases y:Ka key (arrOf st') (lo+x-1)<Ka key (arrOf st') (lo+x)
    ·rw[aH (by simpa using y)]
     exact aI ⟨S2,x,q,rfl,q1,q2,F,eq⟩
    ·rw[ax (by simpa using y)]
     refine aI ⟨S2,q+1,rfl,by omega,by omega,λi a b=>?_,λk a b=>?_⟩
     ·by_cases v:i=x
      ·rw[v];omega
      ·exact F i a (by omega)
     ·rw[show lo+(x+1)-1=lo+x by omega]
      by_cases v:k=lo+x
      ·rw[v]
      ·rw[eq k (by omega) (by omega)];omega
  ·rintro c st' ⟨S2,q,rfl,q1,q2,F,eq⟩
   exact⟨S2,_,q,rfl,q1,q2,F,eq⟩
  clear F S1
  rintro c st' ⟨S2,x,q,rfl,q1,q2,F,eq⟩
  dsimp only
  have hs:=S2.size
  apply fC
  case' h1=>
   intro g2
   refine ay (sW S2 (by omega) (by omega) λst3 S3 e3=>?_)
   have F3:As key (arrOf st3) lo x:=λi a b=>by
    have G:=o4 (key:=key) (arr:=arrOf st') (i:=lo+x-(q+1)) (j:=lo+x) (by omega) eq
    rw[e3,G,G];exact F i a b
  case' h2=>
   intro g2
   have S3:=S2
   have F3:=F
   generalize st'=st3 at S3 F3 ⊢
  all_goals
   clear F eq S2 hs
   have hs:=S3.size
   refine ay (sW S3 (aq _) (by omega) λst4 S4 e4=>?_)
   have R4:uc key (arrOf st4) lo x:=λi a b=>by
    rw[e4,ue (by omega),ue (by omega),aH (by omega),aH (by omega)]
    have:=F3 (x-i) (by omega) (by omega)
    rw[show lo+(lo+x)-1-(lo+i-1)=lo+(x-i) by omega,show lo+(lo+x)-1-(lo+i)=lo+(x-i)-1 by omega]
    exact this
   refine ay (cE (bL (I:=λy c st'=>st4=st'/\c=(none,y)/\uc key (arrOf st4) lo y)
    (Q:=λc st'=>st4=st'/\∃ n,c=(none,n)/\1<=n/\n<=oO/\uc key (arrOf st4) lo n) ?_ ?_ ⟨rfl,rfl,R4⟩) ?_)
   ·rintro y c st' hx1 hx ⟨rfl,rfl,R⟩
    dsimp only
    refine ay (mV O hD S4 (by omega) (by omega) ?_)
    dsimp only
    by_cases z:Ka key (arrOf st4) (lo+y)<Ka key (arrOf st4) (lo+y-1)
    ·rw[aH (by simpa using z)]
     exact aI ⟨rfl,y,rfl,by omega,by omega,R⟩
    ·rw[ax (by simpa using z)]
     refine aI ⟨rfl,rfl,λi a b=>?_⟩
     by_cases e:i=y
     ·rw[e];omega
     ·exact R i a (by omega)
   ·rintro c st' ⟨rfl,rfl,R⟩
    exact⟨rfl,_,rfl,by omega,by omega,R⟩
   rintro c st' ⟨rfl,n,rfl,n1,n2,R⟩
   exact aI (h n st4 S4 n1 n2 R.seg)
theorem DA {arr:Array Keyed}{k m i:Nat}(hk:k<arr.size)(hm:m<=k):Ka key (bubble arr k (k-m)) i=if i=m then Ka key arr k else if m<i/\i<=k then Ka key arr (i-1)else Ka key arr i:=by
 unfold Ka
 rw[bz,getElem?_bubble hk _ (by omega),show k-(k-m)=m by omega]
 by_cases h1:i=m
 ·rw[aH h1,aH h1,bz]
 ·rw[ax h1,ax h1]
  by_cases h2:m<i/\i<=k
  ·rw[aH h2,aH h2,bz]
  ·rw[ax h2,ax h2,bz]
theorem Bs (O:Orc prog w A s κ key D)(hD:∀ x∈a₀.toList,D x)(S:Sok κ key D a₀ lo st){n ok:Nat}(h1:1<=ok)(h2:ok<=n)(hn:lo+n<=a₀.size)(sg:kh key (arrOf st) lo ok){Q:Bool->SortSt->Prop}
  (h:∀ st',Sok κ key D a₀ lo st'->kh key (arrOf st') lo n->Q true st'):wpS (model prog w) A E s (binarySort' lo n ok) Q st:=by
 refine ay (cE (bL (I:=λk c st'=>Sok κ key D a₀ lo st'/\c=(none,())/\kh key (arrOf st') lo k) (Q:=λc st'=>Sok κ key D a₀ lo st'/\c=(none,())/\kh key (arrOf st') lo n) ?_ ?_ ⟨S,rfl,by rw[show max ok 1=ok by omega];exact sg⟩) ?_)
 ·rintro k c st' hk1 hk ⟨S1,rfl,sg⟩
  dsimp only
  have hs:=S1.size
  refine ay (cE (bL (I:=λx c st2=>st'=st2/\∃ l r,c=(none,l,r)/\l<=r/\r<=k/\r+x<=k+l/\(∀ i,i<l->Ka key (arrOf st') (lo+i)<=Ka key (arrOf st') (lo+k))/\(∀ i,r<=i->i<k->Ka key (arrOf st') (lo+k)<=Ka key (arrOf st') (lo+i)))
   (Q:=λc st2=>st'=st2/\∃ l r,c=(none,l,r)/\l<=k/\(∀ i,i<l->Ka key (arrOf st') (lo+i)<=Ka key (arrOf st') (lo+k))/\(∀ i,l<=i->i<k->Ka key (arrOf st') (lo+k)<=Ka key (arrOf st') (lo+i))) ?_ ?_ ⟨rfl,0,k,rfl,aM _,aq _,by omega,λi z=>absurd z (by omega),λi a b=>absurd b (by omega)⟩) ?_)
  ·rintro x c st2 _ hx ⟨rfl,l,r,rfl,a1,a2,a3,a4,a5⟩
   dsimp only
   refine fC (λg=>aI ⟨rfl,l,r,rfl,by omega,a4,λi b1 b2=>a5 i (by omega) b2⟩) (λg=>?_)
   refine ay (mV O hD S1 (by omega) (by omega) ?_)
   dsimp only
   by_cases z:Ka key (arrOf st') (lo+k)<Ka key (arrOf st') (lo+(l+r)/2)
   ·rw[aH (by simpa using z)]
    refine aI ⟨rfl,l,_,rfl,by omega,by omega,by omega,a4,λi b1 b2=>?_⟩
    have:=sg ((l+r)/2) i b1 b2
    omega
   ·rw[ax (by simpa using z)]
    refine aI ⟨rfl,_,r,rfl,by omega,by omega,by omega,λi b1=>?_,a5⟩
    have:=sg i ((l+r)/2) (by omega) (by omega)
    omega
  ·rintro c st2 ⟨rfl,l,r,rfl,a1,a2,a3,a4,a5⟩
   exact⟨rfl,l,r,rfl,by omega,a4,λi b1 b2=>a5 i (by omega) b2⟩
  rintro c st2 ⟨rfl,l,r,rfl,a1,a4,a5⟩
  dsimp only
  have G:∀ i,Ka key (bubble (arrOf st') (lo+k) (lo+k-(lo+l))) i=if i=lo+l then Ka key (arrOf st') (lo+k)else if lo+l<i/\i<=lo+k then Ka key (arrOf st') (i-1)else Ka key (arrOf st') i:=λi=>DA (by omega) (by omega)
  refine ay (wpS_modify (aI ⟨⟨S1.kind,S1.fail,(bubble_perm _ _ _).trans S1.perm,S1.pend.congr λj _ hj=>?_⟩,rfl,uc.seg λi b1 b2=>?_⟩))
  ·show Ka key (bubble (arrOf st') (lo+k) (lo+k-(lo+l))) j=_
   rw[G,ax (by omega),ax (by omega)]
  ·show Ka key (bubble (arrOf st') (lo+k) (lo+k-(lo+l))) (lo+i-1)<=Ka key (bubble (arrOf st') (lo+k) (lo+k-(lo+l))) (lo+i)
   rw[G,G]
   have R:=sg.rise
   by_cases c1:i<l
   ·rw[ax (by omega),ax (by omega),ax (by omega),ax (by omega)]
    exact R i b1 (by omega)
   ·by_cases c2:i=l
    ·rw[ax (by omega),ax (by omega),aH (by omega),show lo+i-1=lo+(i-1) by omega]
     exact a4 (i-1) (by omega)
    ·rw[ax (show ¬lo+i=lo+l by omega),aH (show lo+l<lo+i/\lo+i<=lo+k by omega)]
     by_cases c3:i-1=l
     ·rw[aH (by omega),show lo+i-1=lo+(i-1) by omega]
      exact a5 (i-1) (by omega) (by omega)
     ·rw[ax (by omega),aH (by omega)]
      have:=R (i-1) (by omega) (by omega)
      rw[show lo+(i-1)-1=lo+i-1-1 by omega,show lo+(i-1)=lo+i-1 by omega]at this
      exact this
 ·rintro c st' ⟨S1,rfl,sg⟩
  rw[show max (max ok 1) n=n by omega]at sg
  exact⟨S1,rfl,sg⟩
 rintro c st' ⟨S1,rfl,sg⟩
 exact aI (h st' S1 sg)
end
section
variable {prog:Program}{w:World}{A:Around}{E:Value->Shared->Prop}{s:Shared}{κ:SortKind}{key:Keyed->Int}{D:Keyed->Prop}{a₀:Array Keyed}{lo:Nat}{st:SortSt}
theorem Pd.mod {arr:Array Keyed}{f:Nat×Nat×Nat->Nat×Nat×Nat}(h1:∀ x,(f x).1=x.1)(h2:∀ x,(f x).2.1=x.2.1):∀ {p:List (Nat×Nat×Nat)}{s lo:Nat} (i:Nat),Pd key arr s p lo->Pd key arr s (p.modify i f) lo
 |[],s,lo,i,h=>by cases i<;>exact h
 |q::p,s,lo,0,h=>by
  show Pd key arr s (f q::p) lo
  exact⟨(h1 q).trans h.1,by rw[h2];exact h.2.1,by rw[h2];exact h.2.2.1,by rw[h2];exact h.2.2.2⟩
 |q::p,s,lo,i+1,h=>⟨h.1,h.2.1,h.2.2.1,Pd.mod h1 h2 i h.2.2.2⟩
theorem Sok.push (S:Sok κ key D a₀ lo st){m:Nat}(h1:1<=m)(sg:kh key (arrOf st) lo m){pw:Nat} :Sok κ key D a₀ (lo+m) (setPending st ((pendingOf st).push (lo,m,pw))):=
 ⟨S.kind,S.fail,S.perm,by
  show Pd key (arrOf st) 0 ((pendingOf st).push (lo,m,pw)).toList (lo+m)
  rw[cc]
  exact S.pend.snoc h1 sg⟩
theorem Sok.Gf (S:Sok κ key D a₀ lo st){f:Nat×Nat×Nat->Nat×Nat×Nat}(h1:∀ x,(f x).1=x.1)(h2:∀ x,(f x).2.1=x.2.1){i:Nat} :Sok κ key D a₀ lo (setPending st ((pendingOf st).modify i f)):=
 ⟨S.kind,S.fail,S.perm,by
  show Pd key (arrOf st) 0 ((pendingOf st).modify i f).toList lo
  rw[Array.toList_modify]
  exact S.pend.mod h1 h2 i⟩
theorem Sok.Ec (S:Sok κ key D a₀ lo st)(pw i:Nat):Sok κ key D a₀ lo (setPending st ((pendingOf st).modify i λx=>(x.1,x.2.1,pw))):=S.Gf (f:=λx=>(x.1,x.2.1,pw)) (λ_=>rfl) (λ_=>rfl)
theorem qE:∀ (f n r:Nat),1<=n->1<=minRun' f n r
 | 0,n,r,h=>by show 1<=n+r;omega
 |f+1,n,r,h=>by
  rw[minRun'_succ]
  by_cases g:n<64
  ·rw[aH g];omega
  ·rw[ax g];exact qE f _ _ (by omega)
theorem yP (O:Orc prog w A s κ key D)(hD:∀ x∈a₀.toList,D x)(S:Sok κ key D a₀ 0 st)(e0:arrOf st=a₀)(ep:pendingOf st = #[]){Q:Unit->SortSt->Prop}
  (h:∀ st',(arrOf st').Perm a₀->failedOf st'=none->kh key (arrOf st') 0 a₀.size->Q () st'):wpS (model prog w) A E s sortRuns' Q st:=by
 rw[sortRuns'_eq]
 refine ay (wpS_get ?_)
 dsimp only
 rw[e0]
 refine ay (cE (bL (I:=λx c st'=>∃ lo,c=(none,lo)/\Sok κ key D a₀ lo st'/\lo<=a₀.size/\x<=lo)
  (Q:=λc st'=>c=(none,a₀.size)/\Sok κ key D a₀ a₀.size st') ?_ ?_ ⟨0,rfl,S,aM _,aq _⟩) ?_)
 ·rintro x c st1 _ hx ⟨lo,rfl,S1,l1,l2⟩
  dsimp only
  refine fC (λg=>aI ?_) (λg=>?_)
  ·have:lo=a₀.size:=by omega
   subst this
   exact⟨rfl,S1⟩
  refine ay (yu O hD S1 (by omega) (by omega) λn st2 S2 n1 n2 sg=>?_)
  dsimp only
  have mp:=qE a₀.size a₀.size 0 (by omega)
  apply fC
  case' h1=>
   intro g2
   refine ay (ji (eO ⟨rfl,?_⟩))
   refine ay (Bs O hD S2 n1 (by omega) (by omega) sg λst3 S3 sg3=>?_)
   simp only[Bool.not_true,ck,dc]
   have n3:1<=min (a₀.size-lo) (minRun' a₀.size a₀.size 0):=by omega
   have n4:min (a₀.size-lo) (minRun' a₀.size a₀.size 0)<=a₀.size-lo:=by omega
   generalize min (a₀.size-lo) (minRun' a₀.size a₀.size 0)=m at n3 n4 sg3 ⊢
  case' h2=>
   intro g2
   have S3:=S2
   have sg3:=sg
   have n3:=n1
   have n4:=n2
   generalize n=m at n3 n4 sg3 ⊢
   generalize st2=st3 at S3 sg3 ⊢
  all_goals
   refine ay (wpS_get ?_)
   split
   ·rename_i s1 nn1 _ _
    refine ay (cE (bL (I:=λy c st'=>c=(none,())/\Sok κ key D a₀ lo st'/\kh key (arrOf st') lo m) (Q:=λc st'=>c=(none,())/\Sok κ key D a₀ lo st'/\kh key (arrOf st') lo m) ?_ (λc st' z=>z) ⟨rfl,S3,sg3⟩) ?_)
    ·rintro y c st4 _ hy ⟨rfl,S4,sg4⟩
     refine ay (wpS_get ?_)
     split
     ·rename_i q
      refine fC (λ_=>aI ⟨rfl,S4,sg4⟩) (λ_=>?_)
      have hz:1<(pendingOf st4).size:=by
       by_cases z:(pendingOf st4).size>1
       ·exact z
       ·rw[ax z]at q;cases q
      refine ay (qF O hD S4 l1 (by omega) λst5 S5 _ k5=>?_)
      simp only[Bool.not_true,ck,dc]
      exact aI ⟨rfl,S5,sg4.congr λj h1 _=>k5 j h1⟩
     ·exact aI ⟨rfl,S4,sg4⟩
    rintro c st4 ⟨rfl,S4,sg4⟩
    dsimp only
    refine ay (wpS_modify (ay (wpS_modify (aI ⟨lo+m,rfl,(S4.Ec _ _).push n3 sg4,by omega,by omega⟩))))
   ·exact ay (wpS_modify (aI ⟨lo+m,rfl,S3.push n3 sg3,by omega,by omega⟩))
 ·rintro c st1 ⟨lo,rfl,S1,l1,l2⟩
  have:lo=a₀.size:=by omega
  subst this
  exact⟨rfl,S1⟩
 rintro c st1 ⟨rfl,S1⟩
 dsimp only
 have pl:∀ st',Sok κ key D a₀ a₀.size st'->(pendingOf st').size<=a₀.size:=λst' S'=>by
  have:=S'.pend.le
  rw[au]at this
  omega
 refine ay (cE (bL (I:=λx c st'=>c=(none,())/\Sok κ key D a₀ a₀.size st'/\(pendingOf st').size+x<=a₀.size+1)
  (Q:=λc st'=>c=(none,())/\Sok κ key D a₀ a₀.size st'/\(pendingOf st').size<=1) ?_ ?_ ⟨rfl,S1,by have:=pl _ S1;omega⟩) ?_)
 ·rintro x c st2 _ hx ⟨rfl,S2,p2⟩
  refine ay (wpS_get ?_)
  refine fC (λg=>aI ⟨rfl,S2,g⟩) (λg=>?_)
  refine ay (qF O hD S2 (aq _) ?_ λst5 S5 k5 _=>?_)
  ·generalize (if(pendingOf st2).size-2>0 then _ else _:Option Nat)=o
   split<;>omega
  ·simp only[Bool.not_true,ck,dc]
   exact aI ⟨rfl,S5,by omega⟩
 ·rintro c st2 ⟨rfl,S2,p2⟩
  exact⟨rfl,S2,by omega⟩
 rintro c st2 ⟨rfl,S2,p2⟩
 refine aI (h st2 S2.perm S2.fail ?_)
 have pe:=S2.pend
 have pz:(pendingOf st2).toList.length<=1:=by rw[au];exact p2
 generalize (pendingOf st2).toList=p at pe pz
 match p,pe,pz with
 |[],pe,_=>
  have pe:0=a₀.size:=pe
  intro i j _ hj
  omega
 |[q],pe,_=>
  obtain⟨_,_,sg,e⟩:=pe
  have e:0+q.2.1=a₀.size:=e
  rw[cy]at e
  rw[<-e];exact sg
end
end TL
namespace TL
open PySem PySem.W PyProof.Rows
section
variable {N:Nat}{key:Nat->Int}{cmp:Nat->Nat->(Bool->Shared->Prop)->Shared->Prop}{R:Shared->Prop}
end
end TL
namespace TL
open PySem PySem.Spec PyProof.Rows L2
section
variable {prog:Program}{w:World}{A:Around}{E:Value->Shared->Prop}{s:Shared}{d it vw:Addr}{o:Obj}{es:Array DictEntry}{ep i:Nat}{ok ov:Value}
end
section
variable {X:Cx}
end
section
variable {prog:Program}{w:World}{A:Around}{E:Value->Shared->Prop}{s:Shared}
end
open PySem.W
section
variable {prog:Program}{w:World}{A:Around}{E:Value->Shared->Prop}{s:Shared}
end
section
variable {prog:Program}{w:World}{A:Around}{E:Value->Shared->Prop}{s:Shared}
def By (prog:Program)(w:World)(A:Around)(s:Shared)(vs:List Value)(kv:Value->Int):Prop:=
 ∃ κ,(∀ (E:Value->Shared->Prop) (Q:SortKind->Shared->Prop),Q κ s->wpAny (model prog w) A (keyKind' vs.toArray) Q E s)/\Orc prog w A s κ (λx=>kv x.1) (λx=>x.1∈vs)
theorem yB (vs:List Value):∀ x∈(vs.toArray.zip vs.toArray).toList,x.1=x.2/\x.1∈vs:=by
 intro x hx
 rw[Array.toList_zip]at hx
 have:∀ l:List Value,∀ x∈l.zip l,x.1=x.2/\x.1∈l:=by
  intro l
  induction l with
  |nil=>intro x hx;simp at hx
  |cons a l ih=>
   intro x hx
   rw[eA]at hx
   rcases aO.mp hx with rfl |q
   ·exact⟨rfl,aC⟩
   ·exact⟨(ih x q).1,aE _ (ih x q).2⟩
 exact this vs x hx
theorem rA {a:Addr}{vs:List Value}{n:Nat}{P:Fin->Shared->Prop}{kv:Value->Int}(ho:s.heap.get? a=some (seqObj "list" vs.toArray n))(hz:vs.length<=sizeLine)
  (hk:2<=vs.length->∀ h',(∀ b ob,b≠a->s.heap.get? b=some ob->h'.get? b=some ob)->By prog w A {s with heap:=h'} vs kv)
  (h:∀ ws:List Value,ws.Perm vs->ws.Pairwise (λx y=>kv x<=kv y)->P (.done (.ret .none)) {s with heap:=sortedHeap s.heap a vs ws.toArray}):
  wpAny (model prog w) A (Builtin.«list.sort» ⟨[.ref a],[]⟩) P E s:=by
 rw[list_sort_plain]
 have ha:a<s.heap.objs.size:=aK ho
 refine ak (listItems_at ho rfl ?_)
 refine ak (listUpdate_at ho rfl ?_ (by rw[aG];exact hz) (aM _))
 obtain⟨e1,ho1⟩:∃ e1,(s.heap.update a (Obj.mapSeq λ_=> #[])).get? a=some (seqObj "list" #[] e1):=⟨_,get?_update_seq ho (λ_=> #[])⟩
 refine ak (seqEpoch_at ho1 rfl ?_)
 refine ak (wpAny_newTuple ?_ (by show vs.length<=_;exact hz))
 refine ak (wpAny_newList ?_ (aM _))
 refine wpAny_holding ?_
 have ho6:(((s.heap.update a (Obj.mapSeq λ_=> #[])).push (seqObj "tuple" vs.toArray 0)).push (seqObj "list" #[] 0)).get? a=some (seqObj "list" #[] e1):=aJ _ (aJ _ ho1)
 have keep:∀ b ob,b≠a->s.heap.get? b=some ob->(((s.heap.update a (Obj.mapSeq λ_=> #[])).push (seqObj "tuple" vs.toArray 0)).push (seqObj "list" #[] 0)).get? b=some ob:=λb ob hb e=>
  aJ _ (aJ _ ((Heap.SameBut.update s.heap a (Obj.mapSeq λ_=>(#[]:Array Value))).extBut b ob hb e))
 show wpAny (model prog w) A _ P E {s with heap:=((s.heap.update a (Obj.mapSeq λ_=> #[])).push (seqObj "tuple" vs.toArray 0)).push (seqObj "list" #[] 0)}
 dsimp only
 by_cases h2:vs.toArray.size<2
 ·rw[aH h2,aH h2]
  refine ak (aD ?_)
  rw[StateT.run_pure]
  refine ak (aD ?_)
  dsimp only
  refine ak (seqEpoch_at ho6 rfl ?_)
  have eo:(arrOf (SortSt.mk' general' (vs.toArray.zip vs.toArray) #[] 7 none)).map (·.2)=vs.toArray:=by
   show(vs.toArray.zip vs.toArray).map (·.2)=vs.toArray
   exact Array.map_snd_zip (aq _)
  rw[eo]
  refine ak (listUpdate_at ho6 rfl ?_ (aM _) (by rw[aG];omega))
  simp only[bne_self_eq_false,ck,dc]
  have h2':vs.length<2:=by rw[aG]at h2;exact h2
  refine aD (h vs (List.Perm.refl _) ?_)
  match vs,h2' with
  |[],_=>exact List.Pairwise.nil
  |[_],_=>exact cC _ _
 ·rw[ax h2,ax h2]
  have h2':2<=vs.length:=by rw[aG]at h2;omega
  obtain⟨κ,k1,k2⟩:=hk h2' _ keep
  refine ak (k1 _ _ ?_)
  have zs:=yB vs
  have zm:(vs.toArray.zip vs.toArray).map (·.2)=vs.toArray:=Array.map_snd_zip (aq _)
  have run:wpS (model prog w) A E {s with heap:=((s.heap.update a (Obj.mapSeq λ_=> #[])).push (seqObj "tuple" vs.toArray 0)).push (seqObj "list" #[] 0)} sortRuns' (λ_ st'=>∃ ws:List Value,(arrOf st').map (·.2)=ws.toArray/\ws.Perm vs/\ws.Pairwise (λx y=>kv x<=kv y)/\failedOf st'=none) (SortSt.mk' κ (vs.toArray.zip vs.toArray) #[] 7 none):=by
   refine yP k2 (a₀:=vs.toArray.zip vs.toArray) (λx hx=>(zs x hx).2) (st:=SortSt.mk' κ (vs.toArray.zip vs.toArray) #[] 7 none) ⟨rfl,rfl,Array.Perm.refl _,rfl⟩ rfl rfl λst' pm hf sg=>?_
   have pl:=cP.mp pm
   refine⟨(arrOf st').toList.map (·.2),by rw[<-Array.toList_inj];simp,?_,?_,hf⟩
   ·have:=pl.map (·.2)
    rw[<-Array.toList_map (xs:=vs.toArray.zip vs.toArray),zm]at this
    exact this
   ·rw[bU]
    refine bR.mpr λi j hi hj hij=>?_
    have zz:(arrOf st').size=(vs.toArray.zip vs.toArray).size:=by have:=pl.length_eq;rw[au,au]at this;exact this
    rw[au]at hi hj
    have:=sg i j (by omega) (by omega)
    rw[cy,cy,hU (bj hi),hU (bj hj)]at this
    have x1:=(zs _ (pl.mem_iff.mp (eS (show i<(arrOf st').toList.length by rw[au];exact hi)))).1
    have x2:=(zs _ (pl.mem_iff.mp (eS (show j<(arrOf st').toList.length by rw[au];exact hj)))).1
    rw[<-x1,<-x2]
    exact this
  refine ak (bQ run ?_ λ_ _ e=>e)
  rintro⟨⟨⟩,st'⟩ s' ⟨rfl,ws,Il,hp,hs,hf⟩
  dsimp only
  rw[Il]
  refine ak (seqEpoch_at ho6 rfl ?_)
  refine ak (listUpdate_at ho6 rfl ?_ (aM _) (by rw[aG,hp.length_eq];omega))
  rw[hf]
  simp only[bne_self_eq_false,ck,dc]
  exact aD (h ws hp hs)
theorem p8 {l:Addr}{vs:List Value}{Q:Value->Shared->Prop}{kv:Value->Int}(hl:s.heap.IsList l vs.toArray)(hz:vs.length<=sizeLine)
  (hk:2<=vs.length->∀ h',(∀ b ob,s.heap.get? b=some ob->h'.get? b=some ob)->By prog w A.in1.in1 {s with heap:=h'} vs kv)
  (h:∀ ws:List Value,ws.Perm vs->ws.Pairwise (λx y=>kv x<=kv y)->Q (.ref (s.heap.objs.size+1)) {s with heap:=sortedAll s.heap vs ws.toArray}):
  wpAny (model prog w) A (call (.builtin "sorted") [.ref l]) Q E s:=by
 refine Calls.call_function_entry kind_sorted plain_sorted entry_sorted (args_sorted1 _) ?_
 unfold Builtin.«sorted»
 refine ak (m:=checkCount "sorted" 1 1 _) (aD ?_)
 refine ak (collect_list hl ?_ hz)
 refine ak (wpAny_newList ?_ hz)
 have hsz:((s.heap.push (seqObj "list" #[] 0)).update s.heap.objs.size (Obj.mapSeq (· ++ vs.toArray))).objs.size=s.heap.objs.size+1:=by
  rw[Heap.size_update,size_push']
 have hoL:(((s.heap.push (seqObj "list" #[] 0)).update s.heap.objs.size (Obj.mapSeq (· ++ vs.toArray))).push (seqObj "list" vs.toArray 0)).get? (s.heap.objs.size+1)=some (seqObj "list" vs.toArray 0):=by
  rw[<-hsz];exact aY _ rfl
 have keep:∀ b o,s.heap.get? b=some o->(((s.heap.push (seqObj "list" #[] 0)).update s.heap.objs.size (Obj.mapSeq (· ++ vs.toArray))).push (seqObj "list" vs.toArray 0)).get? b=some o:=λb o q=>by
  have hlt:b<s.heap.objs.size:=aK q
  rw[Heap.get?_push_ne _ _ _ (by rw[hsz];exact bw (Nat.lt_succ_of_lt hlt)),Heap.get?_update_ne _ _ _ _ (bw hlt),Heap.get?_push_ne _ _ _ (bw hlt)]
  exact q
 show wpAny _ _ _ _ _ {s with heap:=((s.heap.push (seqObj "list" #[] 0)).update s.heap.objs.size (Obj.mapSeq (· ++ vs.toArray))).push (seqObj "list" vs.toArray 0)}
 rw[hsz]
 have Et:∀ h':Heap,(∀ b ob,b≠s.heap.objs.size+1->(((s.heap.push (seqObj "list" #[] 0)).update s.heap.objs.size (Obj.mapSeq (· ++ vs.toArray))).push (seqObj "list" vs.toArray 0)).get? b=some ob->h'.get? b=some ob)->∀ b ob,s.heap.get? b=some ob->h'.get? b=some ob:=λh' k b ob e=>
  k b ob (λz=>cK b (aU (aK e) (by rw[z];exact eI _))) (keep b ob e)
 refine ak (wpAny_holding (di slot_list_sort ⟨_,hoL,rfl⟩ entry_list_sort (rA (kv:=kv) hoL hz (λh2 h' k=>hk h2 h' (Et h' k)) λws a1 a2=>⟨_,rfl,?_⟩) (args_list_sort _)))
 exact aD ⟨_,rfl,h ws a1 a2⟩
end
section
variable {prog:Program}{w:World}{A:Around}{s:Shared}
end
theorem uF {h:Heap} :∀ {vs:List Value}{ds:List PyData}{as:List Addr}{i:Nat}{v:Value}{d:PyData},ReadsAll h vs ds as->vs[i]? = some v->ds[i]? = some d->∃ as',Reads h v d as'
 |[],_,_,i,v,d,_,h1,_=>by simp at h1
 |x::vs,ds,as,i,v,d,r,h1,h2=>by
  cases r with
  |cons r1 r2=>
   cases i with
   |zero=>cases h1;cases h2;exact⟨_,r1⟩
   |succ i=>exact uF r2 (by simpa using h1) (by simpa using h2)
theorem rT {h:Heap} :∀ {vs:List Value}{ds:List PyData}{as:List Addr},ReadsAll h vs ds as->vs.length=ds.length
 |[],_,_,r=>by cases r;rfl
 |x::vs,ds,as,r=>by
  cases r with
  |cons r1 r2=>simp[rT r2]
section
variable {X:Cx}
end
def kvI:Value->Int
 |.int n _=>n
 |_=>0
theorem ints_of:∀ {ns:List Int}{its:List Value},Vals (ns.map V.int) its->(∀ v∈its,∃ t,v = .int (kvI v) t)/\its.map kvI=ns
 |[],its,r=>by cases r;exact⟨λv hv=>by(cases hv),rfl⟩
 |n::ns,its,r=>by
  cases r with
  |cons r1 r2=>
   obtain⟨h1,h2⟩:=ints_of r2
   obtain⟨t,rfl⟩:=r1
   refine⟨λv hv=>?_,by rw[aS,h2];rfl⟩
   rcases aO.mp hv with rfl |q
   ·exact⟨_,rfl⟩
   ·exact h1 v q
theorem nQ:∀ {its:List Value},(∀ v∈its,∃ t,v = .int (kvI v) t)->Vals ((its.map kvI).map V.int) its
 |[],_=>.nil
 |v::its,h=>by
  obtain⟨t,e⟩:=h v aC
  refine .cons ?_ (nQ λu hu=>h u (aE _ hu))
  rw[e];exact⟨t,rfl⟩
theorem Ah {prog:Program}{w:World}{A:Around}{s:Shared}{ns:List Int}{its:List Value}(rv:Vals (ns.map V.int) its)(h2:2<=its.length):By prog w A s its kvI:=by
 obtain⟨h1,_⟩:=ints_of rv
 have ia:=intsAre_of rv
 refine⟨oneType',λE Q hq=>?_,λx y hx hy Q hq=>?_⟩
 ·match its,h2,ia with
  |a::b::r,_,ia=>
   rw[keyKind_ints ia]
   exact aD hq
 ·obtain⟨t,ex⟩:=h1 _ hx
  obtain⟨u,ey⟩:=h1 _ hy
  dsimp only at hq
  rw[keyLt'_oneType,ex,ey]
  exact oneLt_int hq
section
variable {X:Cx}
theorem t7:jh X (.builtin "sorted") (λxs H Q=>∃ a ns,xs = [.ref a]/\SqL X.K H a (ns.map V.int)/\∀ p,H p=none->Q (.ref p) (upd H p (.lst ((srt ns).map V.int)))):=by
 intro pins s σ H xs us Q I r h
 obtain⟨a,ns,rfl,hx,q⟩:=h
 obtain⟨u,rfl,ru⟩:=vals1 r
 cases ru
 obtain⟨its,rv,p,hz⟩:=I.list hx
 have hlen:=rv.length
 rw[aa]at hlen hz
 obtain⟨iv,im⟩:=ints_of rv
 refine p8 (kv:=kvI) p.isList (by omega) (λh2 h' _=>Ah rv h2) λws pm sp=>?_
 have e':ws.map kvI=srt ns:=yK (by rw[<-im];exact pm.map _) (bU.mpr sp)
 obtain⟨e,he⟩:=sortedAll_at s.heap its ws.toArray
 have vo:Vals ((srt ns).map V.int) ws:=by rw[<-e'];exact nQ λv hv=>iv v (pm.mem_iff.mp hv)
 refine⟨.ref (s.heap.objs.size+1),_,I.laid (t':=s.toks) (o:=.lst ((srt ns).map V.int)) (λb ob q=>sortedAll_old q) (eI _) ⟨?_,ws,e,vo,?_⟩,rfl,q _ (I.hok.fresh (eI _))⟩
 ·rw[aa,nF];exact hz
 ·rw[he]
end
def gZ:List Int->List Int->Bool
 |[],[]=>false
 |[],_::_=>true
 |_::_,[]=>false
 |x::xs,y::ys=>if x=y then gZ xs ys else decide (x<y)
def ILs (h:Heap)(v:Value)(ns:List Int):Prop:=∃ (a:Addr) (its:Array Value) (n:Nat) (dd:Option Addr) (sl:Array (Option Value)),v = .ref a/\h.get? a=some {cls:=.type "list",dict:=dd,data:=.seq its n,slots:=sl} /\Vals (ns.map V.int) its.toList
open PySem.SeqAt AutoSeq1 MeetsSeq MeetsSeq2 MeetsSeq3 in
theorem AY (a b:Addr)(p q:Array Value)(n1 n2:Nat)(d1 d2:Option Addr)(l1 l2:Array (Option Value))(xs ys:List Int)(vx:Vals (xs.map V.int) p.toList)(vy:Vals (ys.map V.int) q.toList)(k:Nat):∀ i:Nat,xs.length-i=k->i<=xs.length->i<=ys.length->
  Meets (Builtin.«list.__eq__.loop» ⟨[.ref a,.ref b,rawInt i,rawInt 0],[]⟩) (λA R s=>s.heap.get? a=some {cls:=.type "list",dict:=d1,data:=.seq p n1,slots:=l1} /\s.heap.get? b=some {cls:=.type "list",dict:=d2,data:=.seq q n2,slots:=l2} /\
   R (.ok (.ret (.bool (gZ (xs.drop i) (ys.drop i))))) s):=by
 have sx:p.size=xs.length:=by have:=vx.length;rw[aa,au]at this;exact this.symm
 have sy:q.size=ys.length:=by have:=vy.length;rw[aa,au]at this;exact this.symm
 obtain⟨ix,mx⟩:=ints_of vx
 obtain⟨iy,my⟩:=ints_of vy
 have gx:∀ j (h:j<xs.length),∃ t,p[j]? = some (.int xs[j] t):=λj h=>by
  have hj:j<p.size:=by omega
  obtain⟨t,e⟩:=ix p[j] (by simp)
  have:kvI p[j]=xs[j]:=by
   have h3:(p.toList.map kvI)[j]? = xs[j]? :=by rw[mx]
   rw[aj,aB,bj hj,ae h]at h3
   simpa using h3
  exact⟨t,by rw[bj hj,<-this,<-e]⟩
 have gy:∀ j (h:j<ys.length),∃ t,q[j]? = some (.int ys[j] t):=λj h=>by
  have hj:j<q.size:=by omega
  obtain⟨t,e⟩:=iy q[j] (by simp)
  have:kvI q[j]=ys[j]:=by
   have h3:(q.toList.map kvI)[j]? = ys[j]? :=by rw[my]
   rw[aj,aB,bj hj,ae h]at h3
   simpa using h3
  exact⟨t,by rw[bj hj,<-this,<-e]⟩
 induction k with
 |zero=>
  intro i hk i1 i2 prog w A R s h
  obtain⟨hp,g,d,tk,os⟩:=s
  obtain⟨h1,h2,h⟩:=h
  wp_walk using bK h1,bK h2
  have hn:p[((i:Nat):Int).toNat]? = none:=by simp;omega
  rw[hn]
  wp_walk using bK h1,bK h2
  have e1:xs.drop i = []:=cx (by omega)
  rw[e1]at h
  show R (.ok (.ret (.bool (decide (p.size<q.size))))) _
  cases hy:ys.drop i with
  |nil=>
   rw[hy]at h
   have:ys.length<=i:=List.drop_eq_nil_iff.mp hy
   rw[bo (by omega)];exact h
  |cons z r=>
   rw[hy]at h
   have:¬ys.length<=i:=λz'=>by rw[cx z']at hy;cases hy
   rw[bC (by omega)];exact h
 |succ k ih=>
  intro i hk i1 i2 prog w A R s h
  obtain⟨hp,g,d,tk,os⟩:=s
  obtain⟨h1,h2,h⟩:=h
  have hi:i<xs.length:=by omega
  obtain⟨t1,e1⟩:=gx i hi
  have ei1:p[((i:Nat):Int).toNat]? = some (.int xs[i] t1):=e1
  have dx:xs.drop i=xs[i]::xs.drop (i+1):=eF hi
  rw[dx]at h
  wp_walk using bK h1,bK h2
  by_cases hj:i<ys.length
  ·obtain⟨t2,e2⟩:=gy i hj
   have ei2:q[((i:Nat):Int).toNat]? = some (.int ys[i] t2):=e2
   have dy:ys.drop i=ys[i]::ys.drop (i+1):=eF hj
   rw[dy]at h
   rw[ei1,ei2]
   refine ak (wpAny_eqBool_int ?_)
   have h:R (.ok (.ret (.bool (if xs[i]=ys[i]then gZ (xs.drop (i+1)) (ys.drop (i+1))else decide (xs[i]<ys[i]))))) _:=h
   by_cases c:xs[i]=ys[i]
   ·rw[aH c]at h
    rw[show(xs[i]==ys[i])=true by simp[c]]
    wp_walk
    rw[show((i:Int)+1)=((i+1:Nat):Int) by push_cast;rfl]
    exact⟨plainId_quiet plain_eq_loop _,codeAny_builtin entry_eq_loop (by
     rw[Around.under_plainId plain_eq_loop _]
     exact ih (i+1) (by omega) (by omega) (by omega) prog w A R _ ⟨h1,h2,h⟩)⟩
   ·rw[ax c]at h
    rw[show(xs[i]==ys[i])=false by simp[c]]
    wp_walk using bK h1,bK h2
    rw[ei1,ei2]
    refine ak (wpAny_lt_int ?_)
    exact aD h
  ·have hn:q[((i:Nat):Int).toNat]? = none:=by simp;omega
   rw[cx (show ys.length<=i by omega)]at h
   rw[ei1,hn]
   wp_walk using bK h1,bK h2
   show R (.ok (.ret (.bool (decide (p.size<q.size))))) _
   rw[bo (by omega)];exact h
section
variable {prog:Program}{w:World}{A:Around}{E:Value->Shared->Prop}{s:Shared}
open PySem.SeqAt AutoSeq1 MeetsSeq MeetsSeq2 MeetsSeq3 in
theorem vZ {a b:Addr}{p q:Array Value}{n1 n2:Nat}{d1 d2:Option Addr}{l1 l2:Array (Option Value)}{xs ys:List Int}(vx:Vals (xs.map V.int) p.toList)(vy:Vals (ys.map V.int) q.toList):
  Meets (Builtin.«list.__lt__» ⟨[.ref a,.ref b],[]⟩) (λA R s=>s.heap.get? a=some {cls:=.type "list",dict:=d1,data:=.seq p n1,slots:=l1} /\s.heap.get? b=some {cls:=.type "list",dict:=d2,data:=.seq q n2,slots:=l2} /\R (.ok (.ret (.bool (gZ xs ys)))) s):=by
 intro prog w A R s h
 obtain⟨hp,g,d,tk,os⟩:=s
 obtain⟨h1,h2,h⟩:=h
 have f3:=AutoSeq1.sub_list_list
 wp_walk using bK h1,bK h2
 exact⟨plainId_quiet plain_eq_loop _,codeAny_builtin entry_eq_loop (by
  rw[Around.under_plainId plain_eq_loop _]
  exact AY a b p q n1 n2 d1 d2 l1 l2 xs ys vx vy _ 0 rfl (aM _) (aM _) prog w A R _ ⟨h1,h2,h⟩)⟩
end
theorem oC {X:Cx}{K:PySem.W.Frag}(eK:X.K=K):jh X (.builtin "sorted") (λxs H Q=>∃ a ns,xs = [.ref a]/\SqL K H a (ns.map V.int)/\ns.length<1000/\∀ p,H p=none->Q (.ref p) (upd H p (.lst ((srt ns).map V.int)))):=by
 subst eK
 intro pins s σ H xs us Q I r h
 obtain⟨a,ns,e,hx,_,q⟩:=h
 exact t7 pins s σ H xs us Q I r ⟨a,ns,e,hx,q⟩
theorem lV:∀ xs:List Int,gZ xs xs=false
 |[]=>rfl
 |x::xs=>by show(if x=x then gZ xs xs else decide (x<x))=false;rw[aH rfl];exact lV xs
theorem qH:∀ xs ys:List Int,gZ xs ys=false->gZ ys xs=false->xs=ys
 |[],[],_,_=>rfl
 |[],_::_,h,_=>by cases h
 |_::_,[],_,h=>by cases h
 |x::xs,y::ys,h,k=>by
  have h:(if x=y then gZ xs ys else decide (x<y))=false:=h
  have k:(if y=x then gZ ys xs else decide (y<x))=false:=k
  by_cases e:x=y
  ·rw[aH e]at h
   rw[aH e.symm]at k
   rw[e,qH xs ys h k]
  ·rw[ax e]at h
   rw[ax (λz=>e z.symm)]at k
   have h:=of_decide_eq_false h
   have k:=of_decide_eq_false k
   omega
theorem lz:∀ xs ys zs:List Int,gZ xs ys=true->gZ ys zs=true->gZ xs zs=true
 |[],_,[],_,h=>by rename_i ys _;cases ys<;>cases h
 |[],_,_::_,_,_=>rfl
 |_::_,[],_,h,_=>by cases h
 |_::_,_::_,[],_,h=>by cases h
 |x::xs,y::ys,z::zs,h,k=>by
  have h:(if x=y then gZ xs ys else decide (x<y))=true:=h
  have k:(if y=z then gZ ys zs else decide (y<z))=true:=k
  show(if x=z then gZ xs zs else decide (x<z))=true
  by_cases e:x=y
  ·rw[aH e]at h
   by_cases f:y=z
   ·rw[aH f]at k
    rw[aH (e.trans f)]
    exact lz xs ys zs h k
   ·rw[ax f]at k
    have k:=bT k
    rw[ax (by omega)]
    exact bC (by omega)
  ·rw[ax e]at h
   have h:=bT h
   by_cases f:y=z
   ·rw[ax (by omega)]
    exact bC (by omega)
   ·rw[ax f]at k
    have k:=bT k
    rw[ax (by omega)]
    exact bC (by omega)
def rV (tss:List (List Int))(t:List Int):Int:=((tss.filter λu=>gZ u t).length:Int)
theorem nv {α:Type}{p q:α->Bool} :∀ {l:List α},(∀ y∈l,p y=true->q y=true)->(l.filter p).length<=(l.filter q).length
 |[],_=>aq _
 |z::l,h=>by
  have ih:=nv (l:=l) λa ha=>h a (aE _ ha)
  have hz:=h z aC
  rw[bW,bW]
  cases pz:p z with
  |true=>rw[hz pz];simpa using ih
  |false=>cases q z<;>simp<;>omega
theorem kC {α:Type}{p q:α->Bool} :∀ {l:List α}{x:α},(∀ y∈l,p y=true->q y=true)->x∈l->p x=false->q x=true->(l.filter p).length<(l.filter q).length
 |[],x,_,hx,_,_=>by cases hx
 |y::l,x,h,hx,px,qx=>by
  have hl:∀ z∈l,p z=true->q z=true:=λz hz=>h z (aE _ hz)
  have le:(l.filter p).length<=(l.filter q).length:=nv hl
  rw[bW,bW]
  rcases aO.mp hx with rfl |hx
  ·rw[px,qx];simp;omega
  ·have ih:=kC hl hx px qx
   cases py:p y with
   |true=>rw[h y aC py];simpa using ih
   |false=>cases q y<;>simp<;>omega
theorem wR {tss:List (List Int)}{x y:List Int}(hx:x∈tss)(hy:y∈tss):decide (rV tss x<rV tss y)=gZ x y:=by
 cases h:gZ x y with
 |true=>
  refine bC ?_
  have:=kC (p:=λu=>gZ u x) (q:=λu=>gZ u y) (l:=tss) (λu _ hu=>lz u x y hu h) hx (lV x) h
  unfold rV
  omega
 |false=>
  refine bo ?_
  cases k:gZ y x with
  |true=>
   have:=kC (p:=λu=>gZ u y) (q:=λu=>gZ u x) (l:=tss) (λu _ hu=>lz u y x hu k) hy (lV y) k
   unfold rV
   omega
  |false=>rw[qH x y h k];omega
theorem xY {α β:Type}{f:α->β}{l m:List β}(h:l.Perm m):∀ Z:List α,Z.map f=m->∃ Z':List α,Z'.Perm Z/\Z'.map f=l:=by
 induction h with
 |nil=>intro Z hZ;exact⟨Z,List.Perm.refl _,hZ⟩
 |@cons x l1 l2 _ ih=>
  intro Z hZ
  cases Z with
  |nil=>cases hZ
  |cons z Z=>
   rw[aS,List.cons.injEq]at hZ
   obtain⟨Z',p,e⟩:=ih Z hZ.2
   exact⟨z::Z',p.cons z,by rw[aS,e,hZ.1]⟩
 |@swap x y l1=>
  intro Z hZ
  match Z,hZ with
  |a::b::Z,hZ=>
   simp only[aS,List.cons.injEq]at hZ
   exact⟨b::a::Z,List.Perm.swap _ _ _,by rw[aS,aS,hZ.1,hZ.2.1,hZ.2.2]⟩
 |trans _ _ ih1 ih2=>
  intro Z hZ
  obtain⟨Z1,p1,e1⟩:=ih2 Z hZ
  obtain⟨Z2,p2,e2⟩:=ih1 Z1 e1
  exact⟨Z2,p2.trans p1,e2⟩
theorem qi {h:Heap} :∀ {t:List Int}{vs:List Value}{as:List Addr},ReadsAll h vs (t.map PyData.int) as->Vals (t.map V.int) vs
 |[],vs,as,r=>by cases r;exact .nil
 |x::t,vs,as,r=>by
  cases r with
  |cons r1 r2=>cases r1;exact .cons ⟨_,rfl⟩ (qi r2)
theorem CO {h:Heap}{v:Value}{t:List Int}{as:List Addr}(r:Reads h v (dI t) as):ILs h v t:=by
 unfold dI at r
 cases r with
 |@list a o vs n xs as ho hc hd rs=>
  obtain⟨cls,dict,data,slots⟩:=o
  dsimp only at hc hd
  subst hc
  subst hd
  exact⟨a,vs,n,dict,slots,rfl,ho,qi rs⟩
theorem ILs.one {h:Heap}{v:Value}{t t':List Int}(a:ILs h v t)(b:ILs h v t'):t=t':=by
 obtain⟨p,its,n,dd,sl,rfl,ho,va⟩:=a
 obtain⟨p',its',n',dd',sl',e,ho',vb⟩:=b
 cases e
 rw[ho]at ho'
 cases ho'
 rw[<-(ints_of va).2,<-(ints_of vb).2]
theorem ILs.keep {h h':Heap}(k:∀ b o,h.get? b=some o->h'.get? b=some o){v:Value}{t:List Int}(a:ILs h v t):ILs h' v t:=by
 obtain⟨p,its,n,dd,sl,rfl,ho,va⟩:=a
 exact⟨p,its,n,dd,sl,rfl,k _ _ ho,va⟩
section
variable {prog:Program}{w:World}{A:Around}{E:Value->Shared->Prop}{s:Shared}
theorem vR {x y:Value}{xs ys:List Int}{Q:Bool->Shared->Prop}(hu:A.units<cLine)(hx:ILs s.heap x xs)(hy:ILs s.heap y ys)(h:Q (gZ xs ys) s):wpAny (model prog w) A (oneLt' true x y) Q E s:=by
 obtain⟨a,p,n,d1,l1,rfl,ho,vx⟩:=hx
 obtain⟨b,q,m,d2,l2,rfl,ho2,vy⟩:=hy
 rw[oneLt'_eq]
 simp only[if_true]
 refine ak (wpAny_cRoomFor hu ?_)
 refine ak (wpAny_callSpecialIfBound?_slot ⟨_,ho,rfl⟩ F.slot_list_lt (d8 F.slot_list_lt ⟨_,ho,rfl⟩ F.entry_list_lt (F.args_list_lt_2 _ _) (vZ vx vy) ⟨ho,ho2,?_⟩))
 exact cX h
noncomputable def qR (Z:List (Value×List Int)) (v:Value):List Int:=open Classical in if h:∃ t,(v,t)∈Z then h.choose else[]
theorem oX {Z:List (Value×List Int)}{v:Value}{t:List Int}(h:(v,t)∈Z):(v,qR Z v)∈Z:=by
 have hx:∃ t,(v,t)∈Z:=⟨t,h⟩
 unfold qR
 rw[dif_pos hx]
 exact hx.choose_spec
theorem yv {Z:List (Value×List Int)}(hu:A.units<cLine)(hz:∀ z∈Z,ILs s.heap z.1 z.2)(h2:2<=(Z.map (·.1)).length):By prog w A s (Z.map (·.1)) (λv=>rV (Z.map (·.2)) (qR Z v)):=by
 refine⟨oneType',λE Q hq=>?_,λx y hx hy Q hq=>?_⟩
 ·refine kas_kind (T:=Value.type "list") h2 (λv hv=>?_) (by decide +kernel) (by decide +kernel) hq
  obtain⟨z,hz',rfl⟩:=az.mp hv
  obtain⟨a,p,n,d1,l1,e,ho,_⟩:=hz z hz'
  rw[e]
  exact(Looks.ld ho).andThen .now
 ·obtain⟨z1,h1,e1⟩:=az.mp hx
  obtain⟨z2,h3,e2⟩:=az.mp hy
  have m1:(x.1,qR Z x.1)∈Z:=oX (t:=z1.2) (by rw[<-e1];exact h1)
  have m2:(y.1,qR Z y.1)∈Z:=oX (t:=z2.2) (by rw[<-e2];exact h3)
  rw[wR (az.mpr ⟨_,m1,rfl⟩) (az.mpr ⟨_,m2,rfl⟩)]at hq
  rw[keyLt'_oneType]
  exact vR hu (hz _ m1) (hz _ m2) hq
end
theorem uo {vs:List V}{its:List Value} :Vals vs its->∀ {ts:List (List Int)},ts.length=vs.length->∀ z∈(vs.zip ts).zip its,RelV z.1.1 z.2
 |.nil,ts,_,z,hz=>by simp at hz
 |.cons r1 r2,[],h,z,hz=>by simp at h
 |.cons r1 r2,t::ts,h,z,hz=>by
  rw[eA,eA]at hz
  rcases aO.mp hz with rfl |q
  ·exact r1
  ·exact uo r2 (by simpa using h) z q
section
variable {X:Cx}
def Cg (K:PySem.W.Frag):List V->Hp->VK->Prop:=λxs H Q=>∃ (p:Addr) (vs:List V) (ts:List (List Int)),xs = [.ref p]/\SqL K H p vs/\Das K H (ts.map dI) vs/\
 ∀ (q:Addr) (Z:List (V×List Int)),H q=none->Z.Perm (vs.zip ts)->(Z.map (·.2)).Pairwise (λa b=>gZ b a=false)->Q (.ref q) (upd H q (.lst (Z.map (·.1))))
theorem nM (hu:X.A.units+64<cLine):jh X (.builtin "sorted") (Cg X.K):=by
 intro pins s σ H xs us Q I r h
 obtain⟨a,vs,ts,rfl,hx,hd,q⟩:=h
 obtain⟨u,rfl,ru⟩:=vals1 r
 cases ru
 obtain⟨its,rv,p,hz⟩:=I.list hx
 have hlen:=rv.length
 obtain⟨as,rds⟩:=Das.reads I hd rv
 have il:its.length=ts.length:=by rw[rT rds,aa]
 have zi:(its.zip ts).map (·.1)=its:=List.map_fst_zip (by omega)
 have zt:(its.zip ts).map (·.2)=ts:=List.map_snd_zip (by omega)
 have hI:∀ z∈its.zip ts,ILs s.heap z.1 z.2:=λz hz'=>by
  obtain⟨i,hi,e⟩:=bt.mp hz'
  rw[bI]at hi
  rw[cT]at e
  obtain⟨as',rd⟩:=uF rds (i:=i) (v:=z.1) (d:=dI z.2) (by rw[<-e];exact ae (by omega)) (by rw[<-e,aj,ae (by omega)];rfl)
  exact CO rd
 refine p8 (kv:=λv=>rV ((its.zip ts).map (·.2)) (qR (its.zip ts) v)) p.isList (by omega) (λh2 h' keep=>?_) λws pm sp=>?_
 ·have:=yv (prog:=X.prog) (w:=X.w) (A:=X.A.in1.in1) (s:={s with heap:=h'}) (Z:=its.zip ts) (by simp only[Around.in1_units];omega) (λz hz'=>(hI z hz').keep keep) (by rw[zi];exact h2)
  rw[zi]at this
  exact this
 ·obtain⟨Z',zp,ze⟩:=xY (f:=λz:(V×List Int)×Value=>z.2) pm ((vs.zip ts).zip its) (List.map_snd_zip (by rw[bI];omega))
  obtain⟨e,he⟩:=sortedAll_at s.heap its ws.toArray
  have rel:=uo rv (ts:=ts) (by omega)
  have cont:∀ z∈Z',qR (its.zip ts) z.2=z.1.2:=λz hz'=>by
   obtain⟨i,hi,e⟩:=bt.mp (zp.mem_iff.mp hz')
   rw[bI,bI]at hi
   rw[cT,cT]at e
   have m:(z.2,z.1.2)∈its.zip ts:=by
    rw[<-e]
    exact bt.mpr ⟨i,by rw[bI];omega,by rw[cT]⟩
   exact(hI _ (oX m)).one (hI _ m)
  have vo:Vals ((Z'.map (·.1)).map (·.1)) ws:=by
   rw[<-ze,bP]
   have:∀ L:List ((V×List Int)×Value),(∀ z∈L,RelV z.1.1 z.2)->Vals (L.map λz=>z.1.1) (L.map λz=>z.2):=by
    intro L
    induction L with
    |nil=>intro _;exact .nil
    |cons z L ih=>intro hL;exact .cons (hL z aC) (ih λy hy=>hL y (aE _ hy))
   exact this Z' λz hz'=>rel z (zp.mem_iff.mp hz')
  refine⟨.ref (s.heap.objs.size+1),_,I.laid (t':=s.toks) (o:=.lst ((Z'.map (·.1)).map (·.1))) (λb ob q=>sortedAll_old q) (eI _) ⟨?_,ws,e,vo,?_⟩,rfl,q _ (Z'.map (·.1)) (I.hok.fresh (eI _)) ?_ ?_⟩
  ·rw[aa,aa,zp.length_eq,bI,bI];omega
  ·rw[he]
  ·have:=zp.map (·.1)
   rw[List.map_fst_zip (by rw[bI];omega)]at this
   exact this
  ·rw[<-ze,bU]at sp
   rw[bP,bU]
   refine cB (λ{x y} hx' hy' hxy=>?_) sp
   rw[cont x hx',cont y hy']at hxy
   show gZ y.1.2 x.1.2=false
   have m1:x.1.2∈(its.zip ts).map (·.2):=by rw[zt];exact(cI (cI (zp.mem_iff.mp hx')).1).2
   have m2:y.1.2∈(its.zip ts).map (·.2):=by rw[zt];exact(cI (cI (zp.mem_iff.mp hy')).1).2
   rw[<-wR m2 m1]
   exact bo (by omega)
end
end TL
namespace TL
open PySem PySem.Spec PyProof.Rows L2
section
variable {X:Cx}{K:PySem.W.Frag}
end
open PySem.W
theorem pF:isSubtype (.type "range_iterator") (.type "reversed")=pure false:=by rw[isSubtype_type];kernel_rfl
theorem rO {j:Int}(h:0<=j):Builtin.Range.rangeSize 0 j 1=j:=by
 unfold Builtin.Range.rangeSize
 rw[aH (by decide)]
 split<;>omega
section
variable {prog:Program}{w:World}{A:Around}{E:Value->Shared->Prop}{s:Shared}
theorem xP {p:Addr}{j:Int}{t1 t2 t3:Tok}{Q:Value->Shared->Prop}(ho:s.heap.get? p=some {cls:=.type "range",data:=.fields #[.int 0 t1,.int j t2,.int 1 t3]})(j0:0<=j)(j1:j<=1000)
  (h:Q (.ref s.heap.objs.size) {s with heap:=s.heap.push {cls:=.type "range_iterator",data:=.fields #[rawInt (j-1),rawInt j,rawInt (-1)]}}):wpAny (model prog w) A (call (.builtin "range.__reversed__") [.ref p]) Q E s:=by
 refine di ef ⟨_,ho,rfl⟩ PySem.F.entry_range_reversed ?_ (PySem.F.args_range_reversed_1 _)
 unfold Builtin.«range.__reversed__»
 refine ak (en (a:=Value.ref p) rfl ?_)
 unfold Builtin.Range.rangeFields
 have e0:(0:Int)+(Builtin.Range.rangeSize 0 j 1-1)*1=j-1:=by rw[rO j0];omega
 have e1:Builtin.Range.rangeSize 0 j 1=j:=rO j0
 have e2:(Builtin.Range.rangeFitsLong 0&&Builtin.Range.rangeFitsLong j&&Builtin.Range.rangeFitsLong 1&&Builtin.Range.rangeFitsLong (-1)&&Builtin.Range.rangeFitsLong (0-1)&&Builtin.Range.rangeFitsLong (Builtin.Range.rangeSize 0 j 1))=true:=by
  rw[e1]
  simp only[Builtin.Range.rangeFitsLong,dN,eG]
  omega
 refine ak ?_
 refine ak (wpAny_field ho rfl (x:=.int 0 t1) rfl ?_)
 refine ak (m:=asInt? (.int 0 t1)) (aD ?_)
 refine ak (wpAny_field ho rfl (x:=.int j t2) rfl ?_)
 refine ak (m:=asInt? (.int j t2)) (aD ?_)
 refine ak (wpAny_field ho rfl (x:=.int 1 t3) rfl ?_)
 refine ak (m:=asInt? (.int 1 t3)) (aD ?_)
 refine aD ?_
 dsimp only
 rw[e2,e0,e1]
 simp only[Bool.not_true,ck,dc,if_true]
 exact ak (dO (aD ⟨_,rfl,h⟩))
theorem rq {p:Addr}{j:Int}{t1 t2 t3:Tok}{Q:Value->Shared->Prop}(ho:s.heap.get? p=some {cls:=.type "range",data:=.fields #[.int 0 t1,.int j t2,.int 1 t3]})(j0:0<=j)(j1:j<=1000)
  (h:Q (.ref s.heap.objs.size) {s with heap:=s.heap.push {cls:=.type "range_iterator",data:=.fields #[rawInt (j-1),rawInt j,rawInt (-1)]}}):
  codeAny (model prog w) A (.call (.builtin "reversed.__new__") ⟨[.type "reversed",.ref p],[]⟩) (wants Q E) s:=by
 have hT:s.TypeIs (.ref p) "range" :=⟨_,ho,rfl⟩
 refine codeAny_of_tree ?_
 show wpAny _ A.in1 (checkBuiltinCall "reversed.__new__" ⟨[.type "reversed",.ref p],[]⟩ >>= λ_=>again (.builtin "reversed.__new__" ⟨[.type "reversed",.ref p],[]⟩)) _ _ s
 refine ak (en (PySem.F.newCall_reversed_1 _) (aD ⟨plainId_quiet PySem.F.plain_reversed_new _,codeAny_builtin PySem.F.entry_reversed_new ?_⟩))
 rw[Around.under_plainId PySem.F.plain_reversed_new _]
 unfold Builtin.«reversed.__new__»
 refine ak (en (newClass_reversed _) ?_)
 dsimp only
 refine ak (en (a:=()) (by first |rfl |kernel_rfl) ?_)
 refine ak (en (a:=()) (by first |rfl |kernel_rfl) ?_)
 try dsimp only
 refine ak (wpAny_specialOf hT ef.lookup ?_)
 try dsimp only
 refine ak (en (ef.bind _) ?_)
 try dsimp only
 have hn:¬((Value.builtin "range.__reversed__" == Value.none)=true):=aW
 first
 |rw[ax hn]
 |(show wpAny _ _ (if(Value.builtin "range.__reversed__" == Value.none)=true then _ else _) _ _ _;rw[ax hn])
 refine ak (eO ?_)
 refine ak (m:=runValue (.call (.builtin "range.__reversed__") ⟨[.ref p],[]⟩)) (show wpAny _ _ (call (.builtin "range.__reversed__") [.ref p]) _ _ _ from xP ho j0 j1 ?_)
 first
 |exact aD h
 |exact ak (aD (aD h))
theorem qY {p:Addr}{j:Int}{t1 t2 t3:Tok}{Q:Value->Shared->Prop}(ho:s.heap.get? p=some {cls:=.type "range",data:=.fields #[.int 0 t1,.int j t2,.int 1 t3]})(j0:0<=j)(j1:j<=1000)
  (h:Q (.ref s.heap.objs.size) {s with heap:=s.heap.push {cls:=.type "range_iterator",data:=.fields #[rawInt (j-1),rawInt j,rawInt (-1)]}}):wpAny (model prog w) A (call (.type "reversed") [.ref p]) Q E s:=by
 refine callType_other (U:= "range_iterator") (Q₁:=λobj s₁=>obj = .ref s.heap.objs.size/\s₁ = {s with heap:=s.heap.push {cls:=.type "range_iterator",data:=.fields #[rawInt (j-1),rawInt j,rawInt (-1)]}}) (by decide +kernel) PySem.F.create_reversed ⟨_,_,PySem.F.mro_reversed⟩ PySem.F.made_reversed pF (PySem.F.typeCall_reversed_1 _) (rq ho j0 j1 ⟨rfl,rfl⟩) ?_
 rintro obj s₁ ⟨rfl,rfl⟩
 exact⟨⟨_,aY _ rfl,rfl⟩,h⟩
end
section
variable {X:Cx}{tg:Expr}
def EA (ta:TA):TI:=λσ H R=>ta σ H λvs H1=>∃ (p:Addr) (j:Int),vs = [.ref p]/\H1 p=some (.rng 0 j)/\0<=j/\j<=1000/\R (ItD (j-1) j.toNat) H1
theorem AQ {a:Expr}{ta:TA}{p pos:Pos}(hc:X.calm=true)(hg:Gl X "reversed")(hm:X.mg "reversed" = none)(ha:PA X [a] ta)(hs:starEach [a] X.env = [(false,eval a X.env)]:=by rfl):PI X tg (.Call (.Name "reversed" p) [a] [] pos) (EA ta):=by
 intro pins s σ H R I h
 refine Call_ (lX I hg hm boot_reversed (bX (thn (ha pos pins s σ H _ I h) λus s1 ⟨vs,H1,I1,r1,q1⟩=>?_) hs rfl))
 obtain⟨a,j,e,hq,j0,j1,q⟩:=q1
 subst e
 obtain⟨u,rfl,ru⟩:=vals1 r1
 cases ru
 obtain⟨t1,t2,t3,ho⟩:=I1.hok a _ hq
 refine qY ho j0 j1 ?_
 have hit:IsRangeIter (s1.heap.push {cls:=.type "range_iterator",data:=.fields #[rawInt (j-1),rawInt j,rawInt (-1)]}) s1.heap.objs.size ((j-1)+((0:Nat):Int) * -1) (((j.toNat:Nat):Int)-((0:Nat):Int)) (-1):=by
  have e1:(j-1)+((0:Nat):Int) * -1=j-1:=by simp
  have e2:((j.toNat:Nat):Int)-((0:Nat):Int)=j:=by omega
  rw[e1,e2]
  exact aY _ rfl
 refine wpAny_pyIter_rangeiter (s:={s1 with heap:=s1.heap.push {cls:=.type "range_iterator",data:=.fields #[rawInt (j-1),rawInt j,rawInt (-1)]}}) hit ?_
 refine⟨s1.heap.objs.size,[s1.heap.objs.size],_,_,H1,rfl,I1.kept (t':=s1.toks) (λb o e=>aJ _ e),uq _ (j-1) j.toNat,hit,λb hb=>?_,q⟩
 have e:b=s1.heap.objs.size:=by simpa using hb
 subst e
 exact I1.yn (aq _) (I1.hok.fresh (aq _))
end
end TL
namespace TL
open PySem PySem.Spec PyProof.Rows L2 TS
def Pw {α:Type}(R:α->V->Prop):List α->List V->Prop
 |[],[]=>True
 |d::ds,v::vs=>R d v/\Pw R ds vs
 |_,_=>False
theorem Pw.len {α:Type}{R:α->V->Prop} :∀ {ds:List α}{vs:List V},Pw R ds vs->vs.length=ds.length
 |[],[],_=>rfl
 |d::ds,v::vs,h=>by rw[aX,aX,Pw.len h.2]
theorem Pw.imp {α:Type}{R S:α->V->Prop}(f:∀ d v,R d v->S d v):∀ {ds:List α}{vs:List V},Pw R ds vs->Pw S ds vs
 |[],[],_=>trivial
 |d::ds,v::vs,h=>⟨f _ _ h.1,Pw.imp f h.2⟩
theorem Pw.app {α:Type}{R:α->V->Prop} :∀ {ds es:List α}{vs us:List V},Pw R ds vs->Pw R es us->Pw R (ds++es) (vs++us)
 |[],_,[],_,_,h=>h
 |d::ds,_,v::vs,_,h,h2=>⟨h.1,Pw.app h.2 h2⟩
theorem Pw.one {α:Type}{R:α->V->Prop}{d:α}{v:V}(h:R d v):Pw R [d] [v]:=⟨h,trivial⟩
section
variable {K:PySem.W.Frag}{l:Addr}{g:TG}{tt:TT}{te:TE}{cap:List (Option Nat)}{σ:St}{Q:VK}{H1:Hp}{J:It}
theorem xf {α:Type}(n:Nat)(ds:List α)(Φ:Hp->α->V->Prop)(mono:∀ {H H':Hp} d v,fg H H'->Φ H d v->Φ H' d v)(hn:H1 l=none)(hlen:n=ds.length)(hz:n<sizeLine)(go:∀ i H,fg H1 H->i<n->J.go i H)(st:∀ H,fg H1 H->J.stop n H)
  (hs:∀ i x d H H',fg H1 H->(∃ us,H l=some (.lst us))->J.yld i H x H'->ds[i]? = some d->∀ (P1:VK) (P0:Hp->Prop),(∀ v H2,fg H H2->Φ (hid l H2) d v->P1 v H2)->
   g x (jK cap σ) H' λσ2 H2=>tt σ2 H2 λb H3=>if b=true then te σ2 H3 P1 else P0 H3)
  (hq:∀ vs H',fg H1 H'->H' l=some (.lst vs)->Pw (Φ (hid l H')) ds vs->Q (.ref l) H'):LcW J g tt te cap σ Q l H1:=by
 refine tP n (λi acc H=>Pw (Φ (hid l H)) (ds.take i) acc/\fg H1 H/\H l=some (.lst acc)) ⟨trivial,eV hn,eW⟩ (λi acc H hi ⟨_,s,_⟩=>go i H s hi) (λacc H ⟨_,s,_⟩=>st H s) ?_ ?_
 ·rintro i x acc H H' hi ⟨e1,s,hl⟩ y
  have hd:ds[i]? = some (ds[i]'(by omega)):=by simp
  generalize ds[i]'(by omega)=d at hd
  refine hs i x d H H' s ⟨_,hl⟩ y hd _ _ (λv H2 s2 dv=>?_)
  have la:=Pw.len e1
  rw[bB]at la
  refine⟨s2 _ _ hl,by omega,?_,fg.upd (s.trans s2) hn,eW⟩
  rw[pR,bD,hd]
  exact Pw.app (Pw.imp (λd v=>mono d v (iK s2)) e1) (Pw.one dv)
 ·rintro acc H ⟨e1,s,hl⟩
  rw[bq (by omega)]at e1
  exact hq acc H s hl e1
end
theorem xJ {l:Ln}{ns:List Int}(ok:fz l)(T:h9 l ns):h9 l (ns.reverse.map oth):=by
 refine⟨λe he=>?_,?_,λi x y hx hy=>?_⟩
 ·obtain⟨z,hz,rfl⟩:=az.mp he
  have:=T.ends z (cD.mp hz)
  unfold oth;omega
 ·rw[bP,show((λx:Int=>x/2) ∘ oth)=(λx:Int=>x/2) from funext λe=>by show oth e/2=e/2;unfold oth;omega,cR]
  exact(List.reverse_perm _).nodup_iff.mpr T.nd
 ·rw[aj]at hx hy
  have hi:i+1<ns.length:=by
   by_cases z:i+1<ns.length
   ·exact z
   ·rw[bV (by rw[bg];omega)]at hy;cases hy
  rw[dE (by omega)]at hx
  rw[dE (by omega)]at hy
  cases q1:ns[ns.length-1-i]? with
  |none=>rw[q1]at hx;cases hx
  |some a=>
   cases q2:ns[ns.length-1-(i+1)]? with
   |none=>rw[q2]at hy;cases hy
   |some b=>
    rw[q1]at hx;rw[q2]at hy
    cases hx;cases hy
    have:=T.ch (ns.length-1-(i+1)) b a q2 (by rw[show ns.length-1-(i+1)+1=ns.length-1-i by omega];exact q1)
    rw[mU]
    exact oq ok this
end TL
namespace TL
open PySem PySem.Spec PyProof.Rows L2
def gr (l:Ln)(t:List Int):List (List Int):=(fr l t (oth (t.getLastD 0))).map λe=>t ++ [e]
def exF (l:Ln):Nat->List Int->List (List Int)
 | 0,t=>[t]
 |d+1,t=>(gr l t).flatMap (exF l d)
def lT (m:Int):List (List Int):=(jM 0 (2*m).toNat).map λe=>[e]
def fD (l:Ln):Nat->List (List Int)
 | 0=>lT l.1
 |k+1=>(fD l k).flatMap (gr l)
theorem qQ {α:Type} :∀ l:List α,(l.flatMap λt=>[t])=l
 |[]=>rfl
 |x::l=>by rw[cz,qQ l];rfl
theorem vh (l:Ln):∀ (d:Nat) (t:List Int),exF l (d+1) t=(exF l d t).flatMap (gr l)
 | 0,t=>by
  show(gr l t).flatMap (exF l 0) = [t].flatMap (gr l)
  rw[List.flatMap_singleton]
  have:(exF l 0) = λt=>[t]:=rfl
  rw[this,qQ]
 |d+1,t=>by
  show(gr l t).flatMap (exF l (d+1))=((gr l t).flatMap (exF l d)).flatMap (gr l)
  rw[List.flatMap_assoc]
  congr 1
  funext u
  exact vh l d u
theorem Af (l:Ln):∀ k,fD l k=(lT l.1).flatMap (exF l k)
 | 0=>by
  show lT l.1=(lT l.1).flatMap λt=>[t]
  rw[qQ]
 |k+1=>by
  show(fD l k).flatMap (gr l)=_
  rw[Af l k,List.flatMap_assoc]
  congr 1
  funext t
  exact(vh l k t).symm
theorem zW {l:Ln}(ok:fz l)(t:List Int):(gr l t).length<=160:=by unfold gr;rw[aa];exact qO ok _ _
theorem oU {l:Ln}{t u:List Int}(h:u∈gr l t):∃ e∈fr l t (oth (t.getLastD 0)),u=t ++ [e]:=by
 obtain⟨e,he,rfl⟩:=az.mp h
 exact⟨e,he,rfl⟩
theorem md {l:Ln}(ok:fz l):∀ k,∀ t∈fD l k,h9 l t/\t.length=k+1
 | 0,t,h=>by
  obtain⟨e,he,rfl⟩:=az.mp h
  have he:=uE.mp he
  have:=ok.one
  refine⟨⟨λx hx=>?_,by simp,λi x y _ hy=>by simp at hy⟩,rfl⟩
  rw[aV.mp hx];omega
 |k+1,t,h=>by
  obtain⟨u,hu,ht⟩:=List.mem_flatMap.mp h
  obtain⟨T,hl⟩:=md ok k u hu
  obtain⟨e,he,rfl⟩:=oU ht
  refine⟨T.snoc ok (λz=>by rw[z]at hl;cases hl) he,by rw[ah,hl];rfl⟩
theorem Ew {l:Ln}(G:gW l)(e:Int):(jn l.2 e).Pairwise (· < ·):=by
 have h1:(jn l.2 e).Pairwise (· <= ·):=p6 _
 have nd:(below l.2 e++above l.2 e).Nodup:=by
  have n1:(below l.2 e).Nodup:=by
   unfold below
   rw[List.Nodup,bU]
   refine cB (λ{p q} hp hq h=>λz=>h (Prod.ext z ?_)) (List.Pairwise.filter _ G.nd)
   have a:=bT (ba.mp hp).2
   have b:=bT (ba.mp hq).2
   rw[a,b]
  have n2:(above l.2 e).Nodup:=by
   unfold above
   rw[List.Nodup,bU]
   refine cB (λ{p q} hp hq h=>λz=>h (Prod.ext ?_ z)) (List.Pairwise.filter _ G.nd)
   have a:=bT (ba.mp hp).2
   have b:=bT (ba.mp hq).2
   rw[a,b]
  refine cb.mpr ⟨n1,n2,λx hx y hy z=>?_⟩
  obtain⟨p,hp,rfl⟩:=az.mp hx
  obtain⟨q,hq,rfl⟩:=az.mp hy
  have a:=bT (ba.mp hp).2
  have b:=bT (ba.mp hq).2
  have g1:=(G.ok p (ba.mp hp).1).lt
  have g2:=(G.ok q (ba.mp hq).1).lt
  omega
 have nd2:(jn l.2 e).Nodup:=(lM _).nodup_iff.mpr nd
 exact cA (λ{a b} h=>by omega) (h1.and nd2)
theorem se:∀ {a b:List Int}{x y:Int},a.length=b.length->gZ a b=true->gZ (a ++ [x]) (b ++ [y])=true
 |[],[],_,_,_,h=>by cases h
 |p::a,q::b,x,y,hl,h=>by
  have h:(if p=q then gZ a b else decide (p<q))=true:=h
  show(if p=q then gZ (a ++ [x]) (b ++ [y])else decide (p<q))=true
  by_cases e:p=q
  ·rw[aH e]at h ⊢
   exact se (by simpa using hl) h
  ·rw[ax e]at h ⊢
   exact h
theorem oP:∀ (a:List Int) {x y:Int},x<y->gZ (a ++ [x]) (a ++ [y])=true
 |[],x,y,h=>by
  show(if x=y then gZ [] []else decide (x<y))=true
  rw[ax (by omega)];exact bC h
 |p::a,x,y,h=>by
  show(if p=p then gZ (a ++ [x]) (a ++ [y])else decide (p<p))=true
  rw[aH rfl];exact oP a h
theorem tZ {l:Ln}(G:gW l):∀ k,(fD l k).Pairwise (λa b=>gZ a b=true)
 | 0=>by
  unfold fD lT
  rw[bU]
  refine cA (λ{a b} h=>?_) (AH 0 _)
  exact oP [] h
 |k+1=>by
  show((fD l k).flatMap (gr l)).Pairwise _
  have ok:=G.jF
  rw[List.pairwise_flatMap]
  refine⟨λt _=>?_,?_⟩
  ·unfold gr
   rw[bU]
   exact cA (λ{a b} h=>oP t h) (List.Pairwise.filter _ (Ew G _))
  ·refine cB (λ{a b} ha hb h=>?_) (tZ G k)
   intro x hx y hy
   obtain⟨e,_,rfl⟩:=oU hx
   obtain⟨f,_,rfl⟩:=oU hy
   exact se ((md ok k a ha).2.trans (md ok k b hb).2.symm) h
theorem Ae {l:Ln}(G:gW l)(k:Nat):(fD l k).Nodup:=cA (λ{a b} h=>λz=>by rw[z,lV]at h;cases h) (tZ G k)
theorem sC {l:Ln}(G:gW l):∀ n,(nh l n).length<=48 ^ ((n+1)/2)
 | 0=>by simp[nh]
 | 1=>by
  simp only[nh,wu,aa,List.length_range]
  have:=G.most
  omega
 |n+2=>by
  have ih:=sC G n
  simp only[nh]
  rw[List.length_flatMap]
  have e1:(q9 l).map (λa=>((nh l n).map λr=>a.1::a.2::r).length)=(q9 l).map λ_=>(nh l n).length:=by
   refine List.map_congr_left λa _=>by rw[aa]
  rw[e1,List.map_const',List.sum_replicate_nat]
  have h1:(q9 l).length<=48:=by
   unfold q9
   rw[ah,aa,aa]
   have:=G.len
   omega
  rw[show(n+2+1)/2=(n+1)/2+1 by omega,Nat.pow_succ,Nat.mul_comm (48 ^ _)]
  exact Nat.mul_le_mul h1 ih
theorem Bg {l:Ln}(G:gW l){k:Nat}(hk:k<=6):(fD l k).length<=5308416:=by
 have h1:=lA (Ae G k) (l2:=nh l (k+1)) λt ht=>qV G.jF (k+1) t (md G.jF k t ht).2 (md G.jF k t ht).1.ends (md G.jF k t ht).1.ch
 have h2:=sC G (k+1)
 have h3:48 ^ ((k+1+1)/2)<=48 ^ 4:=Nat.pow_le_pow_right (by decide) (by omega)
 have h4:48 ^ 4=5308416:=by decide
 omega
theorem vg {α β:Type}(f:α->List β):∀ {l:List α}{i:Nat}{x:α},l[i]? = some x->((l.take i).flatMap f).length+(f x).length<=(l.flatMap f).length
 |y::l,0,x,h=>by
  cases h
  rw[cz,ah];simp
 |y::l,i+1,x,h=>by
  have:=vg f (l:=l) (i:=i) (by simpa using h)
  rw[List.take_succ_cons,cz,cz,ah,ah]
  omega
theorem qI {a b:List Int}(h:gZ a b=true):gZ b a=false:=by
 cases q:gZ b a with
 |false=>rfl
 |true=>have:=lz a b a h q;rw[lV]at this;cases this
theorem kY:∀ {a b:List (List Int)},a.Perm b->a.Pairwise (λx y=>gZ y x=false)->b.Pairwise (λx y=>gZ y x=false)->a=b
 |[],b,p,_,_=>(List.nil_perm.mp p).symm
 |x::a,b,p,ha,hb=>by
  cases b with
  |nil=>exact absurd (p.length_eq) (by simp)
  |cons y b=>
   have hx:x∈y::b:=p.mem_iff.mp aC
   have hy:y∈x::a:=p.mem_iff.mpr aC
   have e:x=y:=by
    rcases aO.mp hx with z |z
    ·exact z
    ·rcases aO.mp hy with z' |z'
     ·exact z'.symm
     ·exact qH x y ((cj.mp hb).1 x z) ((cj.mp ha).1 y z')
   subst e
   rw[kY (List.Perm.cons_inv p) (cj.mp ha).2 (cj.mp hb).2]
section
variable {prog:Program}{w:World}{K:Type} [DecidableEq K] (knd:PySem.KeyKind prog w K)
variable {knd}
variable {A:Around}{E:Value->Shared->Prop}{s:Shared}
end
abbrev SK:=List Key×Key
abbrev KvN:=List (SK×Addr×V)
abbrev PN:KvN->List (SK×Addr×Value)->Prop:=Paired λp q=>p.1=q.1/\p.2.1=q.2.1/\RelV p.2.2 q.2.2
section
variable {P:Program}{w:World}{H:Hp}{h:Heap}{a c:Addr}{kvs:KvN}{k:SK}
end
section
variable {X:Cx}{pins:List (Addr×Obj)}{σ:St}{H:Hp}{s:Shared}{a c:Addr}{v:V}{r:Value}{k:SK}{kvs:KvN}{A:Around}{E:Value->Shared->Prop}
end
section
variable {X:Cx}{o i e value:Expr}{pos pos' DM:Pos}{td ty tv:TE}
end
open TS
section
variable {X:Cx}{pins:List (Addr×Obj)}{σ:St}{H1:Hp}{s2:Shared}{scope:Scope}{N:List Str}{own:Nat}{cap:List (Option Nat)}{cl:List (Str×Addr)}{fp:List Addr}
 {tg iter elt vlt:Expr}{ifs:List Expr}{pos:Pos}{g:TG}{tt:TT}{te tv:TE}{wi:TI}
end
def ro (rows:Rows)(e:Ent):Int:=match e.2 with
 |none=>0
 |some (t,_)=>(gH rows t).getD 0+1
def qg (acc:Rows)(es:List Ent):Rows:=es.foldl (λrows e=>rows ++ [(e.1,ro rows e)]) acc
def fJ (es:List Ent):Rows:=qg [] es
theorem rR:∀ (es:List Ent) (acc:Rows),(qg acc es).map (·.1)=acc.map (·.1)++es.map (·.1)
 |[],acc=>by simp[qg]
 |e::es,acc=>by
  have:=rR es (acc ++ [(e.1,ro acc e)])
  show(qg (acc ++ [(e.1,ro acc e)]) es).map (·.1)=_
  rw[this,aw];simp
theorem ij (es:List Ent):(fJ es).map (·.1)=es.map (·.1):=by unfold fJ;rw[rR];rfl
theorem kI (es:List Ent):(fJ es).length=es.length:=by have:=cH List.length (ij es);rwa [aa,aa]at this
theorem rQ:∀ (es:List Ent) (acc:Rows),acc <+:qg acc es
 |[],acc=>List.prefix_refl _
 |e::es,acc=>(List.prefix_append acc [(e.1,ro acc e)]).trans (rQ es _)
theorem rS (es more:List Ent):fJ (es++more)=qg (fJ es) more:=by unfold fJ qg;rw[eJ]
theorem mR {es es':List Ent}(h:es <+:es'):fJ es <+:fJ es':=by
 obtain⟨r,rfl⟩:=h
 rw[rS]
 exact rQ _ _
theorem lu (es:List Ent)(e:Ent):fJ (es ++ [e])=fJ es ++ [(e.1,ro (fJ es) e)]:=by rw[rS];rfl
theorem jU {rows BA:Rows}(h:rows <+:BA){t:List Int}{n:Int}(hl:gH rows t=some n):gH BA t=some n:=by
 obtain⟨r,rfl⟩:=h
 unfold gH at hl ⊢
 rw[List.find?_append]
 cases q:rows.find? λr=>decide (r.1=t)with
 |none=>rw[q]at hl;cases hl
 |some x=>rw[q]at hl;exact hl
theorem uV {rows:Rows}{t:List Int}(h:t∈rows.map (·.1)):∃ n,gH rows t=some n:=by
 cases q:gH rows t with
 |none=>exact absurd h (qG q)
 |some n=>exact⟨n,rfl⟩
theorem sd {rows:Rows}{t:List Int}{n:Int}(h:t∉rows.map (·.1)):gH (rows ++ [(t,n)]) t=some n:=by
 have q:gH rows t=none:=by
  cases q:gH rows t with
  |none=>rfl
  |some x=>exact absurd (az.mpr ⟨_,jm q,rfl⟩) h
 unfold gH at q ⊢
 rw[Option.map_eq_none_iff]at q
 rw[List.find?_append,q]
 simp
structure Lvl (es:List Ent)(d:Int):Prop where
 mono:(fJ es).Pairwise λa b=>a.2<=b.2
 top:∀ r∈fJ es,r.2<=d+1
theorem Lvl.add {es:List Ent}{d:Int}{t:List Int}{m:Mv}(h:Lvl es d)(ht:gH (fJ es) t=some d):Lvl (lJ t es m) d/\∃ n,gH (fJ (lJ t es m)) m.2=some n/\n<=d+1:=by
 unfold lJ
 by_cases hm:m.2∈es.map (·.1)
 ·rw[aH hm]
  obtain⟨n,hn⟩:=uV (rows:=fJ es) (by rw[ij];exact hm)
  exact⟨h,n,hn,h.top _ (jm hn)⟩
 ·rw[ax hm]
  have hn:ro (fJ es) (m.2,some (t,m.1))=d+1:=by
   show(gH (fJ es) t).getD 0+1=d+1
   rw[ht];rfl
  refine⟨⟨?_,λr hr=>?_⟩,d+1,?_,cO _⟩
  ·rw[lu,br]
   refine⟨h.mono,by simp,λa ha b hb=>?_⟩
   rw[aV.mp hb]
   show a.2<=ro (fJ es) (m.2,some (t,m.1))
   rw[hn]
   exact h.top a ha
  ·rw[lu]at hr
   rcases aL.mp hr with z |z
   ·exact h.top r z
   ·rw[aV.mp z]
    show ro (fJ es) (m.2,some (t,m.1))<=d+1
    rw[hn];exact cO _
  ·rw[lu]
   show gH (fJ es ++ [(m.2,ro (fJ es) (m.2,some (t,m.1)))]) m.2=some (d+1)
   rw[hn]
   exact sd (by rw[ij];exact hm)
theorem Lvl.scan {d:Int}{t:List Int} :∀ (ms:List Mv) {es:List Ent},Lvl es d->gH (fJ es) t=some d->Lvl (fT t ms es) d/\∀ m∈ms,∃ n,gH (fJ (fT t ms es)) m.2=some n/\n<=d+1
 |[],es,h,_=>⟨h,λm hm=>(nomatch hm)⟩
 |m::ms,es,h,ht=>by
  obtain⟨h1,n,hn,hle⟩:=h.add (m:=m) ht
  have hp:=mR (vE t es m)
  obtain⟨h2,h3⟩:=Lvl.scan ms h1 (jU hp ht)
  refine⟨h2,λm' hm'=>?_⟩
  rcases aO.mp hm' with rfl |z
  ·exact⟨n,jU (mR (mM t ms (lJ t es m'))) hn,hle⟩
  ·exact h3 m' z
theorem Cj {rows:Rows}(h:rows.Pairwise λa b=>a.2<=b.2){i j:Nat}{a b:List Int×Int}(hij:i<j)(hi:rows[i]? = some a)(hj:rows[j]? = some b):a.2<=b.2:=by
 obtain⟨hj1,rfl⟩:=af.mp hj
 obtain⟨hi1,rfl⟩:=af.mp hi
 exact bR.mp h i j hi1 hj1 hij
theorem sV {es:List Ent}(nd:(es.map (·.1)).Nodup){j:Nat}{e:Ent}(h:es[j]? = some e):∃ d,(fJ es)[j]? = some (e.1,d)/\gH (fJ es) e.1=some d:=by
 have hl:=(af.mp h).1
 have hj:(fJ es)[j]? = some ((fJ es)[j]'(by rw[kI];exact hl)):=ae _
 have e1:((fJ es)[j]'(by rw[kI];exact hl)).1=e.1:=by
  have a:=cH (·[j]?) (ij es)
  rw[aj,aj,hj,h]at a
  exact aZ a
 generalize (fJ es)[j]'(by rw[kI];exact hl)=r at hj e1
 obtain⟨t,d⟩:=r
 have e1:t=e.1:=e1
 subst e1
 exact⟨d,hj,kK (r:=(e.1,d)) (by rw[ij];exact nd) (aA hj)⟩
structure Kd (l:Ln)(es:List Ent)(i:Nat):Prop where
 mono:(fJ es).Pairwise λa b=>a.2<=b.2
 here:∀ e d,es[i]? = some e->gH (fJ es) e.1=some d->∀ r∈fJ es,r.2<=d+1
 done:∀ j e d,j<i->es[j]? = some e->gH (fJ es) e.1=some d->∀ m∈mvs l e.1,∃ n,gH (fJ es) m.2=some n/\n<=d+1
theorem DF {l:Ln}{ns:List Int}(ok:fz l)(T:h9 l ns)(hne:ns≠ []):∀ i,Kd l (fy l ns i) i
 | 0=>by
  have e0:fJ (fy l ns 0) = [(ns,0)]:=rfl
  refine⟨by rw[e0];simp,λe d he hd r hr=>?_,λj e d hj=>absurd hj (Nat.not_lt_zero j)⟩
  rw[e0]at hd hr
  have:=jm hd
  have h1:=aV.mp hr
  have h2:=aV.mp this
  rw[h1]
  have h3:d=0:=by injection h2
  show(0:Int)<=d+1
  omega
 |i+1=>by
  have ih:=DF ok T hne i
  have E:=jL ok T hne i
  have E1:=jL ok T hne (i+1)
  cases q:(fy l ns i)[i]? with
  |none=>
   have e1:fy l ns (i+1)=fy l ns i:=by rw[fy,q]
   have hl:(fy l ns i).length<=i:=by
    by_cases z:i<(fy l ns i).length
    ·rw[ae z]at q;cases q
    ·omega
   rw[e1]
   refine⟨ih.mono,λe d he=>?_,λj e d hj he=>?_⟩
   ·rw[bV (by omega)]at he;cases he
   ·have:=(af.mp he).1
    exact ih.done j e d (by omega) he
  |some e=>
   obtain⟨d,hd1,hd2⟩:=sV E.nd q
   have L0:Lvl (fy l ns i) d:=⟨ih.mono,ih.here e d q hd2⟩
   have e1:=kF q
   have pre:=mJ l ns i
   obtain⟨L1,M1⟩:=Lvl.scan (mvs l e.1) L0 hd2
   rw[<-e1]at L1 M1
   have rp:=mR pre
   have Ik:(fJ (fy l ns (i+1)))[i]? = some (e.1,d):=by
    obtain⟨z,hz⟩:=rp
    rw[<-hz,ao (af.mp hd1).1]
    exact hd1
   refine⟨L1.mono,λe' d' he' hd' r hr=>?_,λj e' d' hj he' hd' m hm=>?_⟩
   ·obtain⟨d2,h1,h2⟩:=sV E1.nd he'
    rw[hd']at h2
    cases h2
    have a:=Cj L1.mono (Nat.lt_succ_self i) Ik h1
    have b:=L1.top r hr
    have a:d<=d':=a
    omega
   ·by_cases hji:j<i
    ·have hlen:j<(fy l ns i).length:=by have:=(af.mp q).1;omega
     have he0:(fy l ns i)[j]? = some e':=by
      obtain⟨z,hz⟩:=pre
      rw[<-hz,ao hlen]at he'
      exact he'
     obtain⟨d3,_,h3⟩:=sV E.nd he0
     have:=jU rp h3
     rw[hd']at this
     cases this
     obtain⟨n,hn,hle⟩:=ih.done j e' d' hji he0 h3 m hm
     exact⟨n,jU rp hn,hle⟩
    ·have ej:j=i:=by omega
     subst ej
     have he0:(fy l ns (j+1))[j]? = some e:=by
      obtain⟨z,hz⟩:=pre
      rw[<-hz,ao (af.mp q).1]
      exact q
     rw[he0]at he'
     cases he'
     have:=jU rp hd2
     rw[hd']at this
     cases this
     exact M1 m hm
theorem yH {l:Ln}{ns:List Int}(ok:fz l)(T:h9 l ns)(hne:ns≠ []){i:Nat}(hi:(fy l ns i).length=i):Fe l ns (fJ (fy l ns i)):=by
 have W:=DF ok T hne i
 have E:=jL ok T hne i
 refine⟨⟨by rw[ij];exact E.nd,λs hs=>?_⟩,?_,λr hr m hm=>?_⟩
 ·rw[ij]at hs
  obtain⟨e,he,rfl⟩:=az.mp hs
  obtain⟨a,b,c⟩:=E.tr e he
  exact⟨b,c,a⟩
 ·have h0:fy l ns 0 <+:fy l ns i:=by have:=uk l ns 0 i;rwa [cy]at this
  exact jU (mR h0) (show gH [(ns,0)] ns=some 0 from sd (rows:=[]) (by simp))
 ·obtain⟨j,hj,e⟩:=bt.mp hr
  have hjl:j<(fy l ns i).length:=by rw[<-kI];exact hj
  obtain⟨d,h1,h2⟩:=sV E.nd (ae hjl)
  rw[ae hj,e]at h1
  cases h1
  exact W.done j _ d (by omega) (ae hjl) h2 m hm
theorem yF {l:Ln}{ns:List Int}(ok:fz l)(T:h9 l ns)(hne:ns≠ []){i:Nat}(hi:(fy l ns i).length=i):Bz l ns ((fy l ns i).map (·.1)):=by
 have:=(Aj.mp (yH ok T hne hi)).1
 rwa [ij]at this
theorem ko {n:Nat}(h:n<=10000000):n<sizeLine:=er h (by decide)
theorem ux {K:PySem.W.Frag}{H:Hp}{t b:Addr}{kvs:List (List Key×V)}{xs:List V}{o:HO}(ht:H t=some (.dT kvs))(h:SqT K H b xs):SqT K (upd H t o) b xs:=by
 rcases h with(h |⟨o,h⟩)|h
 ·exact .inl (.inl (by rw[fc (gL h ht (by intro z;cases z))];exact h))
 ·exact .inl (.inr ⟨o,by rw[fc (gL h ht (by intro z;cases z))];exact h⟩)
 ·exact .inr h
def kQ (K:PySem.W.Frag)(H:Hp)(e:Ent)(v:V):Prop:=match e.2 with
 |none=>v = .non
 |some (t,k)=>∃ a b c,v = .ref a/\H a=some (.tup [.ref b,.ref c])/\H b=some (.tup (t.map V.int))/\SqT K H c [.str k.1,.int k.2]
theorem kQ.same {K:PySem.W.Frag}{H H':Hp}{e:Ent}{v:V}(h:kQ K H e v)(s:fg H H'):kQ K H' e v:=by
 unfold kQ at h ⊢
 split at h
 ·exact h
 ·obtain⟨a,b,c,h1,h2,h3,h4⟩:=h
  exact⟨a,b,c,h1,s _ _ h2,s _ _ h3,fX s h4⟩
theorem kQ.Fp {K:PySem.W.Frag}{H:Hp}{e:Ent}{v:V}{p:Addr}{vs:List V}{o:HO}(h:kQ K H e v)(hp:H p=some (.lst vs)):kQ K (upd H p o) e v:=by
 unfold kQ at h ⊢
 split at h
 ·exact h
 ·obtain⟨a,b,c,h1,h2,h3,h4⟩:=h
  exact⟨a,b,c,h1,by rw[fc (gL h2 hp (by intro z;cases z))];exact h2,by rw[fc (gL h3 hp (by intro z;cases z))];exact h3,ki hp h4⟩
theorem kQ.Fq {K:PySem.W.Frag}{H:Hp}{e:Ent}{v:V}{p:Addr}{kvs:List (List Key×V)}{o:HO}(h:kQ K H e v)(hp:H p=some (.dT kvs)):kQ K (upd H p o) e v:=by
 unfold kQ at h ⊢
 split at h
 ·exact h
 ·obtain⟨a,b,c,h1,h2,h3,h4⟩:=h
  exact⟨a,b,c,h1,by rw[fc (gL h2 hp (by intro z;cases z))];exact h2,by rw[fc (gL h3 hp (by intro z;cases z))];exact h3,ux hp h4⟩
structure mC (K:PySem.W.Frag)(H:Hp)(d:Addr)(es:List Ent)(vs:List V):Prop where
 at_:H d=some (.dT ((es.zip vs).map λp=>(kyI p.1.1,p.2)))
 len:vs.length=es.length
 each:∀ (i:Nat) e v,es[i]? = some e->vs[i]? = some v->kQ K H e v
theorem mC.same {K:PySem.W.Frag}{H H':Hp}{d:Addr}{es:List Ent}{vs:List V}(h:mC K H d es vs)(s:fg H H'):mC K H' d es vs:=
 ⟨s _ _ h.at_,h.len,λi e v h1 h2=>(h.each i e v h1 h2).same s⟩
theorem uX {es:List Ent}{vs:List V}(hl:vs.length=es.length):((es.zip vs).map λp=>(kyI p.1.1,p.2)).map (·.1)=es.map λe=>kyI e.1:=by
 rw[bP]
 refine eL λi=>?_
 rw[aj,aj]
 by_cases hi:i<es.length
 ·rw[ae (by rw[bI];omega),ae hi,cT];rfl
 ·rw[bV (by rw[bI];omega),bV (by omega)];rfl
theorem xC {κ:Type} [DecidableEq κ] {kvs:List (κ×V)}{k:κ} :(i8 kvs k).isSome=decide (k∈kvs.map (·.1)):=by
 rw[<-nR,cg,eT,cF,az]
 constructor
 ·rintro⟨p,h1,h2⟩;exact⟨p,h1,by simpa using h2⟩
 ·rintro⟨p,h1,h2⟩;exact⟨p,h1,by simpa using h2⟩
theorem mC.mem {K:PySem.W.Frag}{H:Hp}{d:Addr}{es:List Ent}{vs:List V}(h:mC K H d es vs)(t:List Int):(i8 ((es.zip vs).map λp=>(kyI p.1.1,p.2)) (kyI t)).isSome=decide (t∈es.map (·.1)):=by
 rw[xC,uX h.len]
 congr 1
 refine propext ⟨λz=>?_,λz=>?_⟩
 ·obtain⟨e,h1,h2⟩:=az.mp z
  exact az.mpr ⟨e,h1,tQ h2⟩
 ·obtain⟨e,h1,h2⟩:=az.mp z
  exact az.mpr ⟨e,h1,by rw[h2]⟩
structure Ord (H:Hp)(p:Addr)(as:List Addr)(es:List Ent):Prop where
 at_:H p=some (.lst (as.map V.ref))
 len:as.length=es.length
 each:∀ (i:Nat) b e,as[i]? = some b->es[i]? = some e->H b=some (.tup (e.1.map V.int))
theorem Ord.same {H H':Hp}{p:Addr}{as:List Addr}{es:List Ent}(h:Ord H p as es)(s:fg H H'):Ord H' p as es:=
 ⟨s _ _ h.at_,h.len,λi b e h1 h2=>s _ _ (h.each i b e h1 h2)⟩
theorem xU {K:PySem.W.Frag}{H:Hp}{d p st tp ta tm:Addr}{es:List Ent}{vs:List V}{as:List Addr}{t t':List Int}{k:Str×Int}(hs:mC K H d es vs)(ho:Ord H p as es)(hst:H st=some (.tup (t'.map V.int)))
  (htp:H tp=some (.tup [.ref ta,.ref tm])) (hta:H ta=some (.tup (t.map V.int))) (htm:SqT K H tm [.str k.1,.int k.2]) (hn:t'∉es.map (·.1)):
  mC K (upd (upd H d (.dT (putK ((es.zip vs).map λp=>(kyI p.1.1,p.2)) (kyI t') (.ref tp)))) p (.lst (as.map V.ref ++ [V.ref st]))) d (es ++ [(t',some (t,k))]) (vs ++ [.ref tp])/\
  Ord (upd (upd H d (.dT (putK ((es.zip vs).map λp=>(kyI p.1.1,p.2)) (kyI t') (.ref tp)))) p (.lst (as.map V.ref ++ [V.ref st]))) p (as ++ [st]) (es ++ [(t',some (t,k))]):=by
 have hd:=hs.at_
 have hp:=ho.at_
 have dp:d≠p:=gL hd hp (by intro z;cases z)
 have hv:i8 ((es.zip vs).map λp=>(kyI p.1.1,p.2)) (kyI t')=none:=by
  have:=hs.mem t'
  rw[bo hn]at this
  exact Option.isNone_iff_eq_none.mp (by rw[<-Option.not_isSome,this];rfl)
 have e1:putK ((es.zip vs).map λp=>(kyI p.1.1,p.2)) (kyI t') (.ref tp)=((es ++ [(t',some (t,k))]).zip (vs ++ [V.ref tp])).map λp=>(kyI p.1.1,p.2):=by
  rw[qj _ hv,List.zip_append hs.len.symm,aw];rfl
 have hp1:upd H d (.dT (putK ((es.zip vs).map λp=>(kyI p.1.1,p.2)) (kyI t') (.ref tp))) p=some (.lst (as.map V.ref)):=by rw[fc (bZ dp)];exact hp
 have ht:∀ b xs,H b=some (.tup xs)->upd (upd H d (.dT (putK ((es.zip vs).map λp=>(kyI p.1.1,p.2)) (kyI t') (.ref tp)))) p (.lst (as.map V.ref ++ [V.ref st])) b=some (.tup xs):=λb xs q=>by
  rw[fc (gL q hp (by intro z;cases z)),fc (gL q hd (by intro z;cases z))];exact q
 refine⟨⟨by rw[fc dp,eW,e1],by rw[ah,ah,hs.len];rfl,λi e v he hv=>?_⟩,⟨by rw[eW,aw];rfl,by rw[ah,ah,ho.len];rfl,λi b e hb he=>?_⟩⟩
 ·by_cases hi:i<es.length
  ·rw[ao hi]at he
   rw[ao (by rw[hs.len];exact hi)]at hv
   exact((hs.each i e v he hv).Fq hd).Fp hp1
  ·have hi2:i=es.length:=by
    have:=(af.mp he).1
    rw[ah,bG]at this
    omega
   rw[hi2,ar (aq _),b8]at he
   rw[hi2,<-hs.len,ar (aq _),b8]at hv
   cases he
   cases hv
   exact⟨tp,ta,tm,rfl,ht _ _ htp,ht _ _ hta,ki hp1 (ux hd htm)⟩
 ·by_cases hi:i<es.length
  ·rw[ao hi]at he
   rw[ao (by rw[ho.len];exact hi)]at hb
   exact ht _ _ (ho.each i b e hb he)
  ·have hi2:i=es.length:=by
    have:=(af.mp he).1
    rw[ah,bG]at this
    omega
   rw[hi2,ar (aq _),b8]at he
   rw[hi2,<-ho.len,ar (aq _),b8]at hb
   cases he
   cases hb
   exact ht _ _ hst
theorem zP {K:PySem.W.Frag}{p a:Addr}{H:Hp}{kvs:List (List Key×V)}{xs:List V}(hp:H p=some (.dT kvs))(h:SqT K H a xs):SqT K (hid p H) a xs:=by
 rcases h with(h |⟨o,h⟩)|h
 ·exact .inl (.inl (by rw[gK (gL h hp (by intro z;cases z))];exact h))
 ·exact .inl (.inr ⟨o,by rw[gK (gL h hp (by intro z;cases z))];exact h⟩)
 ·exact .inr h
abbrev lD (d p:Addr)(H:Hp):Hp:=hid p (hid d H)
theorem qM {K:PySem.W.Frag}{d p a:Addr}{H:Hp}{kvs:List (List Key×V)}{vs xs:List V}(hd:H d=some (.dT kvs))(hp:H p=some (.lst vs))(h:SqT K H a xs):SqT K (lD d p H) a xs:=by
 have dp:p≠d:=gL hp hd (by intro z;cases z)
 exact xj (vs:=vs) (by rw[gK dp];exact hp) (zP hd h)
theorem lC {d p a:Addr}{H:Hp}(h1:a≠d)(h2:a≠p):lD d p H a=H a:=by show hid p (hid d H) a=H a;rw[gK h2,gK h1]
theorem uY {d p:Addr}{H H':Hp}{o o':HO}(s:fg (lD d p H) H'):fg (lD d p H) (upd (upd H' d o) p o'):=λb u h=>by
 by_cases e1:b=p
 ·subst e1;have h:hid b (hid d H) b=some u:=h;rw[ig]at h;cases h
 ·have h':hid p (hid d H) b=some u:=h
  rw[gK e1]at h'
  by_cases e2:b=d
  ·subst e2;rw[ig]at h';cases h'
  ·rw[fc e1,fc e2];exact s _ _ h
structure sL (H H':Hp)(p:Addr)(bs:List Addr)(ts:List (List Int)):Prop where
 same:fg H H'
 new:H p=none
 at_:H' p=some (.lst (bs.map V.ref))
 len:bs.length=ts.length
 each:∀ (i:Nat) b t,bs[i]? = some b->ts[i]? = some t->H b=none/\b≠p/\H' b=some (.lst (t.map V.int))
 nd:bs.Nodup
theorem sL.pre {H0 H H':Hp}{p:Addr}{bs:List Addr}{ts:List (List Int)}(s:fg H0 H)(h:sL H H' p bs ts):sL H0 H' p bs ts:=
 ⟨s.trans h.same,fg.free s h.new,h.at_,h.len,λi b t h1 h2=>⟨fg.free s (h.each i b t h1 h2).1,(h.each i b t h1 h2).2⟩,h.nd⟩
structure rE (H:Hp)(p:Addr)(as:List Addr)(es:List Ent):Prop where
 at_:H p=some (.lst (as.map V.ref))
 len:as.length=es.length
 each:∀ (i:Nat) b e,as[i]? = some b->es[i]? = some e->b≠p/\H b=some (.lst (e.1.map V.int))
theorem rE.same {H H':Hp}{p:Addr}{as:List Addr}{es:List Ent}(h:rE H p as es)(s:fg H H'):rE H' p as es:=
 ⟨s _ _ h.at_,h.len,λi b e h1 h2=>⟨(h.each i b e h1 h2).1,s _ _ (h.each i b e h1 h2).2⟩⟩
theorem rE.get {H:Hp}{p:Addr}{as:List Addr}{es:List Ent}(h:rE H p as es){i:Nat}{e:Ent}(he:es[i]? = some e):∃ b,as[i]? = some b/\b≠p/\H b=some (.lst (e.1.map V.int)):=by
 have hi:i<as.length:=by rw[h.len];exact(af.mp he).1
 exact⟨as[i],ae hi,h.each i _ e (ae hi) he⟩
end TL
namespace TL
open PySem PySem.Spec PyProof.Rows L2
theorem wm {l:Ln}{ns:List Int}{e x:Int} :x∈fr l ns e↔x∈jn l.2 e/\x/2∉ns.map (· / 2):=by
 unfold fr
 rw[ba]
 constructor
 ·rintro⟨h1,h2⟩;exact⟨h1,by simpa using h2⟩
 ·rintro⟨h1,h2⟩;exact⟨h1,by simpa using h2⟩
theorem Ay {l:Ln}{ns:List Int}{e:Int}(ok:fz l)(T:h9 l ns)(hne:ns≠ [])(he:e∈fr l ns (oth (ns.getLastD 0))):(((("back" :Str),oth (ns.headD 0)),ns):Mv)∈mvs l (ns.drop 1 ++ [e]):=by
 obtain⟨h1,h2⟩:=tY he
 obtain⟨h,r,rfl⟩:∃ h r,ns=h::r:=by cases ns with |nil=>exact absurd rfl hne |cons x r=>exact⟨x,r,rfl⟩
 refine aL.mpr (.inr (az.mpr ⟨oth h,wm.mpr ⟨?_,?_⟩,?_⟩))
 ·cases r with
  |nil=>exact oq ok h1
  |cons y r=>exact oq ok (T.ch 0 h y rfl rfl)
 ·rw[qu]
  have nd:=T.nd
  rw[aS,cn]at nd
  intro z
  rw[aw]at z
  rcases aL.mp z with z |z
  ·exact nd.1 z
  ·have z:h/2=e/2:=by simpa using z
   exact h2 (by rw[<-z];simp)
 ·unfold oD
  rw[mU]
  simp
theorem xE {l:Ln}{ns:List Int}{e:Int}(ok:fz l)(T:h9 l ns)(hne:ns≠ [])(he:e∈fr l ns (ns.headD 0)):(((("on" :Str),ns.getLastD 0),ns):Mv)∈mvs l (oth e::ns.dropLast):=by
 obtain⟨h1,h2⟩:=tY he
 obtain⟨r,z,rfl⟩:∃ r z,ns=r ++ [z]:=⟨ns.dropLast,ns.getLast hne,(cu hne).symm⟩
 have hz:(r ++ [z]).getLastD 0=z:=by simp
 have hd:(r ++ [z]).dropLast=r:=by simp
 rw[hz,hd]
 refine aL.mpr (.inl (az.mpr ⟨z,wm.mpr ⟨?_,?_⟩,?_⟩))
 ·rcases List.eq_nil_or_concat r with e1 |⟨r',y,e1⟩
  ·subst e1
   show z∈jn l.2 (oth (oth e))
   rw[mU]
   exact oq ok h1
  ·rw[List.concat_eq_append]at e1
   subst e1
   have:(oth e::(r' ++ [y])).getLastD 0=y:=by rw[<-List.cons_append,cY,List.getLast?_concat];rfl
   rw[this]
   exact T.ch r'.length y z (by simp) (by simp)
 ·intro q
  rw[aS,qu]at q
  rcases aO.mp q with q |q
  ·exact h2 (by rw[<-q];simp)
  ·have nd:=T.nd
   rw[aw,cb]at nd
   exact nd.2.2 _ q (z/2) (by simp) rfl
 ·unfold onM;simp
def und (k:Str×Int)(t:List Int):Str×Int:=if k.1=Str.ofString "on" then(Str.ofString "back",oth (t.headD 0))else(Str.ofString "on",t.getLastD 0)
theorem Az {l:Ln}{b:List Int}{m:Mv}(ok:fz l)(T:h9 l b)(hne:b≠ [])(hm:m∈mvs l b):((und m.1 b,b):Mv)∈mvs l m.2:=by
 have hw:¬(Str.ofString "back")=Str.ofString "on" :=by decide +kernel
 rcases aL.mp hm with z |z
 ·obtain⟨e,he,rfl⟩:=az.mp z
  have h:=Ay ok T hne he
  unfold und
  rw[aH (show(onM b e).1.1=Str.ofString "on" from rfl)]
  exact h
 ·obtain⟨e,he,rfl⟩:=az.mp z
  have h:=xE ok T hne he
  unfold und
  rw[ax (show ¬(oD b e).1.1=Str.ofString "on" from hw)]
  exact h
open TS
end TL
namespace TL
open PySem PySem.Spec PyProof.Rows L2
abbrev Sta:=List Int×Str
abbrev Bk:=Option (Sta×Option (Str×Int))
abbrev EnS:=Sta×Bk
def ow (w:Str):Str:=if w=Str.ofString "on" then Str.ofString "back" else Str.ofString "on"
end TL
namespace TL
open PySem L2 PyProof.Rows
open PySem.Spec
open PySem.W
section
variable {prog:Program}{w:World}{d:Addr}{o:Obj}{es:Array DictEntry}{ep:Nat}
end
end TL
namespace TL
open PySem L2 PyProof.Rows
def swp (p:Int×Int):Int×Int:=(p.2,p.1)
def both (js:List (Int×Int)):List (Int×Int):=js++js.map swp
open PySem.Spec TS
end TL
namespace TL
open PySem L2 PyProof.Rows
theorem wD {l:Ln}{ns:List Int}(P:List Int->Prop)(h0:P ns)(hs:∀ t m,P t->m∈mvs l t->P m.2):∀ i,∀ e∈fy l ns i,P e.1
 | 0=>λe he=>by have z:e=(ns,none):=(by simpa [fy]using he);rw[z];exact h0
 |i+1=>by
  have ih:=wD P h0 hs i
  rw[fy]
  split
  ·rename_i e0 he0
   have r0:=ih e0 (aA he0)
   have gen:∀ (ms:List Mv) (o:List Ent),(∀ m∈ms,m∈mvs l e0.1)->(∀ e∈o,P e.1)->∀ e∈fT e0.1 ms o,P e.1:=by
    intro ms
    induction ms with
    |nil=>intro o _ h;exact h
    |cons m ms ihm=>
     intro o hm h
     refine ihm (lJ e0.1 o m) (λx hx=>hm x (aE _ hx)) ?_
     unfold lJ
     split
     ·exact h
     ·intro e he
      rcases aL.mp he with z |z
      ·exact h e z
      ·rw[aV.mp z]
       exact hs _ m r0 (hm m aC)
   exact gen _ _ (λm hm=>hm) ih
  ·exact ih
open PySem.Spec
abbrev sts (x:List EnS×List Sta):List Sta:=x.1.map (·.1)
section
variable {l:Ln}{W:List (List Int)}{tr:List Int}{r:Nat}
end
section
variable {l:Ln}{W:List (List Int)}{tr:List Int}{r:Nat}
end
section
variable {X:Cx}
end
section
variable {l:Ln}{W:List (List Int)}{tr:List Int}{r:Nat}
end
inductive Go (l:Ln) (s:List Int):List Str->List Int->Prop
 |nil:Go l s [] s
 |snoc {ws:List Str}{t:List Int}{m:Mv} :Go l s ws t->m∈mvs l t->Go l s (ws ++ [m.1.1]) m.2
section
variable {l:Ln}{s t u:List Int}{ws vs:List Str}
theorem Go.trans (h:Go l s ws t)(k:Go l t vs u):Go l s (ws++vs) u:=by
 induction k with
 |nil=>rw[bO];exact h
 |snoc _ hm ih=>rw[<-aN];exact ih.snoc hm
theorem Go.one {m:Mv}(hm:m∈mvs l s):Go l s [m.1.1] m.2:=Go.snoc (ws:=[]) .nil hm
theorem Go.ok (ok:fz l)(T:h9 l s)(hne:s≠ [])(h:Go l s ws t):h9 l t/\t.length=s.length/\t≠ []:=by
 induction h with
 |nil=>exact⟨T,rfl,hne⟩
 |snoc _ hm ih=>
  obtain⟨a,b,c⟩:=zw ok ih.1 ih.2.2 hm
  exact⟨a,b.trans ih.2.1,c⟩
theorem BU (k:Str×Int)(t:List Int):(und k t).1=ow k.1:=by
 unfold und ow
 split<;>rfl
theorem Go.Fs (ok:fz l)(T:h9 l s)(hne:s≠ [])(h:Go l s ws t):Go l t (ws.reverse.map ow) s:=by
 induction h with
 |nil=>exact .nil
 |@snoc ws t m h hm ih=>
  obtain⟨T1,_,n1⟩:=h.ok ok T hne
  have g:=Go.one (Az ok T1 n1 hm)
  have e:(und m.1 t).1=ow m.1.1:=BU _ _
  have g2:Go l m.2 [ow m.1.1] t:=by rw[<-e];exact g
  have:=g2.trans ih
  rw[bS,aw]
  exact this
theorem yG (i:Nat):∀ e∈fy l s i,∃ ws,Go l s ws e.1:=wD (λt=>∃ ws,Go l s ws t) ⟨[],.nil⟩ (λ_ _ ⟨_,h⟩ hm=>⟨_,h.snoc hm⟩) i
theorem Dl (ok:fz l)(T:h9 l s)(hne:s≠ []){i:Nat}(hi:(fy l s i).length=i)(h:Go l s ws t):t∈(fy l s i).map (·.1):=by
 obtain⟨_,h0,hsh⟩:=yF ok T hne hi
 induction h with
 |nil=>exact h0
 |snoc _ hm ih=>exact(hsh _ ih).2 _ hm
end
section
variable {m:Int}{nm es:List Int}{js js':List (Int×Int)}{s t u:List Int}{ws:List Str}
def In (m:Int)(t:List Int):Prop:=∀ e∈t,0<=e/\e<2*m
end
theorem h9.init {l:Ln}{u:List Int}{e:Int}(ok:fz l)(hne:u≠ [])(T:h9 l (u ++ [e])):h9 l u/\e∈fr l u (oth (u.getLastD 0)):=by
 have hc:∀ (i:Nat) x y,u[i]? = some x->u[i+1]? = some y->y∈jn l.2 (oth x):=λi x y hx hy=>by
  refine T.ch i x y ?_ ?_
  ·rw[ao (af.mp hx).1];exact hx
  ·rw[ao (af.mp hy).1];exact hy
 have nd:=T.nd
 rw[aw,cb]at nd
 refine⟨⟨λx hx=>T.ends x (bM _ hx),nd.1,hc⟩,wm.mpr ⟨?_,λz=>nd.2.2 _ z _ (by simp) rfl⟩⟩
 obtain⟨r,z,rfl⟩:∃ r z,u=r ++ [z]:=⟨u.dropLast,u.getLast hne,(cu hne).symm⟩
 have:=T.ch r.length z e (by simp) (by simp)
 simpa using this
theorem pS {l:Ln}(ok:fz l):∀ (k:Nat) (t:List Int),h9 l t->t.length=k+1->t∈fD l k
 | 0,t,T,hl=>by
  match t,hl with
  |[e],_=>
   have:=T.ends e aC
   exact az.mpr ⟨e,uE.mpr (by omega),rfl⟩
 |k+1,t,T,hl=>by
  have hne:t≠ []:=λz=>by rw[z]at hl;cases hl
  obtain⟨u,e,rfl⟩:∃ r z,t=r ++ [z]:=⟨t.dropLast,t.getLast hne,(cu hne).symm⟩
  rw[ah]at hl
  have hl:u.length=k+1:=by simpa using hl
  obtain⟨T1,he⟩:=T.init ok λz=>by rw[z]at hl;cases hl
  exact List.mem_flatMap.mpr ⟨u,pS ok k u T1 hl,az.mpr ⟨e,he,rfl⟩⟩
def Rch (l:Ln)(t u:List Int):Prop:=∃ ws,Go l t ws u
theorem Rch.rfl' {l:Ln}(t:List Int):Rch l t t:=⟨[],.nil⟩
theorem Rch.symm {l:Ln}{t u:List Int}(ok:fz l)(T:h9 l t)(hne:t≠ [])(h:Rch l t u):Rch l u t:=by
 obtain⟨ws,g⟩:=h
 exact⟨_,g.Fs ok T hne⟩
theorem Rch.trans {l:Ln}{t u v:List Int}(h:Rch l t u)(k:Rch l u v):Rch l t v:=by
 obtain⟨ws,g⟩:=h
 obtain⟨vs,g'⟩:=k
 exact⟨_,g.trans g'⟩
open Classical in
noncomputable def grp (l:Ln) (k:Nat) (t:List Int):List (List Int):=(fD l k).filter λu=>decide (Rch l t u)
section
variable {l:Ln}{k:Nat}
theorem kd (ok:fz l){t:List Int}(h:t∈fD l k):h9 l t/\t.length=k+1/\t≠ []:=by
 obtain⟨T,hl⟩:=md ok k t h
 exact⟨T,hl,λz=>by rw[z]at hl;cases hl⟩
open Classical in
theorem tX (ok:fz l){t u:List Int}(h:t∈fD l k):u∈grp l k t↔Rch l t u:=by
 unfold grp
 rw[ba]
 obtain⟨T,hl,hne⟩:=kd ok h
 constructor
 ·exact λz=>bT z.2
 ·intro z
  obtain⟨ws,g⟩:=id z
  obtain⟨T1,l1,_⟩:=g.ok ok T hne
  exact⟨pS ok k u T1 (l1.trans hl),bC z⟩
theorem tV {t u:List Int}(h:u∈grp l k t):u∈fD l k:=(ba.mp h).1
theorem Dk (G:gW l)(t:List Int):(grp l k t).Pairwise (λa b=>gZ a b=true):=(tZ G k).filter _
theorem zV (G:gW l)(t:List Int):(grp l k t).Nodup:=(Ae G k).filter _
theorem lZ (ok:fz l){t:List Int}(h:t∈fD l k):t∈grp l k t:=(tX ok h).mpr (Rch.rfl' t)
open Classical in
theorem tW (ok:fz l){t u:List Int}(ht:t∈fD l k)(h:u∈grp l k t):grp l k u=grp l k t:=by
 have hu:=tV h
 have r:=(tX ok ht).mp h
 obtain⟨T,_,hne⟩:=kd ok ht
 unfold grp
 refine List.filter_congr λv hv=>?_
 refine decide_eq_decide.mpr ⟨λz=>r.trans z,λz=>(r.symm ok T hne).trans z⟩
theorem xm (G:gW l){t:List Int}(h:t∈fD l k){i:Nat}(hi:(fy l t i).length=i){ts:List (List Int)}(pe:ts.Perm ((fy l t i).map (·.1)))(so:ts.Pairwise (λa b=>gZ b a=false)):ts=grp l k t:=by
 have ok:=G.jF
 obtain⟨T,hl,hne⟩:=kd ok h
 have E:=jL ok T hne i
 refine kY (pe.trans ?_) so (cA (λ{a b} h=>qI h) (Dk G t))
 refine(List.perm_ext_iff_of_nodup E.nd (zV G t)).mpr λu=>?_
 rw[tX ok h]
 constructor
 ·intro z
  obtain⟨e,he,rfl⟩:=az.mp z
  exact yG i e he
 ·rintro⟨ws,g⟩
  exact Dl ok T hne hi g
noncomputable def jG (l:Ln) (k:Nat) (ts:List (List Int)):List (List (List Int)):=
 match ts with
 |[]=>[]
 |t::r=>grp l k t::jG l k (r.filter λu=>decide (u∉grp l k t))
termination_by ts.length
decreasing_by
 refine Nat.lt_succ_of_le ?_
 rw[List.length_unattach]
 exact bF (bH _ _) (Nat.le_of_eq List.length_attach)
theorem vc:jG l k [] = []:=by rw[jG]
theorem sq (t:List Int)(r:List (List Int)):jG l k (t::r)=grp l k t::jG l k (r.filter λu=>decide (u∉grp l k t)):=by rw[jG]
noncomputable def pst (l:Ln) (k:Nat) (F:List (List (List Int))) (t:List Int):List (List (List Int)):=if t∈F.flatten then F else F ++ [grp l k t]
theorem su:∀ (ts:List (List Int)) (F:List (List (List Int))),ts.foldl (pst l k) F=F++jG l k (ts.filter λu=>decide (u∉F.flatten))
 |[],F=>by rw[List.filter_nil,vc,bO];rfl
 |t::r,F=>by
  rw[cJ,su r]
  unfold pst
  by_cases h:t∈F.flatten
  ·rw[aH h,bW,ax (by simp[h])]
  ·rw[ax h,bW,aH (by simp[h]),sq,aN,List.filter_filter]
   have e:(r.filter λu=>decide (u∉(F ++ [grp l k t]).flatten))=r.filter λa=>decide (a∉grp l k t)&&decide (a∉F.flatten):=List.filter_congr λu _=>by
    rw[dX,List.flatten_singleton]
    by_cases a:u∈F.flatten<;>by_cases b:u∈grp l k t<;>simp[a,b]
   rw[e];rfl
theorem fold_all:(fD l k).foldl (pst l k) []=jG l k (fD l k):=by
 rw[su,List.nil_append]
 congr 1
 rw[List.filter_eq_self]
 intro u _
 simp
end
section
variable {D:Ends}{σ:L2.St}{H:Hp}
theorem nm2 {t1 t2 R:TS}(h:∀ r:TS,(∀ D σ H,R D σ H->r D σ H)->pE t1 (pE t2 r) D σ H):pE t1 (pE t2 R) D σ H:=h R λ_ _ _ z=>z
theorem nm3 {t1 t2 t3 R:TS}(h:∀ r:TS,(∀ D σ H,R D σ H->r D σ H)->pE t1 (pE t2 (pE t3 r)) D σ H):pE t1 (pE t2 (pE t3 R)) D σ H:=h R λ_ _ _ z=>z
theorem cut {t u:TS}(J:L2.St->Hp->Prop)(first:∀ (N:L2.St->Hp->Prop) (R:VK) (B C:L2.St->Hp->Prop),(∀ σ' H',J σ' H'->N σ' H')->(∀ v H',D.rt v H'->R v H')->t ⟨N,R,B,C⟩ σ H)(rest:∀ σ' H',J σ' H'->u D σ' H'):pE t u D σ H:=
 first (u D) D.rt D.bk D.ct rest λ_ _ z=>z
theorem gB {K:PySem.W.Frag}{a:Addr}{xs:List V}{g:TG}{tb:TS}(Pv:Nat->L2.St->Hp->Prop)(h0:Pv 0 σ H)(hl:∀ i σ H,i<=xs.length->Pv i σ H->SqL K H a xs)
  (hs:∀ i x σ H (N:L2.St->Hp->Prop) (R:VK) (B:L2.St->Hp->Prop),(∀ σ' H',Pv (i+1) σ' H'->N σ' H')->(∀ v H',D.rt v H'->R v H')->xs[i]? = some x->Pv i σ H->g x σ H λσ2 H2=>tb ⟨N,R,B,N⟩ σ2 H2) (hd:∀ σ H,Pv xs.length σ H->D.nx σ H):
  ∃ W:Nat->Nat->L2.St->Hp->Prop,(∃ m,W 0 m σ H)/\∀ i m σ H,W i m σ H->
   ((Itl K a).stop i H/\D.nx σ H)\/((Itl K a).go i H/\∃ N:L2.St->Hp->Prop,(∀ σ' H',N σ' H'->∃ m',m'<m/\W (i+1) m' σ' H')/\∀ x H',(Itl K a).yld i H x H'->g x σ H' λσ2 H2=>tb {D with nx:=N,ct:=N,bk:=D.nx} σ2 H2):=
 zY Pv h0 hl (λi x σ H hx p=>hs i x σ H _ _ _ (λ_ _ z=>z) (λ_ _ z=>z) hx p) hd
theorem nJ {lo:Int}{n:Nat}{g:TG}{tb:TS}(Pv:Nat->L2.St->Hp->Prop)(h0:Pv 0 σ H)
  (hs:∀ i σ H (N:L2.St->Hp->Prop) (R:VK) (B:L2.St->Hp->Prop),(∀ σ' H',Pv (i+1) σ' H'->N σ' H')->(∀ v H',D.rt v H'->R v H')->i<n->Pv i σ H->g (.int (lo+i)) σ H λσ2 H2=>tb ⟨N,R,B,N⟩ σ2 H2) (hd:∀ σ H,Pv n σ H->D.nx σ H):
  ∃ W:Nat->Nat->L2.St->Hp->Prop,(∃ m,W 0 m σ H)/\∀ i m σ H,W i m σ H->
   ((Itr lo n).stop i H/\D.nx σ H)\/((Itr lo n).go i H/\∃ N:L2.St->Hp->Prop,(∀ σ' H',N σ' H'->∃ m',m'<m/\W (i+1) m' σ' H')/\∀ x H',(Itr lo n).yld i H x H'->g x σ H' λσ2 H2=>tb {D with nx:=N,ct:=N,bk:=D.nx} σ2 H2):=
 oW Pv h0 (λi σ H hx p=>hs i σ H _ _ _ (λ_ _ z=>z) (λ_ _ z=>z) hx p) hd
theorem sr {K:PySem.W.Frag}{a:Addr}{xs:List V}{g:TG}{tb:TS}(Pv:Nat->L2.St->Hp->Prop)(h0:Pv 0 σ H)(hl:∀ i σ H,i<=xs.length->Pv i σ H->SqL K H a xs)
  (hs:∀ i x σ H p (N:L2.St->Hp->Prop) (R:VK) (B:L2.St->Hp->Prop),(∀ σ' H',Pv (i+1) σ' H'->N σ' H')->(∀ v H',D.rt v H'->R v H')->xs[i]? = some x->Pv i σ H->H p=none->g (.ref p) σ (upd H p (.tup [.int i,x])) λσ2 H2=>tb ⟨N,R,B,N⟩ σ2 H2) (hd:∀ σ H,Pv xs.length σ H->D.nx σ H):
  ∃ W:Nat->Nat->L2.St->Hp->Prop,(∃ m,W 0 m σ H)/\∀ i m σ H,W i m σ H->
   ((Ite K a).stop i H/\D.nx σ H)\/((Ite K a).go i H/\∃ N:L2.St->Hp->Prop,(∀ σ' H',N σ' H'->∃ m',m'<m/\W (i+1) m' σ' H')/\∀ x H',(Ite K a).yld i H x H'->g x σ H' λσ2 H2=>tb {D with nx:=N,ct:=N,bk:=D.nx} σ2 H2):=
 zZ Pv h0 hl (λi x σ H p hx q np=>hs i x σ H p _ _ _ (λ_ _ z=>z) (λ_ _ z=>z) hx q np) hd
theorem rH {c:TT}{tb:TS}(Pv:L2.St->Hp->Prop)(μ:L2.St->Hp->Nat)(h0:Pv σ H)
  (hs:∀ σ H (N:L2.St->Hp->Prop) (R:VK) (B:L2.St->Hp->Prop),(∀ σ' H',Pv σ' H'->μ σ' H'<μ σ H->N σ' H')->(∀ v H',D.rt v H'->R v H')->(∀ σ' H',D.nx σ' H'->B σ' H')->Pv σ H->c σ H λb H1=>if b=true then tb ⟨N,R,B,N⟩ σ H1 else B σ H1)
  (mono:∀ σ H Q Q',(∀ b H1,Q b H1->Q' b H1)->c σ H Q->c σ H Q'):oI c tb D σ H:=
 yE Pv μ h0 (λσ H p=>hs σ H _ _ _ (λ_ _ a b=>⟨a,b⟩) (λ_ _ z=>z) (λ_ _ z=>z) p) mono
end
section
variable {l:Ln}{k:Nat}
theorem wF (G:gW l){t:List Int}(h:t∈fD l k)(i:Nat):(fy l t i).length<=(fD l k).length:=by
 have ok:=G.jF
 obtain⟨T,hl,hne⟩:=kd ok h
 have E:=jL ok T hne i
 have:=lA E.nd (l2:=fD l k) λu hu=>by
  obtain⟨e,he,rfl⟩:=az.mp hu
  obtain⟨ws,g⟩:=yG i e he
  obtain⟨T1,l1,_⟩:=g.ok ok T hne
  exact pS ok k _ T1 (l1.trans hl)
 rwa [aa]at this
def wz (l:Ln)(k:Nat)(F:List (List (List Int))):Prop:=∀ g∈F,∃ t∈fD l k,g=grp l k t
theorem tU (ts:List (List Int))(hs:∀ t∈ts,t∈fD l k):∀ (F:List (List (List Int))),wz l k F->wz l k (ts.foldl (pst l k) F):=by
 induction ts with
 |nil=>exact λF h=>h
 |cons t r ih=>
  intro F h
  rw[cJ]
  refine ih (λu hu=>hs u (aE _ hu)) _ ?_
  unfold pst
  split
  ·exact h
  ·intro g hg
   rcases aL.mp hg with z |z
   ·exact h g z
   ·rw[aV.mp z]
    exact⟨t,hs t aC,rfl⟩
theorem Dj (ok:fz l){F:List (List (List Int))}(h:wz l k F){t u:List Int}(ht:t∈fD l k)(nt:t∉F.flatten)(hu:u∈grp l k t):u∉F.flatten:=λz=>by
 obtain⟨g,hg,hug⟩:=cQ.mp z
 obtain⟨t',ht',rfl⟩:=h g hg
 refine nt (cQ.mpr ⟨_,hg,?_⟩)
 rw[<-tW ok ht' hug,tW ok ht hu]
 exact lZ ok ht
theorem Aa (ts:List (List Int)):∀ (F:List (List (List Int))),∀ u∈F.flatten,u∈(ts.foldl (pst l k) F).flatten:=by
 induction ts with
 |nil=>exact λF u h=>h
 |cons t r ih=>
  intro F u h
  rw[cJ]
  refine ih _ u ?_
  unfold pst
  split
  ·exact h
  ·rw[dX];exact bM _ h
theorem Ac (ok:fz l):∀ (ts:List (List Int)),(∀ t∈ts,t∈fD l k)->∀ (F:List (List (List Int))),∀ u∈ts,u∈(ts.foldl (pst l k) F).flatten:=by
 intro ts
 induction ts with
 |nil=>intro _ F u h;cases h
 |cons t r ih=>
  intro hs F u h
  rw[cJ]
  rcases aO.mp h with rfl |q
  ·refine Aa r _ u ?_
   unfold pst
   split
   ·assumption
   ·rw[dX,List.flatten_singleton];exact bx _ (lZ ok (hs u aC))
  ·exact ih (λv hv=>hs v (aE _ hv)) _ u q
theorem wj (l:Ln)(k:Nat):wz l k (jG l k (fD l k)):=by
 rw[<-fold_all]
 exact tU _ (λt h=>h) [] λg hg=>by cases hg
theorem zU (ok:fz l){u:List Int}(h:u∈fD l k):u∈(jG l k (fD l k)).flatten:=by
 rw[<-fold_all]
 exact Ac ok _ (λt h=>h) [] u h
def qL (F:List (List (List Int)))(u:List Int):Nat:=F.findIdx λg=>decide (u∈g)
theorem A5 {F:List (List (List Int))}{g:List (List Int)}{u:List Int}(h:u∈F.flatten):qL (F ++ [g]) u=qL F u:=by
 unfold qL
 obtain⟨g',hg,hu⟩:=cQ.mp h
 rw[List.findIdx_append,aH (List.findIdx_lt_length_of_exists ⟨g',hg,bC hu⟩)]
theorem A6 {F:List (List (List Int))}{g:List (List Int)}{u:List Int}(h:u∉F.flatten)(hg:u∈g):qL (F ++ [g]) u=F.length:=by
 unfold qL
 have:F.findIdx (λg=>decide (u∈g))=F.length:=List.findIdx_eq_length.mpr λg' hg'=>bo λz=>h (cQ.mpr ⟨g',hg',z⟩)
 rw[List.findIdx_append,ax (by omega),List.findIdx_cons,bC hg];simp
end
theorem B9 {d:Addr}{H G:Hp}{o:HO}(s:fg (hid d H) G):fg (hid d H) (upd G d o):=λb u h=>by
 have:b≠d:=λz=>by rw[z,ig]at h;cases h
 rw[fc this];exact s b u h
theorem xD {κ:Type} [DecidableEq κ] (kvs:List (κ×V))(k k':κ)(v:V):i8 (kvs ++ [(k,v)]) k'=if(i8 kvs k').isSome then i8 kvs k' else if k=k' then some v else none:=by
 unfold i8
 rw[List.find?_append]
 cases h:kvs.find? (λkv=>decide (kv.1=k'))with
 |some x=>simp
 |none=>by_cases e:k=k'<;>simp[e]
def rF (kvs:List (List Key×V))(F:List (List (List Int))):Prop:=∀ u,i8 kvs (kyI u)=if u∈F.flatten then some (V.int (qL F u:Int))else none
def wy (kvs:List (List Key×V))(F:List (List (List Int)))(s:List (List Int)):Prop:=∀ u,i8 kvs (kyI u)=if u∈F.flatten then some (V.int (qL F u:Int))else if u∈s then some (V.int (F.length:Int))else none
theorem rF.mem {kvs:List (List Key×V)}{F:List (List (List Int))}(h:rF kvs F)(u:List Int):(i8 kvs (kyI u)).isSome=decide (u∈F.flatten):=by
 rw[h u]
 by_cases e:u∈F.flatten
 ·rw[aH e,bC e];rfl
 ·rw[ax e,bo e];rfl
theorem rF.start {kvs:List (List Key×V)}{F:List (List (List Int))}(h:rF kvs F):wy kvs F []:=λu=>by rw[h u,ax (dH)]
theorem wy.put {kvs:List (List Key×V)}{F:List (List (List Int))}{s:List (List Int)}{t:List Int}(h:wy kvs F s)(h1:t∉F.flatten)(h2:t∉s):wy (putK kvs (kyI t) (V.int (F.length:Int))) F (s ++ [t])/\(putK kvs (kyI t) (V.int (F.length:Int))).length=kvs.length+1:=by
 have hn:i8 kvs (kyI t)=none:=by rw[h t,ax h1,ax h2]
 rw[qj _ hn]
 refine⟨λu=>?_,by rw[ah];rfl⟩
 rw[xD,h u]
 by_cases e:u=t
 ·subst e
  rw[ax h1,ax h2,ax h1,aH (bx _ aC)]
  simp
 ·have e':kyI t≠kyI u:=λz=>e (tQ z).symm
  by_cases a:u∈F.flatten
  ·simp[a]
  ·by_cases b:u∈s
   ·simp[a,b]
   ·simp[a,b,e,e']
theorem wy.done {kvs:List (List Key×V)}{F:List (List (List Int))}{g:List (List Int)}(h:wy kvs F g)(dj:∀ u∈g,u∉F.flatten):rF kvs (F ++ [g]):=λu=>by
 rw[h u,dX,List.flatten_singleton]
 by_cases a:u∈F.flatten
 ·rw[aH a,aH (bM _ a),A5 a]
 ·by_cases b:u∈g
  ·rw[ax a,aH b,aH (bx _ b),A6 a b]
  ·rw[ax a,ax b,ax (by simp[a,b])]
theorem rF.nil:rF [] []:=λu=>by simp[i8]
theorem oF {R:Addr->List Int->Prop} :∀ {Z:List (V×List Int)},(∀ z∈Z,∃ a,z.1 = .ref a/\R a z.2)->∃ as:List Addr,Z.map (·.1)=as.map V.ref/\as.length=(Z.map (·.2)).length/\∀ (i:Nat) a t,as[i]? = some a->(Z.map (·.2))[i]? = some t->R a t
 |[],_=>⟨[],rfl,rfl,λi a t h=>by simp at h⟩
 |z::Z,h=>by
  obtain⟨as,e1,e2,e3⟩:=oF (R:=R) (Z:=Z) λy hy=>h y (aE _ hy)
  obtain⟨a,e4,e5⟩:=h z aC
  refine⟨a::as,by rw[aS,aS,e1,e4],by rw[aS,aX,aX,e2],λi b t h1 h2=>?_⟩
  cases i with
  |zero=>cases h1;cases h2;exact e5
  |succ n=>exact e3 n b t (by simpa using h1) (by simpa using h2)
theorem ug {R:Addr->List Int->Prop}{as:List Addr}{ts:List (List Int)}(hl:as.length=ts.length)(h:∀ (i:Nat) a t,as[i]? = some a->ts[i]? = some t->R a t):∀ z∈(as.map V.ref).zip ts,∃ a,z.1 = .ref a/\R a z.2:=λz hz=>by
 obtain⟨i,hi,e⟩:=bt.mp hz
 rw[bI,aa]at hi
 rw[cT]at e
 refine⟨as[i]'(by omega),by rw[<-e];simp,h i _ _ (ae (by omega)) ?_⟩
 rw[<-e]
 exact ae (by omega)
theorem pU {vs:List V}{ts:List (List Int)}{Z:List (V×List Int)}(hl:vs.length=ts.length)(zp:Z.Perm (vs.zip ts)):(Z.map (·.2)).Perm ts:=by
 have:=zp.map (·.2)
 rwa [List.map_snd_zip (by omega)]at this
theorem EY {l:Ln}{k:Nat}(ok:fz l){g:List (List Int)}(h:∃ t∈fD l k,g=grp l k t):g≠ []:=by
 obtain⟨t,ht,rfl⟩:=h
 exact λz=>by have:=lZ ok ht;rw[z]at this;cases this
theorem Bc {l:Ln}{k:Nat}(ok:fz l)(ts:List (List Int)):∀ (F:List (List (List Int))),(∀ t∈ts,t∈fD l k)->wz l k F->F.Nodup->(ts.foldl (pst l k) F).Nodup:=by
 induction ts with
 |nil=>exact λF _ _ h=>h
 |cons t r ih=>
  intro F hs h nd
  rw[cJ]
  refine ih _ (λu hu=>hs u (aE _ hu)) (tU [t] (λu hu=>by rw[aV.mp hu];exact hs t aC) F h) ?_
  unfold pst
  split
  ·exact nd
  ·rename_i c
   rw[cb]
   refine⟨nd,by simp,λg hg g' hg' e=>c ?_⟩
   rw[aV.mp hg']at e
   exact cQ.mpr ⟨g,hg,by rw[e];exact lZ ok (hs t aC)⟩
theorem Ba {l:Ln}{k:Nat}(ok:fz l):(jG l k (fD l k)).Nodup:=by
 rw[<-fold_all]
 exact Bc ok _ [] (λt h=>h) (λg hg=>by cases hg) (by simp)
theorem yo {l:Ln}{k:Nat}{i:Nat}{t:List Int}(h:(fD l k)[i]? = some t):((fD l k).take (i+1)).foldl (pst l k) []=pst l k (((fD l k).take i).foldl (pst l k) []) t:=by
 rw[bD,h,eJ];rfl
def twn (gs:List (List (List Int)))(ts:List (List Int)):Int:=(qL gs ((ts.headD []).reverse.map oth):Nat)
section
variable {l:Ln}{k:Nat}
theorem wg (ok:fz l){F:List (List (List Int))}(h:wz l k F){g:List (List Int)}(hg:g∈F):∃ u r,g=u::r/\u∈fD l k/\g.headD []=u/\g=grp l k u:=by
 obtain⟨t,ht,e⟩:=h g hg
 cases q:g with
 |nil=>exact absurd q (EY ok (h g hg))
 |cons u r=>
  have um:u∈grp l k t:=by rw[<-e,q];exact aC
  exact⟨u,r,rfl,tV um,rfl,by rw[<-q,e,tW ok ht um]⟩
theorem Ab (ts:List (List Int)):∀ F:List (List (List Int)),(ts.foldl (pst l k) F).length<=F.length+ts.length:=by
 induction ts with
 |nil=>exact λF=>aq _
 |cons t r ih=>
  intro F
  rw[cJ]
  have:=ih (pst l k F t)
  have h2:(pst l k F t).length<=F.length+1:=by
   unfold pst
   split
   ·omega
   ·rw[ah];exact aq _
  rw[aX]
  omega
theorem qN (l:Ln)(k:Nat):(jG l k (fD l k)).length<=(fD l k).length:=by
 rw[<-TL.fold_all]
 have:=Ab (l:=l) (k:=k) (fD l k) []
 simpa using this
theorem ur (ok:fz l){t:List Int}(h:t∈fD l k):t.reverse.map oth∈fD l k:=by
 obtain⟨T,hl,_⟩:=kd ok h
 exact pS ok k _ (xJ ok T) (by rw[aa,bg,hl])
end
def dGe (gs:List (List (List Int)))(ts:List (List Int)):PyData:=.tuple [dLI ts,.int (twn gs ts)]
def dG (gs:List (List (List Int))):PyData:=.list (gs.map (dGe gs))
theorem nu (gs:List (List (List Int))):OkD (dG gs):=by
 have h2:∀ xss:List (List Int),PyData.depth (dLI xss)<=2:=λxss=>by
  simp only[dLI,PyData.depth]
  have:=gD (f:=dI) (k:=1) (λm=>by
   simp only[dI,PyData.depth]
   have:=gD (f:=PyData.int) (k:=0) (λ_=>by simp[PyData.depth]) m
   omega) xss
  omega
 refine⟨?_,?_⟩
 ·unfold dG
  rw[PyData.canLay0]
  refine hJ (λr=>?_) gs
  simp only[dGe,PyData.canLay0,PyData.canLayAll0,Bool.and_true,Bool.true_and]
  exact(tL r).1
 ·unfold dG
  rw[PyData.depth]
  have:=gD (f:=dGe gs) (k:=4) (λr=>by
   simp only[dGe,PyData.depth,PyData.depthAll]
   have:=h2 r
   omega) gs
  omega
theorem zQ {l:Addr}{H G:Hp}(s:fg H G)(n:H l=none):fg H (hid l G):=λb o h=>by
 rw[gK (eZ h n)];exact s b o h
theorem pV {α β:Type}(q:β->Bool):∀ {as:List α}{ts:List β},as.length=ts.length->((as.zip ts).filter λz=>q z.2).map (·.2)=ts.filter q
 |[],[],_=>rfl
 |a::as,t::ts,h=>by
  have ih:=pV q (as:=as) (ts:=ts) (by simpa using h)
  rw[eA,bW,bW]
  by_cases e:q t=true
  ·rw[aH e,aH e,aS,ih]
  ·rw[ax e,ax e,ih]
 |[],_::_,h=>by simp at h
 |_::_,[],h=>by simp at h
theorem jV {t:List Int}{as:List Addr}(hne:t≠ []):(HO.lst (t.map V.int))≠ .lst (as.map V.ref):=λe=>by
 have e:t.map V.int=as.map V.ref:=by injection e
 cases t with
 |nil=>exact hne rfl
 |cons x r=>
  cases as with
  |nil=>simp at e
  |cons y s=>simp at e
theorem zK {gs:List (List (List Int))}{u:List Int}(h:u∈gs.flatten):((List.range gs.length).filter λk=>decide (u∈gs.getD k []))[0]? = some (qL gs u):=by
 rw[<-List.head?_eq_getElem?,List.head?_filter,List.find?_range_eq_some]
 obtain⟨g,hg,hu⟩:=cQ.mp h
 have hlt:qL gs u<gs.length:=List.findIdx_lt_length_of_exists ⟨g,hg,bC hu⟩
 refine⟨?_,eB.mpr hlt,λj hj=>?_⟩
 ·have:=List.findIdx_getElem (p:=λg=>decide (u∈g)) (xs:=gs) (w:=hlt)
  rw[aP,ae hlt]
  exact this
 ·have:=List.not_of_lt_findIdx (p:=λg=>decide (u∈g)) (xs:=gs) hj
  have hj2:j<gs.length:=by omega
  rw[aP,ae hj2]
  simpa using this
theorem Bf (t:List Int)(ts:List (List Int)):PyData.eqv (dLI (t::ts)) (.list [])=false:=by simp[dLI,PyData.eqv,PyData.eqvAll]
theorem Ad (m:Int):∀ k:Nat,(fD (m,[]) k).length<=(2*m).toNat
 | 0=>by show(lT m).length<=_;unfold lT;rw[aa,j8];exact aq _
 |k+1=>by
  have e:∀ ts:List (List Int),ts.flatMap (gr (m,[])) = []:=λts=>List.flatMap_eq_nil_iff.mpr λt _=>by
   unfold gr fr jn above below
   simp[srt]
  show((fD (m,[]) k).flatMap (gr (m,[]))).length<=_
  rw[e];exact aM _
theorem gl_none {m:Int}(h1:1<=m)(h2:m<=14):gW (m,[]):=⟨h1,h2,aM _,(λp hp=>by cases hp),List.nodup_nil⟩
theorem mh {R:Nat->Addr->Prop} :∀ (n:Nat),(∀ i,i<n->∃ g,R i g)->∃ gas:List Addr,gas.length=n/\∀ (i:Nat) g,gas[i]? = some g->R i g
 | 0,_=>⟨[],rfl,λi g h=>by simp at h⟩
 |n+1,h=>by
  obtain⟨gas,hl,hr⟩:=mh n λi hi=>h i (by omega)
  obtain⟨g,hg⟩:=h n (by omega)
  refine⟨gas ++ [g],by rw[ah,hl];rfl,λi g' h'=>?_⟩
  by_cases c:i<gas.length
  ·rw[ao c]at h';exact hr i g' h'
  ·have e:i=n:=by
    have:=(af.mp h').1
    rw[ah,bG]at this
    omega
   subst e
   rw[ar (by omega),hl,b8]at h'
   cases h'
   exact hg
structure Aq (G:Hp)(p:Addr)(ps gas uas:List Addr)(j:Nat):Prop where
 at_:G p=some (.lst (ps.map V.ref))
 tup:∀ (i:Nat) a g,ps[i]? = some a->gas[i]? = some g->∃ t:Int,G a=some (.tup [.ref g,.int t])
 grp:∀ (i:Nat) g u,j<=i->gas[i]? = some g->uas[i]? = some u->∃ as:List Addr,G g=some (.lst ((u::as).map V.ref))
 std:∀ u∈uas,∃ ns:List Int,G u=some (.lst (ns.map V.int))/\ns≠ []/\ns.length<=10+j
theorem Aq.step {G:Hp}{p:Addr}{ps gas uas:List Addr}{j:Nat}(M:Aq G p ps gas uas j)(nd:gas.Nodup)(np:∀ g∈gas,g≠p){g u:Addr}{ns:List Int}(hg:gas[j]? = some g)(hu:uas[j]? = some u)(hn:G u=some (.lst (ns.map V.int)))(hne:ns≠ [])(hl:ns.length<=10+j):
  Aq (upd (upd G u (.lst (ns.map V.int ++ [V.int 0]))) g (.lst [])) p ps gas uas (j+1):=by
 obtain⟨as,hga⟩:=M.grp j g u (aq _) hg hu
 have gu:g≠u:=λz=>by rw[z,hn]at hga;exact jV hne (aZ hga)
 have pg:p≠g:=(np g (aA hg)).symm
 have pu:p≠u:=λz=>by have:=M.at_;rw[z,hn]at this;exact jV hne (aZ this)
 refine⟨by rw[fc pg,fc pu];exact M.at_,λi a g' h1 h2=>?_,λi g' u' hi h1 h2=>?_,λu' hu'=>?_⟩
 ·obtain⟨t,ht⟩:=M.tup i a g' h1 h2
  refine⟨t,?_⟩
  rw[fc (λz=>by rw[z,hga]at ht;cases ht),fc (λz=>by rw[z,hn]at ht;cases ht)];exact ht
 ·obtain⟨as',h'⟩:=M.grp i g' u' (by omega) h1 h2
  refine⟨as',?_⟩
  have d1:g'≠g:=λz=>by
   subst z
   obtain⟨l1,e1⟩:=af.mp h1
   obtain⟨l2,e2⟩:=af.mp hg
   have:=(cU nd).mp (e1.trans e2.symm)
   omega
  rw[fc d1,fc (λz=>by rw[z,hn]at h';exact jV hne (aZ h'))];exact h'
 ·obtain⟨ms,h1,h2,h3⟩:=M.std u' hu'
  have d1:u'≠g:=λz=>by rw[z,hga]at h1;exact jV h2 (aZ h1.symm)
  by_cases e:u'=u
  ·subst e
   refine⟨ns ++ [0],by rw[fc d1,eW,aw];rfl,by simp,by rw[ah];show ns.length+1<=_;omega⟩
  ·exact⟨ms,by rw[fc d1,fc e];exact h1,h2,by omega⟩
end TL
namespace K42
open PySem L2 TL PyProof.Rows
abbrev St:=L2.St
def top (i:Nat):Stmt:=PySem.Challenge.pw_turnline_k42_groups_and_twins.main.body.getD i (.Pass ⟨0,0,0,0⟩)
def i9:Sp:=λvs H Q _=>∃ e:Int,vs = [.int e]/\Q (.int (oth e)) H
def wM:Sp:=λvs H Q _=>∃ e:Int,vs = [.int e]/\Q (.int (e/2)) H
def sQ (K:PySem.W.Frag):Sp:=λvs H Q _=>∃ (a:Addr) (ns:List Int) (k:Int),vs = [.ref a,.int k]/\SqL K H a (ns.map V.int)/\0<=k/\∀ c,Q (.int c) H
def sN:Sp:=λvs H Q _=>∃ c k:Int,vs = [.int c,.int k]/\0<=k/\k<=1000/\∀ n,0<=n->n<2147483648->Q (.int n) H
abbrev iU:Stmt:=top 10
theorem sS:fM ["end"] ["end"] (fi iU):=⟨rfl,rfl,rfl,by decide +kernel,rfl,by decide +kernel,by decide +kernel⟩
abbrev kZ:Stmt:=top 11
theorem uA:fM ["end"] ["end"] (fi kZ):=⟨rfl,rfl,rfl,by decide +kernel,rfl,by decide +kernel,by decide +kernel⟩
abbrev iz:Stmt:=top 31
theorem sU:fM ["_law_end"] ["_law_end"] (fi iz):=⟨rfl,rfl,rfl,by decide +kernel,rfl,by decide +kernel,by decide +kernel⟩
abbrev iJ:Stmt:=top 28
theorem qe:fM ["_law_script","_law_k"] ["_law_script","_law_k"] (fi iJ):=⟨rfl,rfl,rfl,by decide +kernel,rfl,by decide +kernel,by decide +kernel⟩
abbrev jS:Stmt:=top 29
theorem j6:fM ["_law_cell","_law_k","_law_again","_law_number"] ["_law_cell","_law_k"] (fi jS):=⟨rfl,rfl,rfl,by decide +kernel,rfl,by decide +kernel,by decide +kernel⟩
section
variable {P:Program}{w:World}{K:PySem.W.Frag}{mg:Str->Option Value}{base:Heap}{f:Addr}{fd:FuncData}{D c1 c2 c3 c4 c5 c6 c7:Addr}
theorem lx (F:Fn K mg "other_end" iU ["end"] f fd):fG P w K mg base CX0 1 f fd ["end"] i9:=by
 refine F.F.ok sS (λvs H Q E h=>?_) (λcdv A outer s H vs Q E hr h=>?_)
 ·obtain⟨e,rfl,_⟩:=h;rfl
 ·obtain⟨e,rfl,k⟩:=h
  refine⟨_,(fh (fP (fq Cu (pv 0) fb))),?_⟩
  refine⟨_,rfl,_,_,rfl,rfl,?_⟩
  show Q (.int (Builtin.bitXor e 1)) H
  rw[Au];exact k
theorem uN (F:Fn K mg "piece_of" kZ ["end"] f fd):fG P w K mg base CX0 1 f fd ["end"] wM:=by
 refine F.F.ok uA (λvs H Q E h=>?_) (λcdv A outer s H vs Q E hr h=>?_)
 ·obtain⟨e,rfl,_⟩:=h;rfl
 ·obtain⟨e,rfl,k⟩:=h
  refine⟨_,(fh (fP (fq iM (pv 0) fb))),?_⟩
  exact⟨_,rfl,_,_,rfl,rfl,⟨by decide,by decide⟩,k⟩
theorem jO (F:Fn K mg "_law_other" iz ["_law_end"] f fd):fG P w K mg base CX0 1 f fd ["_law_end"] i9:=by
 refine F.F.ok sU (λvs H Q E h=>?_) (λcdv A outer s H vs Q E hr h=>?_)
 ·obtain⟨e,rfl,_⟩:=h;rfl
 ·obtain⟨e,rfl,k⟩:=h
  refine⟨_,(fh (fP (fq zh (fq gJ (pv 0) fb) (fq iC fb (fq gI (pv 0) fb))))),?_⟩
  exact⟨_,rfl,_,_,rfl,rfl,_,rfl,_,_,rfl,rfl,by show(0:Int)<2;decide,_,_,rfl,rfl,.inl ⟨by decide,by decide⟩,_,_,rfl,rfl,k⟩
theorem lU (F:Fn K mg "_law_cell_at" iJ ["_law_script","_law_k"] f fd)(B:Bl mg):fG P w K mg base CX0 1 f fd ["_law_script","_law_k"] (sQ K):=by
 refine F.F.ok qe (λvs H Q E h=>?_) (λcdv A outer s H vs Q E hr h=>?_)
 ·obtain⟨a,ns,k,rfl,_⟩:=h;rfl
 ·obtain⟨a,ns,k,rfl,hS,h0,q⟩:=h
  refine⟨_,(eY (ie (gM (qq (pv 1) (fx fR rfl B.len de (eU (pv 0) eX))))
 (fh (fP (gz gh (pv 0) (pv 1) (λ_ _=>rfl)))) gg)
 (fh (fP fb))),?_⟩
  refine⟨_,rfl,_,rfl,a,_,rfl,.inl hS,_,_,rfl,rfl,_,rfl,iE (λhlt=>?_) (λ_=>?_)⟩
  ·have hlt:k<((ns.map V.int).length:Int):=by simpa using hlt
   rw[aa]at hlt
   have hg:(ns.map V.int)[k.toNat]? = some (V.int (ns.getD k.toNat 0)):=by
    rw[aj,aP]
    have:k.toNat<ns.length:=by omega
    simp[this]
   have e1:((k.toNat:Nat):Int)=k:=by omega
   exact⟨_,rfl,_,rfl,a,_,k,_,rfl,rfl,hS,by have h:=kr hg;rw[e1]at h;exact h,q _⟩
  ·exact q _
theorem nH (F:Fn K mg "_law_mix" jS ["_law_cell","_law_k"] f fd)(B:Bl mg):fG P w K mg base CX0 1 f fd ["_law_cell","_law_k"] sN:=by
 refine F.F.ok j6 (λvs H Q E h=>?_) (λcdv A outer s H vs Q E hr h=>?_)
 ·obtain⟨c,k,rfl,_⟩:=h;rfl
 ·obtain⟨c,k,rfl,h0,h1,q⟩:=h
  refine⟨_,(eY (ie (gM (Ef (pv 0) (fq vQ fb fb)))
 (eY (gS bh rfl (jk rfl B.range (eU (pv 1) eX)) (ft (i:=2) j6.nd rfl (Or.inl rfl))
 (fh (fv (i:=0) j6.nd rfl (Or.inl rfl) (fq iM (pv 0) (fq vQ fb fb)))))
 (fh (fP (fq gI (pv 0) (fq vQ fb fb))))) gg)
 (eY (fv (i:=3) j6.nd rfl (Or.inl rfl) (fq gI (fq iC (fq gJ (fq gJ (fq gI (pv 0) fb) (fq iC (fq iC (pv 1) (pv 1)) fb)) (pv 1)) fb) fb))
 (eY (fv (i:=3) j6.nd rfl (Or.inl rfl) (fq gI (fq iC (pv 3) (pv 3)) fb))
 (fh (fP (fq iM (fq gI (fq iC (pv 3) (fq gJ (pv 3) fb)) fb) fb)))))),?_⟩
  refine⟨_,rfl,_,_,rfl,rfl,⟨by decide,by decide,by decide⟩,_,_,rfl,rfl,_,rfl,iE (λhlt=>?_) (λ_=>?_)⟩
  ·refine⟨_,rfl,_,rfl,by omega,by omega,oW (λi σ H2=>H2=H/\∃ (c:Int) (x:Option V),σ = [some (.int c),some (.int k),x,none]) ⟨rfl,c,none,rfl⟩ ?_ ?_⟩
   ·rintro i σ H2 hi ⟨rfl,c,x,rfl⟩
    exact⟨_,rfl,_,_,rfl,rfl,⟨by decide,by decide,by decide⟩,_,_,rfl,rfl,⟨by decide,by decide⟩,rfl,_,_,rfl⟩
   ·rintro σ H2 ⟨rfl,c,x,rfl⟩
    refine⟨_,rfl,_,_,rfl,rfl,⟨by decide,by decide,by decide⟩,_,_,rfl,rfl,(by show(0:Int)<_;decide),q _ ?_ ?_⟩
    ·show 0<=c%(10 ^ 6);omega
    ·show c%(10 ^ 6)<_;omega
  ·refine⟨_,rfl,_,_,rfl,rfl,(by show(0:Int)<_;decide),_,rfl,_,rfl,_,_,rfl,rfl,.inl ⟨by omega,by omega⟩,_,_,rfl,rfl,.inr ⟨by decide,by decide⟩,_,_,rfl,rfl,_,rfl,_,_,rfl,rfl,_,_,rfl,rfl,.inr ⟨by decide,by decide⟩,_,_,rfl,rfl,(by show(0:Int)<_;decide),?_⟩
   dsimp only
   generalize hn:(c%1000003+k*k*7919+k)*48271%2147483629=n
   have n0:0<=n:=by omega
   have n1:n<2147483629:=by omega
   refine⟨_,rfl,_,rfl,_,_,rfl,rfl,.inl ⟨by omega,by omega⟩,_,_,rfl,rfl,(by show(0:Int)<_;decide),?_⟩
   dsimp only
   generalize hm:n*n%2147483587=m
   have m0:0<=m:=by omega
   have m1:m<2147483587:=by omega
   refine⟨_,rfl,_,rfl,_,_,rfl,rfl,_,_,rfl,rfl,.inl ⟨by omega,by omega⟩,_,_,rfl,rfl,(by show(0:Int)<_;decide),_,_,rfl,rfl,⟨by decide,by decide⟩,q _ ?_ ?_⟩
   ·show 0<=m*(m+2)%2147483579/7;omega
   ·show m*(m+2)%2147483579/7<_;omega
end
theorem fH {n:Nat}(h:n<=1000):n<sizeLine:=er h (by decide)
theorem ot {K:PySem.W.Frag}{H:Hp}{js:List (Int×Int)}{vs:List V}(h:Das K H (js.map dP) vs):vs.length=js.length:=by rw[Dgs.length h,aa]
theorem oZ {l:Int×List (Int×Int)}(h:fz l)(e:Int):(below l.2 e).length+(above l.2 e).length<=160:=h.inc e
def kG (K:PySem.W.Frag):Sp:=λvs H Q _=>∃ (v:V) (l:Int×List (Int×Int)) (e:Int),vs = [v,.int e]/\Da K H (dL l) v/\fz l/\ud H (jn l.2 e) Q
def nV (K:PySem.W.Frag):Sp:=λvs H Q _=>∃ (v:V) (ns:List Int),vs = [v]/\Da K H (dI ns) v/\ns.length<=1000/\ud H (ns.reverse.map oth) Q
def sP (K:PySem.W.Frag):Sp:=λvs H Q _=>∃ (v u:V) (l:Int×List (Int×Int)) (ns:List Int) (e:Int),vs = [v,u,.int e]/\Da K H (dL l) v/\Da K H (dI ns) u/\fz l/\ns.length<=1000/\ud H (fr l ns e) Q
def nW (K:PySem.W.Frag):Sp:=λvs H Q _=>∃ (v u:V) (l:Int×List (Int×Int)) (ns:List Int),vs = [v,u]/\Da K H (dL l) v/\Da K H (dI ns) u/\fz l/\ns≠ []/\ns.length<=900/\Ap K H (mvs l ns) Q
abbrev kH:Stmt:=top 12
theorem mO:fM ["line","end","joints","above","below"] ["line","end"] (fi kH):=⟨rfl,rfl,rfl,by decide +kernel,rfl,by decide +kernel,by decide +kernel⟩
theorem mr:gG (fi kH) ["line","end","joints","above","below"] {kind:=.function,names:=[(Str.ofString ".0",.local),(Str.ofString "low",.local),(Str.ofString "high",.local),(Str.ofString "end",.free)],isGenerator:=false,isCoroutine:=false,more:=[]} ["low","high","end"] 2 [none,none,some 1]:=⟨rfl,by decide +kernel,by decide +kernel,by decide +kernel,rfl,by decide +kernel,rfl,by decide +kernel⟩
theorem mq:gG (fi kH) ["line","end","joints","above","below"] {kind:=.function,names:=[(Str.ofString ".0",.local),(Str.ofString "low",.local),(Str.ofString "high",.local),(Str.ofString "end",.free)],isGenerator:=false,isCoroutine:=false,more:=[]} ["low","high","end"] 2 [none,none,some 1]:=⟨rfl,by decide +kernel,by decide +kernel,by decide +kernel,rfl,by decide +kernel,rfl,by decide +kernel⟩
abbrev hX:Stmt:=top 32
theorem rn:fM ["_law_line_here","_law_end"] ["_law_line_here","_law_end"] (fi hX):=⟨rfl,rfl,rfl,by decide +kernel,rfl,by decide +kernel,by decide +kernel⟩
theorem jI:gG (fi hX) ["_law_line_here","_law_end"] {kind:=.function,names:=[(Str.ofString ".0",.local),(Str.ofString "_law_a",.local),(Str.ofString "_law_b",.local),(Str.ofString "_law_end",.free)],isGenerator:=false,isCoroutine:=false,more:=[]} ["_law_a","_law_b","_law_end"] 2 [none,none,some 1]:=⟨rfl,by decide +kernel,by decide +kernel,by decide +kernel,rfl,by decide +kernel,rfl,by decide +kernel⟩
theorem jH:gG (fi hX) ["_law_line_here","_law_end"] {kind:=.function,names:=[(Str.ofString ".0",.local),(Str.ofString "_law_a",.local),(Str.ofString "_law_b",.local),(Str.ofString "_law_end",.free)],isGenerator:=false,isCoroutine:=false,more:=[]} ["_law_a","_law_b","_law_end"] 2 [none,none,some 1]:=⟨rfl,by decide +kernel,by decide +kernel,by decide +kernel,rfl,by decide +kernel,rfl,by decide +kernel⟩
abbrev lP:Stmt:=top 14
theorem xO:fM ["train"] ["train"] (fi lP):=⟨rfl,rfl,rfl,by decide +kernel,rfl,by decide +kernel,by decide +kernel⟩
theorem pA:gG (fi lP) ["train"] {kind:=.function,names:=[(Str.ofString ".0",.local),(Str.ofString "end",.local),(Str.ofString "other_end",.globalImplicit)],isGenerator:=false,isCoroutine:=false,more:=[]} ["end"] 1 [none]:=⟨rfl,by decide +kernel,by decide +kernel,by decide +kernel,rfl,by decide +kernel,rfl,by decide +kernel⟩
abbrev iA:Stmt:=top 15
theorem nX:fM ["line","train","end","pieces"] ["line","train","end"] (fi iA):=⟨rfl,rfl,rfl,by decide +kernel,rfl,by decide +kernel,by decide +kernel⟩
theorem mw:gG (fi iA) ["line","train","end","pieces"] {kind:=.function,names:=[(Str.ofString ".0",.local),(Str.ofString "own",.local),(Str.ofString "piece_of",.globalImplicit)],isGenerator:=false,isCoroutine:=false,more:=[]} ["own"] 1 [none]:=⟨rfl,by decide +kernel,by decide +kernel,by decide +kernel,rfl,by decide +kernel,rfl,by decide +kernel⟩
theorem mv:gG (fi iA) ["line","train","end","pieces"] {kind:=.function,names:=[(Str.ofString ".0",.local),(Str.ofString "there",.local),(Str.ofString "piece_of",.globalImplicit),(Str.ofString "pieces",.free)],isGenerator:=false,isCoroutine:=false,more:=[]} ["there","pieces"] 1 [none,some 3]:=⟨rfl,by decide +kernel,by decide +kernel,by decide +kernel,rfl,by decide +kernel,rfl,by decide +kernel⟩
abbrev lh:Stmt:=top 16
theorem kj:fM ["line","train","told","end"] ["line","train"] (fi lh):=⟨rfl,rfl,rfl,by decide +kernel,rfl,by decide +kernel,by decide +kernel⟩
abbrev jB:Stmt:=top 37
theorem jd:fM ["_law_line_here","_law_train","_law_end","_law_pieces","_law_found"] ["_law_line_here","_law_train"] (fi jB):=⟨rfl,rfl,rfl,by decide +kernel,rfl,by decide +kernel,by decide +kernel⟩
theorem mn:gG (fi jB) ["_law_line_here","_law_train","_law_end","_law_pieces","_law_found"] {kind:=.function,names:=[(Str.ofString ".0",.local),(Str.ofString "_law_end",.local)],isGenerator:=false,isCoroutine:=false,more:=[]} ["_law_end"] 1 [none]:=⟨rfl,by decide +kernel,by decide +kernel,by decide +kernel,rfl,by decide +kernel,rfl,by decide +kernel⟩
section
variable {P:Program}{w:World}{K:PySem.W.Frag}{mg:Str->Option Value}{base:Heap}{f:Addr}{fd:FuncData}{D c1 c2 c3 c4 c5 c6 c7:Addr}
theorem yb (F:Fn K mg "joined" kH ["line","end"] f fd)(B:Bl mg):fG P w K mg base CX0 1 f fd ["line","end"] (kG K):=by
 refine F.F.ok mO (λvs H Q E h=>?_) (λcdv A outer s H vs Q E hr h=>?_)
 ·obtain⟨v,l,e,rfl,_⟩:=h;rfl
 ·obtain⟨v,l,e,rfl,hv,ok,k⟩:=h
  obtain⟨a,b,rfl,ht,us,hl,hq⟩:=mZ hv
  have hlen:=ot hq
  have hz:us.length<sizeLine:=fH (by rw[hlen];have:=ok.len;omega)
  refine⟨_,(eY (fv (i:=2) mO.nd rfl (Or.inl rfl) (gz kD (pv 0) fb (λ_ _=>rfl)))
 (eY (qk (i:=3) mO.nd rfl rfl (fU (pv 2)) rfl mr (.tup (.cons (.name (by decide)) (.cons (.name (by decide)) .nil))) (λ_ _ _ _=>(jE (n:=2) rfl (fQ (ft (i:=0) mr.nd rfl (Or.inl rfl)) (fQ (ft (i:=1) mr.nd rfl (Or.inl rfl)) iL)))) (λ_ _ _ _=>(j9 (gM (ky (pv 0) (pv 2))))) (λ_ _ _ _=>(pv 1)))
 (eY (qk (i:=4) mO.nd rfl rfl (fU (pv 2)) rfl mq (.tup (.cons (.name (by decide)) (.cons (.name (by decide)) .nil))) (λ_ _ _ _=>(jE (n:=2) rfl (fQ (ft (i:=0) mq.nd rfl (Or.inl rfl)) (fQ (ft (i:=1) mq.nd rfl (Or.inl rfl)) iL)))) (λ_ _ _ _=>(j9 (gM (ky (pv 1) (pv 2))))) (λ_ _ _ _=>(pv 0)))
 (fh (fP (fx (oC rfl) rfl B.sorted boot_sorted (eU (fq kz (pv 4) (pv 3)) eX))))))),?_⟩
  refine⟨_,rfl,a,_,_,_,rfl,rfl,ht,rfl,?_⟩
  refine⟨_,rfl,b,rfl,⟨us,hl⟩,λl1 n1=>jP l.2 (λp=>decide (p.1=e)) (λp=>V.int p.2) n1 hl hlen hz ?_ ?_⟩
  ·intro i x d H' hx hd sm P1 P0 k1 k0
   obtain⟨ad,p,e1,rfl,hp⟩:=mf (Das.same sm hq) hx
   rw[hd]at e1;cases e1
   refine⟨ad,_,rfl,hp,rfl,_,_,rfl,_,_,rfl,rfl,_,rfl,_,rfl,_,_,rfl,rfl,_,rfl,iE (λh=>⟨_,rfl,k1 h⟩) (λh=>k0 (by simpa using h))⟩
  have s1:fg H (upd H l1 (.lst (above l.2 e |>.map V.int))):=eV n1
  have e1:((l.2.filter λp=>decide (p.1=e)).map λp=>V.int p.2)=(above l.2 e).map V.int:=by unfold above;rw[bP];rfl
  rw[e1]
  refine⟨_,rfl,b,rfl,⟨us,s1.seq hl⟩,λl2 n2=>jP l.2 (λp=>decide (p.2=e)) (λp=>V.int p.1) n2 (s1.seq hl) hlen hz ?_ ?_⟩
  ·intro i x d H' hx hd sm P1 P0 k1 k0
   obtain⟨ad,p,e1,rfl,hp⟩:=mf (Das.same (s1.trans sm) hq) hx
   rw[hd]at e1;cases e1
   refine⟨ad,_,rfl,hp,rfl,_,_,rfl,_,_,rfl,rfl,_,rfl,_,rfl,_,_,rfl,rfl,_,rfl,iE (λh=>⟨_,rfl,k1 h⟩) (λh=>k0 (by simpa using h))⟩
  have e2:((l.2.filter λp=>decide (p.2=e)).map λp=>V.int p.1)=(below l.2 e).map V.int:=by unfold below;rw[bP];rfl
  rw[e2]
  have g1:(upd (upd H l1 (.lst (above l.2 e |>.map V.int))) l2 (.lst (below l.2 e |>.map V.int))) l1=some (.lst (above l.2 e |>.map V.int)):=by
   rw[fc (eZ eW n2),eW]
  have hb:=oZ ok e
  have s2:fg H (upd (upd H l1 (.lst (above l.2 e |>.map V.int))) l2 (.lst (below l.2 e |>.map V.int))):=s1.trans (eV n2)
  refine⟨_,rfl,_,rfl,l2,l1,_,_,rfl,rfl,eW,g1,b9 (fH (by rw[aa,aa];omega)),λp hp=>?_⟩
  refine⟨p,below l.2 e++above l.2 e,rfl,SqL.of (by rw[eW,aw]),(by rw[ah];omega),λp2 hp2=>?_⟩
  refine k p2 _ (s2.trans ((eV hp).trans (eV hp2))) (fg.free (s2.trans (eV hp)) hp2) eW
theorem nk (F:Fn K mg "_law_joined" hX ["_law_line_here","_law_end"] f fd)(B:Bl mg):fG P w K mg base CX0 1 f fd ["_law_line_here","_law_end"] (kG K):=by
 refine F.F.ok rn (λvs H Q E h=>?_) (λcdv A outer s H vs Q E hr h=>?_)
 ·obtain⟨v,l,e,rfl,_⟩:=h;rfl
 ·obtain⟨v,l,e,rfl,hv,ok,k⟩:=h
  obtain⟨a,b,rfl,ht,us,hl,hq⟩:=mZ hv
  have hlen:=ot hq
  have hz:us.length<sizeLine:=fH (by rw[hlen];have:=ok.len;omega)
  refine⟨_,(fh (fP (fx (oC rfl) rfl B.sorted boot_sorted (eU (fq kz (lR (fU (gz kD (pv 0) fb (λ_ _=>rfl))) rfl jI (.tup (.cons (.name (by decide)) (.cons (.name (by decide)) .nil))) (λ_ _ _ _=>(jE (n:=2) rfl (fQ (ft (i:=0) jI.nd rfl (Or.inl rfl)) (fQ (ft (i:=1) jI.nd rfl (Or.inl rfl)) iL)))) (λ_ _ _ _=>(j9 (gM (ky (pv 0) (pv 2))))) (λ_ _ _ _=>(pv 1))) (lR (fU (gz kD (pv 0) fb (λ_ _=>rfl))) rfl jH (.tup (.cons (.name (by decide)) (.cons (.name (by decide)) .nil))) (λ_ _ _ _=>(jE (n:=2) rfl (fQ (ft (i:=0) jH.nd rfl (Or.inl rfl)) (fQ (ft (i:=1) jH.nd rfl (Or.inl rfl)) iL)))) (λ_ _ _ _=>(j9 (gM (ky (pv 1) (pv 2))))) (λ_ _ _ _=>(pv 0)))) eX)))),?_⟩
  refine⟨_,rfl,a,_,_,_,rfl,rfl,ht,rfl,b,rfl,⟨us,hl⟩,λl1 n1=>jP l.2 (λp=>decide (p.1=e)) (λp=>V.int p.2) n1 hl hlen hz ?_ ?_⟩
  ·intro i x d H' hx hd sm P1 P0 k1 k0
   obtain⟨ad,p,e1,rfl,hp⟩:=mf (Das.same sm hq) hx
   rw[hd]at e1;cases e1
   refine⟨ad,_,rfl,hp,rfl,_,_,rfl,_,_,rfl,rfl,_,rfl,_,rfl,_,_,rfl,rfl,_,rfl,iE (λh=>⟨_,rfl,k1 h⟩) (λh=>k0 (by simpa using h))⟩
  have s1:fg H (upd H l1 (.lst (above l.2 e |>.map V.int))):=eV n1
  have e1:((l.2.filter λp=>decide (p.1=e)).map λp=>V.int p.2)=(above l.2 e).map V.int:=by unfold above;rw[bP];rfl
  rw[e1]
  refine⟨_,rfl,a,_,_,_,rfl,rfl,fX s1 ht,rfl,b,rfl,⟨us,s1.seq hl⟩,λl2 n2=>jP l.2 (λp=>decide (p.2=e)) (λp=>V.int p.1) n2 (s1.seq hl) hlen hz ?_ ?_⟩
  ·intro i x d H' hx hd sm P1 P0 k1 k0
   obtain⟨ad,p,e1,rfl,hp⟩:=mf (Das.same (s1.trans sm) hq) hx
   rw[hd]at e1;cases e1
   refine⟨ad,_,rfl,hp,rfl,_,_,rfl,_,_,rfl,rfl,_,rfl,_,rfl,_,_,rfl,rfl,_,rfl,iE (λh=>⟨_,rfl,k1 h⟩) (λh=>k0 (by simpa using h))⟩
  have e2:((l.2.filter λp=>decide (p.2=e)).map λp=>V.int p.1)=(below l.2 e).map V.int:=by unfold below;rw[bP];rfl
  rw[e2]
  have g1:(upd (upd H l1 (.lst (above l.2 e |>.map V.int))) l2 (.lst (below l.2 e |>.map V.int))) l1=some (.lst (above l.2 e |>.map V.int)):=by
   rw[fc (eZ eW n2),eW]
  have hb:=oZ ok e
  have s2:fg H (upd (upd H l1 (.lst (above l.2 e |>.map V.int))) l2 (.lst (below l.2 e |>.map V.int))):=s1.trans (eV n2)
  refine⟨l1,l2,_,_,rfl,rfl,g1,eW,b9 (fH (by rw[aa,aa];omega)),λp hp=>?_⟩
  refine⟨p,above l.2 e++below l.2 e,rfl,SqL.of (by rw[eW,aw]),(by rw[ah];omega),λp2 hp2=>?_⟩
  rw[Ex]
  exact k p2 _ (s2.trans ((eV hp).trans (eV hp2))) (fg.free (s2.trans (eV hp)) hp2) eW
theorem xZ {f1:Addr}{fd1:FuncData}(F:Fn K mg "turned" lP ["train"] f fd)(B:Bl mg)(fE:Fn K mg "other_end" iU ["end"] f1 fd1):fG P w K mg base CX0 2 f fd ["train"] (nV K):=by
 have iX:fG P w K mg base CX0 1 f1 fd1 ["end"] i9:=lx fE
 refine F.F.ok xO (λvs H Q E h=>?_) (λcdv A outer s H vs Q E hr h=>?_)
 ·obtain⟨v,l,rfl,_⟩:=h;rfl
 ·obtain⟨v,ns,rfl,hv,hz,k⟩:=h
  obtain⟨a,rfl,hS⟩:=lF.mp hv
  refine⟨_,(fh (fP (lR (yZ rfl B.reversed (eU (pv 0) eX)) rfl pA (.name (by decide)) (λ_ _ _ _=>(ft (i:=0) pA.nd rfl (Or.inl rfl))) (λ_ _ _ _=>iB) (λ_ _ _ _=>(fo iX (hr.mono (by decide)) rfl fE.m fE.F.kp fE.b .nil fK (eU (pv 0) eX)))))),?_⟩
  refine⟨_,rfl,a,_,rfl,hS,λl1 n1=>zF (zI hS) ns.reverse (λ_=>true) (λe=>V.int (oth e)) n1 (by rw[aa,bg]) (by rw[aa];exact fH hz) ?_ ?_⟩
  ·intro i x d H' hx hd sm P1 P0 k1 k0
   rw[<-cR,aj,hd]at hx
   cases hx
   refine iD ?_
   exact⟨_,rfl,d,rfl,k1 rfl⟩
  rw[kM]
  refine k l1 _ (eV n1) n1 ?_
  rw[eW,bP];rfl
theorem tJ {f1 f2:Addr}{fd1 fd2:FuncData}(F:Fn K mg "free_ends" iA ["line","train","end"] f fd)(B:Bl mg)(ic:Fn K mg "piece_of" kZ ["end"] f1 fd1)(kW:Fn K mg "joined" kH ["line","end"] f2 fd2):
  fG P w K mg base CX0 2 f fd ["line","train","end"] (sP K):=by
 have rf:fG P w K mg base CX0 1 f1 fd1 ["end"] wM:=uN ic
 have Ar:fG P w K mg base CX0 1 f2 fd2 ["line","end"] (kG K):=yb kW B
 refine F.F.ok nX (λvs H Q E h=>?_) (λcdv A outer s H vs Q E hr h=>?_)
 ·obtain⟨v,u,l,ns,e,rfl,_⟩:=h;rfl
 ·obtain⟨v,u,l,ns,e,rfl,hv,hu,ok,hz,k⟩:=h
  obtain⟨a,rfl,hS⟩:=lF.mp hu
  refine⟨_,(eY (fv (i:=3) nX.nd rfl (Or.inr rfl) (lR (fU (pv 1)) rfl mw (.name (by decide)) (λ_ _ _ _=>(ft (i:=0) mw.nd rfl (Or.inl rfl))) (λ_ _ _ _=>iB) (λ_ _ _ _=>(fo rf (hr.mono (by decide)) rfl ic.m ic.F.kp ic.b .nil fK (eU (pv 0) eX)))))
 (fh (fP (lR (fU (fo Ar (hr.mono (by decide)) rfl kW.m kW.F.kp kW.b .nil fK (eU (pv 0) (eU (pv 2) eX)))) rfl mv (.name (by decide)) (λ_ _ _ _=>(ft (i:=0) mv.nd rfl (Or.inl rfl))) (λ_ _ _ _=>(j9 (iu (qw (K:=K) rfl hr.units) (fo rf (hr.mono (by decide)) rfl ic.m ic.F.kp ic.b .nil fK (eU (pv 0) eX)) (pv 1) (by with_unfolding_all rfl)))) (λ_ _ _ _=>(pv 0)))))),?_⟩
  refine⟨_,rfl,a,rfl,⟨_,hS⟩,λl1 n1=>jP ns (λ_=>true) (λe=>V.int (e/2)) n1 hS (by rw[aa]) (by rw[aa];exact fH hz) ?_ ?_⟩
  ·intro i x d H' hx hd sm P1 P0 k1 k0
   rw[aj,hd]at hx
   cases hx
   refine iD ?_
   exact⟨_,rfl,d,rfl,k1 rfl⟩
  rw[kM]
  have e1:(ns.map λe=>V.int (e/2))=(ns.map (· / 2)).map V.int:=by rw[bP];rfl
  rw[e1]
  have s1:fg H (upd H l1 (.lst ((ns.map (· / 2)).map V.int))):=eV n1
  refine⟨_,rfl,_,rfl,v,l,e,rfl,Da.same s1 hv,ok,λp H2 s2 hp hp2=>⟨p,rfl,⟨_,SqL.of hp2⟩,λl2 n2=>jP (jn l.2 e) (λt=> !decide (t/2∈ns.map (· / 2))) (λt=>V.int t) n2 (SqL.of hp2) (by rw[aa]) ?_ ?_ ?_⟩⟩
  ·rw[aa]
   refine fH ?_
   unfold jn
   rw[nF,ah]
   have:=oZ ok e
   omega
  ·intro i x d H' hx hd sm P1 P0 k1 k0
   rw[aj,hd]at hx
   cases hx
   have hD:Da K H' (.list ((ns.map (· / 2)).map .int)) (.ref l1):=Da.same (s2.trans sm) (jo eW)
   refine⟨_,rfl,d,rfl,_,rfl,_,.int (d/2),hD,iq.mpr rfl,tK _,pP _,_,rfl,?_⟩
   rw[xu]
   exact iE (λh=>⟨_,rfl,k1 h⟩) (λh=>k0 (by simpa using h))
  exact k l2 _ ((s1.trans s2).trans (eV n2)) (fg.free (s1.trans s2) n2) eW
theorem uO {f1 f2:Addr}{fd1 fd2:FuncData}(F:Fn K mg "moves_of" lh ["line","train"] f fd)(fE:Fn K mg "other_end" iU ["end"] f1 fd1)(fW:Fn K mg "free_ends" iA ["line","train","end"] f2 fd2)
  (iF:fG P w K mg base CX0 2 f2 fd2 ["line","train","end"] (sP K)):fG P w K mg base CX0 3 f fd ["line","train"] (nW K):=by
 have iX:fG P w K mg base CX0 1 f1 fd1 ["end"] i9:=lx fE
 refine F.F.ok kj (λvs H Q E h=>?_) (λcdv A outer s H vs Q E hr h=>?_)
 ·obtain⟨v,u,l,ns,rfl,_⟩:=h;rfl
 ·obtain⟨v,u,l,ns,rfl,hv,hu,ok,hne,hz,k⟩:=h
  obtain⟨a,rfl,hS⟩:=lF.mp hu
  refine⟨_,(eY (fv (i:=2) kj.nd rfl (Or.inl rfl) (fS eX))
 (eY (gS bh rfl (fU (fo iF (hr.mono (by decide)) rfl fW.m fW.F.kp fW.b .nil fK (eU (pv 0) (eU (pv 1) (eU (fo iX (hr.mono (by decide)) rfl fE.m fE.F.kp fE.b .nil fK (eU (gz gh (pv 1) (qp nC fb) (λ_ _=>rfl)) eX)) eX))))) (ft (i:=3) kj.nd rfl (Or.inl rfl))
 (fh (gv (iV aF aR aQ gk (pv 2) (eU (gR (eU (gR (eU iP (eU (pv 3) eX))) (eU (fq kz (oa pM (pv 1) (n8 fb) pN) (fS (eU (pv 3) eX))) eX))) eX)))))
 (eY (gS bh rfl (fU (fo iF (hr.mono (by decide)) rfl fW.m fW.F.kp fW.b .nil fK (eU (pv 0) (eU (pv 1) (eU (gz gh (pv 1) fb (λ_ _=>rfl)) eX))))) (ft (i:=3) kj.nd rfl (Or.inl rfl))
 (fh (gv (iV aF aR aQ gk (pv 2) (eU (gR (eU (gR (eU iP (eU (pv 3) eX))) (eU (fq kz (fS (eU (fo iX (hr.mono (by decide)) rfl fE.m fE.F.kp fE.b .nil fK (eU (pv 3) eX)) eX)) (oa pM (pv 1) pN (n8 (qp nC fb)))) eX))) eX)))))
 (fh (fP (pv 2)))))),?_⟩
  refine⟨aM _,λt ht=>?_⟩
  have s1:fg H (upd H t (.lst [])):=eV ht
  refine⟨_,rfl,_,rfl,_,rfl,_,rfl,a,_,_,_,rfl,rfl,s1.seq hS,pT hne,_,rfl,v,_,l,ns,_,rfl,Da.same s1 hv,Da.same s1 hu,ok,by omega,λp H2 s2 hp hp2=>?_⟩
  have nt:p≠t:=(eZ eW hp).symm
  have HG:=qO ok ns (oth (ns.getLastD 0))
  have HH:=qO ok ns (ns.headD 0)
  refine⟨p,rfl,⟨_,SqL.of hp2⟩,gB (K:=K) (a:=p) (xs:=(fr l ns (oth (ns.getLastD 0))).map V.int) (λi σ H3=>∃ (vs:List V) (x:Option V),σ = [some v,some (.ref a),some (.ref t),x]/\fg H H3/\H3 p=some (.lst ((fr l ns (oth (ns.getLastD 0))).map V.int))/\H3 t=some (.lst vs)/\
    Dgs (Lf H H3 t) (SqT K H3) ((((fr l ns (oth (ns.getLastD 0))).take i).map (onM ns)).map dMv) vs)
   ⟨[],none,rfl,s1.trans s2,hp2,s2 _ _ eW,fV.mpr rfl⟩ (λi σ H3 _ ⟨_,_,_,_,h,_⟩=>SqL.of h) ?_ ?_⟩
  ·rintro i y σ H3 N R B kN _ hi ⟨vs,x,rfl,S3,hp3,ht3,D⟩
   rw[aj]at hi
   cases q:(fr l ns (oth (ns.getLastD 0)))[i]? with
   |none=>rw[q]at hi;cases hi
   |some e=>
    rw[q]at hi
    cases hi
    have hil:i<(fr l ns (oth (ns.getLastD 0))).length:=(af.mp q).1
    refine⟨_,rfl,.inl ⟨rfl,_,SqL.of ht3⟩,_,rfl,by show 2<=sizeLine;decide,λp1 n1=>?_⟩
    refine⟨_,rfl,_,rfl,a,_,rfl,(S3.trans (eV n1)).seq hS,λp2 n2=>?_⟩
    refine⟨_,rfl,by show 1<=sizeLine;decide,λp3 n3=>?_⟩
    rw[vp]at n3 ⊢
    refine⟨p2,p3,_,_,rfl,rfl,by rw[fc (eZ eW n3),eW],eW,?_,λp4 n4=>?_⟩
    ·refine b9 (fH ?_)
     rw[aa,cS]
     show ns.length-1+1<=1000
     omega
    refine⟨by show 2<=sizeLine;decide,λp5 n5=>?_⟩
    have S5:fg H3 _:=(eV n1).trans ((eV n2).trans ((eV n3).trans ((eV n4).trans (eV (o:=.tup [.ref p1,.ref p4]) n5))))
    have lv:vs.length<=160:=by rw[D.length,aa,aa,bB];omega
    refine⟨t,vs,_,rfl,rfl,S5 _ _ ht3,fH (by omega),?_⟩
    have g1:fg (upd H3 p1 (.tup [.str "on",.int e])) _:=(eV n2).trans ((eV n3).trans ((eV n4).trans (eV (o:=.tup [.ref p1,.ref p4]) n5)))
    have:=mS (w:= "on") (e:=e) (xs:=ns.drop 1 ++ [e]) S3 ht ht3 D S5 (g1 _ _ eW) (fg.free ((eV n1).trans ((eV n2).trans (eV n3))) n4) (by rw[fc (eZ eW n5),eW,aw];rfl) eW
    obtain⟨r1,r2,r3⟩:=this
    refine kN _ _ ⟨_,_,rfl,r1,?_,r2,?_⟩
    ·rw[fc nt];exact S5 _ _ hp3
    ·rw[ni (onM ns) _ i e q];exact r3
  rintro σ H3 ⟨vs,x,rfl,S3,hp3,ht3,D⟩
  rw[aa,bA]at D
  refine⟨_,rfl,_,rfl,_,rfl,a,_,_,_,rfl,rfl,S3.seq hS,vD hne,v,_,l,ns,_,rfl,Da.same S3 hv,Da.same S3 hu,ok,by omega,λp' H4 s4 hp' hp4=>?_⟩
  have nt':p'≠t:=(eZ ht3 hp').symm
  have D4:Dgs (Lf H H4 t) (SqT K H4) (((fr l ns (oth (ns.getLastD 0))).map (onM ns)).map dMv) vs:=Dgs.mono (λa us ⟨h1,h2,h3⟩=>⟨s4 _ _ h1,h2,h3⟩) (λa us h=>fX s4 h) D
  refine⟨p',rfl,⟨_,SqL.of hp4⟩,gB (K:=K) (a:=p') (xs:=(fr l ns (ns.headD 0)).map V.int) (λi σ H3=>∃ (vs:List V) (x:Option V),σ = [some v,some (.ref a),some (.ref t),x]/\fg H H3/\H3 p'=some (.lst ((fr l ns (ns.headD 0)).map V.int))/\H3 t=some (.lst vs)/\
    Dgs (Lf H H3 t) (SqT K H3) (((fr l ns (oth (ns.getLastD 0))).map (onM ns)++((fr l ns (ns.headD 0)).take i).map (oD ns)).map dMv) vs)
   ⟨vs,x,rfl,S3.trans s4,hp4,s4 _ _ ht3,by simpa using D4⟩ (λi σ H3 _ ⟨_,_,_,_,h,_⟩=>SqL.of h) ?_ ?_⟩
  ·rintro i y σ H3 N R B kN _ hi ⟨vs,x,rfl,S3,hp3,ht3,D⟩
   rw[aj]at hi
   cases q:(fr l ns (ns.headD 0))[i]? with
   |none=>rw[q]at hi;cases hi
   |some e=>
    rw[q]at hi
    cases hi
    have hil:i<(fr l ns (ns.headD 0)).length:=(af.mp q).1
    refine⟨_,rfl,.inl ⟨rfl,_,SqL.of ht3⟩,_,rfl,by show 2<=sizeLine;decide,λp1 n1=>?_⟩
    refine⟨_,rfl,e,rfl,by show 1<=sizeLine;decide,λp2 n2=>?_⟩
    refine⟨_,rfl,_,rfl,_,rfl,a,_,rfl,(S3.trans ((eV n1).trans (eV n2))).seq hS,λp3 n3=>?_⟩
    have ec:ou (ns.map V.int) none (some (-1))=ns.dropLast.map V.int:=vq ns
    refine⟨p2,p3,_,_,rfl,rfl,by rw[fc (eZ eW n3),eW],eW,?_,λp4 n4=>?_⟩
    ·refine b9 (fH ?_)
     show 1+(ou (ns.map V.int) none (some (-1))).length<=1000
     rw[ec,aa,cm]
     omega
    refine⟨by show 2<=sizeLine;decide,λp5 n5=>?_⟩
    have S5:fg H3 _:=(eV n1).trans ((eV n2).trans ((eV n3).trans ((eV n4).trans (eV (o:=.tup [.ref p1,.ref p4]) n5))))
    have lv:vs.length<=320:=by rw[D.length,aa,ah,aa,aa,bB];omega
    refine⟨t,vs,_,rfl,rfl,S5 _ _ ht3,fH (by omega),?_⟩
    have g1:fg (upd H3 p1 (.tup [.str "back",.int e])) _:=(eV n2).trans ((eV n3).trans ((eV n4).trans (eV (o:=.tup [.ref p1,.ref p4]) n5)))
    have:=mS (w:= "back") (e:=e) (xs:=oth e::ns.dropLast) S3 ht ht3 D S5 (g1 _ _ eW) (fg.free ((eV n1).trans ((eV n2).trans (eV n3))) n4) (by
     rw[fc (eZ eW n5),eW]
     show some (HO.lst ([V.int (oth e)]++ou (ns.map V.int) none (some (-1))))=_
     rw[ec];rfl) eW
    obtain⟨r1,r2,r3⟩:=this
    refine kN _ _ ⟨_,_,rfl,r1,?_,r2,?_⟩
    ·rw[fc nt'];exact S5 _ _ hp3
    ·rw[ni (oD ns) _ i e q,<-aN];exact r3
  rintro σ H3 ⟨vs,x,rfl,S3,hp3,ht3,D⟩
  rw[aa,bA]at D
  exact⟨_,rfl,k t vs H3 S3 ht ht3 D⟩
theorem tI {f1 f2:Addr}{fd1 fd2:FuncData}(F:Fn K mg "_law_moves" jB ["_law_line_here","_law_train"] f fd)(fw:Fn K mg "_law_other" iz ["_law_end"] f1 fd1)(fO:Fn K mg "_law_joined" hX ["_law_line_here","_law_end"] f2 fd2)
  (B:Bl mg):fG P w K mg base CX0 2 f fd ["_law_line_here","_law_train"] (nW K):=by
 have hV:fG P w K mg base CX0 1 f1 fd1 ["_law_end"] i9:=jO fw
 have jQ:fG P w K mg base CX0 1 f2 fd2 ["_law_line_here","_law_end"] (kG K):=nk fO B
 refine F.F.ok jd (λvs H Q E h=>?_) (λcdv A outer s H vs Q E hr h=>?_)
 ·obtain⟨v,u,l,ns,rfl,_⟩:=h;rfl
 ·obtain⟨v,u,l,ns,rfl,hv,hu,ok,hne,hz,k⟩:=h
  obtain⟨a,rfl,hS⟩:=lF.mp hu
  refine⟨_,(eY (qk (i:=3) jd.nd rfl rfl (fU (pv 1)) rfl mn (.name (by decide)) (λ_ _ _ _=>(ft (i:=0) mn.nd rfl (Or.inl rfl))) (λ_ _ _ _=>iB) (λ_ _ _ _=>(fq iM (pv 0) fb)))
 (eY (fv (i:=4) jd.nd rfl (Or.inl rfl) (fS eX))
 (eY (gS bh rfl (fU (fo jQ (hr.mono (by decide)) rfl fO.m fO.F.kp fO.b .nil fK (eU (pv 0) (eU (fo hV (hr.mono (by decide)) rfl fw.m fw.F.kp fw.b .nil fK (eU (gz gh (pv 1) (qp nC fb) (λ_ _=>rfl)) eX)) eX)))) (ft (i:=2) jd.nd rfl (Or.inl rfl))
 (fh (ie (iu (kJ hr.units) (fq iM (pv 2) fb) (pv 3) (by with_unfolding_all rfl))
 (fh (gv (iV aF aR aQ gk (pv 4) (eU (gR (eU (gR (eU iP (eU (pv 2) eX))) (eU (fq kz (oa pM (pv 1) (n8 fb) pN) (fS (eU (pv 2) eX))) eX))) eX)))) gg)))
 (eY (gS bh rfl (fU (fo jQ (hr.mono (by decide)) rfl fO.m fO.F.kp fO.b .nil fK (eU (pv 0) (eU (gz gh (pv 1) fb (λ_ _=>rfl)) eX)))) (ft (i:=2) jd.nd rfl (Or.inl rfl))
 (fh (ie (iu (kJ hr.units) (fq iM (pv 2) fb) (pv 3) (by with_unfolding_all rfl))
 (fh (gv (iV aF aR aQ gk (pv 4) (eU (gR (eU (gR (eU iP (eU (pv 2) eX))) (eU (fq kz (fS (eU (fo hV (hr.mono (by decide)) rfl fw.m fw.F.kp fw.b .nil fK (eU (pv 2) eX)) eX)) (oa pM (pv 1) pN (n8 (qp nC fb)))) eX))) eX)))) gg)))
 (fh (fP (pv 4))))))),?_⟩
  refine⟨_,rfl,a,rfl,⟨_,hS⟩,λpc n0=>jP ns (λ_=>true) (λe=>V.int (e/2)) n0 hS (by rw[aa]) (by rw[aa];exact fH (by omega)) ?_ ?_⟩
  ·intro i x d H' hx hd sm P1 P0 k1 k0
   rw[aj,hd]at hx
   cases hx
   refine iD ?_
   exact⟨_,rfl,_,_,rfl,rfl,⟨by decide,by decide⟩,k1 rfl⟩
  rw[kM]
  have e1:(ns.map λe=>V.int (e/2))=(ns.map (· / 2)).map V.int:=by rw[bP];rfl
  rw[e1]
  have s0:fg H (upd H pc (.lst ((ns.map (· / 2)).map V.int))):=eV n0
  have hpc:(upd H pc (.lst ((ns.map (· / 2)).map V.int))) pc=some (.lst ((ns.map (· / 2)).map V.int)):=eW
  generalize hH0:upd H pc (.lst ((ns.map (· / 2)).map V.int))=H0 at s0 hpc
  refine⟨aM _,λt ht=>?_⟩
  have s1:fg H0 (upd H0 t (.lst [])):=eV ht
  have S1:fg H (upd H0 t (.lst [])):=s0.trans s1
  refine⟨_,rfl,_,rfl,_,rfl,a,_,_,_,rfl,rfl,S1.seq hS,pT hne,_,rfl,v,l,_,rfl,Da.same S1 hv,ok,λp H2 s2 hp hp2=>?_⟩
  have nt:p≠t:=(eZ eW hp).symm
  have HG:=tS ok (oth (ns.getLastD 0))
  have HH:=tS ok (ns.headD 0)
  refine⟨p,rfl,⟨_,SqL.of hp2⟩,gB (K:=K) (a:=p) (xs:=(jn l.2 (oth (ns.getLastD 0))).map V.int) (λi σ H3=>∃ (vs:List V) (x:Option V),σ = [some v,some (.ref a),x,some (.ref pc),some (.ref t)]/\fg H0 H3/\H3 p=some (.lst ((jn l.2 (oth (ns.getLastD 0))).map V.int))/\H3 t=some (.lst vs)/\
    Dgs (Lf H0 H3 t) (SqT K H3) (((((jn l.2 (oth (ns.getLastD 0))).take i).filter λt=> !decide (t/2∈ns.map (· / 2))).map (onM ns)).map dMv) vs)
   ⟨[],none,rfl,s1.trans s2,hp2,s2 _ _ eW,fV.mpr rfl⟩ (λi σ H3 _ ⟨_,_,_,_,h,_⟩=>SqL.of h) ?_ ?_⟩
  ·rintro i y σ H3 N R B kN _ hi ⟨vs,x,rfl,S3,hp3,ht3,D⟩
   rw[aj]at hi
   cases q:(jn l.2 (oth (ns.getLastD 0)))[i]? with
   |none=>rw[q]at hi;cases hi
   |some e=>
    rw[q]at hi
    cases hi
    have hil:i<(jn l.2 (oth (ns.getLastD 0))).length:=(af.mp q).1
    have st:=take_succ_filter (λt=> !decide (t/2∈ns.map (· / 2))) _ i e q
    refine⟨_,rfl,_,_,rfl,rfl,⟨by decide,by decide⟩,_,rfl,_,.int (e/2),jo (S3 _ _ hpc),iq.mpr rfl,tK _,pP _,_,rfl,?_⟩
    rw[xu]
    refine iE (c:=(!decide (e/2∈ns.map (· / 2)))=true) (λhc=>?_) (λhc=>?_)
    ·refine⟨_,rfl,.inl ⟨rfl,_,SqL.of ht3⟩,_,rfl,by show 2<=sizeLine;decide,λp1 n1=>?_⟩
     refine⟨_,rfl,_,rfl,a,_,rfl,((s0.trans S3).trans (eV n1)).seq hS,λp2 n2=>?_⟩
     refine⟨_,rfl,by show 1<=sizeLine;decide,λp3 n3=>?_⟩
     rw[vp]at n3 ⊢
     refine⟨p2,p3,_,_,rfl,rfl,by rw[fc (eZ eW n3),eW],eW,?_,λp4 n4=>?_⟩
     ·refine b9 (fH ?_)
      rw[aa,cS]
      show ns.length-1+1<=1000
      omega
     refine⟨by show 2<=sizeLine;decide,λp5 n5=>?_⟩
     have S5:fg H3 _:=(eV n1).trans ((eV n2).trans ((eV n3).trans ((eV n4).trans (eV (o:=.tup [.ref p1,.ref p4]) n5))))
     have lv:vs.length<=160:=by
      rw[D.length,aa,aa]
      refine bF (bH _ _) ?_
      rw[bB];omega
     refine⟨t,vs,_,rfl,rfl,S5 _ _ ht3,fH (by omega),?_⟩
     have g1:fg (upd H3 p1 (.tup [.str "on",.int e])) _:=(eV n2).trans ((eV n3).trans ((eV n4).trans (eV (o:=.tup [.ref p1,.ref p4]) n5)))
     obtain⟨r1,r2,r3⟩:=mS (w:= "on") (e:=e) (xs:=ns.drop 1 ++ [e]) S3 ht ht3 D S5 (g1 _ _ eW) (fg.free ((eV n1).trans ((eV n2).trans (eV n3))) n4) (by rw[fc (eZ eW n5),eW,aw];rfl) eW
     refine kN _ _ ⟨_,_,rfl,r1,?_,r2,?_⟩
     ·rw[fc nt];exact S5 _ _ hp3
     ·rw[st,aH hc,aw];exact r3
    ·refine kN _ _ ⟨vs,_,rfl,S3,hp3,ht3,?_⟩
     rw[st,ax hc,bO];exact D
  rintro σ H3 ⟨vs,x,rfl,S3,hp3,ht3,D⟩
  rw[aa,bA]at D
  refine⟨_,rfl,_,rfl,a,_,_,_,rfl,rfl,(s0.trans S3).seq hS,vD hne,v,l,_,rfl,Da.same (s0.trans S3) hv,ok,λp' H4 s4 hp' hp4=>?_⟩
  have nt':p'≠t:=(eZ ht3 hp').symm
  have D4:Dgs (Lf H0 H4 t) (SqT K H4) (((fr l ns (oth (ns.getLastD 0))).map (onM ns)).map dMv) vs:=Dgs.mono (λa us ⟨h1,h2,h3⟩=>⟨s4 _ _ h1,h2,h3⟩) (λa us h=>fX s4 h) D
  have Kp:=qO ok ns (oth (ns.getLastD 0))
  refine⟨p',rfl,⟨_,SqL.of hp4⟩,gB (K:=K) (a:=p') (xs:=(jn l.2 (ns.headD 0)).map V.int) (λi σ H3=>∃ (vs:List V) (x:Option V),σ = [some v,some (.ref a),x,some (.ref pc),some (.ref t)]/\fg H0 H3/\H3 p'=some (.lst ((jn l.2 (ns.headD 0)).map V.int))/\H3 t=some (.lst vs)/\
    Dgs (Lf H0 H3 t) (SqT K H3) (((fr l ns (oth (ns.getLastD 0))).map (onM ns)++(((jn l.2 (ns.headD 0)).take i).filter λt=> !decide (t/2∈ns.map (· / 2))).map (oD ns)).map dMv) vs)
   ⟨vs,x,rfl,S3.trans s4,hp4,s4 _ _ ht3,by simpa using D4⟩ (λi σ H3 _ ⟨_,_,_,_,h,_⟩=>SqL.of h) ?_ ?_⟩
  ·rintro i y σ H3 N R B kN _ hi ⟨vs,x,rfl,S3,hp3,ht3,D⟩
   rw[aj]at hi
   cases q:(jn l.2 (ns.headD 0))[i]? with
   |none=>rw[q]at hi;cases hi
   |some e=>
    rw[q]at hi
    cases hi
    have hil:i<(jn l.2 (ns.headD 0)).length:=(af.mp q).1
    have st:=take_succ_filter (λt=> !decide (t/2∈ns.map (· / 2))) _ i e q
    refine⟨_,rfl,_,_,rfl,rfl,⟨by decide,by decide⟩,_,rfl,_,.int (e/2),jo (S3 _ _ hpc),iq.mpr rfl,tK _,pP _,_,rfl,?_⟩
    rw[xu]
    refine iE (c:=(!decide (e/2∈ns.map (· / 2)))=true) (λhc=>?_) (λhc=>?_)
    ·refine⟨_,rfl,.inl ⟨rfl,_,SqL.of ht3⟩,_,rfl,by show 2<=sizeLine;decide,λp1 n1=>?_⟩
     refine⟨_,rfl,e,rfl,by show 1<=sizeLine;decide,λp2 n2=>?_⟩
     refine⟨_,rfl,_,rfl,_,rfl,a,_,rfl,((s0.trans S3).trans ((eV n1).trans (eV n2))).seq hS,λp3 n3=>?_⟩
     have ec:ou (ns.map V.int) none (some (-1))=ns.dropLast.map V.int:=vq ns
     refine⟨p2,p3,_,_,rfl,rfl,by rw[fc (eZ eW n3),eW],eW,?_,λp4 n4=>?_⟩
     ·refine b9 (fH ?_)
      show 1+(ou (ns.map V.int) none (some (-1))).length<=1000
      rw[ec,aa,cm]
      omega
     refine⟨by show 2<=sizeLine;decide,λp5 n5=>?_⟩
     have S5:fg H3 _:=(eV n1).trans ((eV n2).trans ((eV n3).trans ((eV n4).trans (eV (o:=.tup [.ref p1,.ref p4]) n5))))
     have lv:vs.length<=320:=by
      rw[D.length,aa,ah,aa,aa]
      have:=bH (λt=> !decide (t/2∈ns.map (· / 2))) ((jn l.2 (ns.headD 0)).take i)
      rw[bB]at this
      omega
     refine⟨t,vs,_,rfl,rfl,S5 _ _ ht3,fH (by omega),?_⟩
     have g1:fg (upd H3 p1 (.tup [.str "back",.int e])) _:=(eV n2).trans ((eV n3).trans ((eV n4).trans (eV (o:=.tup [.ref p1,.ref p4]) n5)))
     obtain⟨r1,r2,r3⟩:=mS (w:= "back") (e:=e) (xs:=oth e::ns.dropLast) S3 ht ht3 D S5 (g1 _ _ eW) (fg.free ((eV n1).trans ((eV n2).trans (eV n3))) n4) (by
      rw[fc (eZ eW n5),eW]
      show some (HO.lst ([V.int (oth e)]++ou (ns.map V.int) none (some (-1))))=_
      rw[ec];rfl) eW
     refine kN _ _ ⟨_,_,rfl,r1,?_,r2,?_⟩
     ·rw[fc nt'];exact S5 _ _ hp3
     ·rw[st,aH hc,aw (f:=oD ns),<-aN];exact r3
    ·refine kN _ _ ⟨vs,_,rfl,S3,hp3,ht3,?_⟩
     rw[st,ax hc,bO];exact D
  rintro σ H3 ⟨vs,x,rfl,S3,hp3,ht3,D⟩
  rw[aa,bA]at D
  exact⟨_,rfl,k t vs H3 (s0.trans S3) (fg.free s0 ht) ht3 (Dgs.mono (λa us ⟨h1,h2,h3⟩=>⟨h1,fg.free s0 h2,h3⟩) (λ_ _ h=>h) D)⟩
end
structure Cm (mg:Str->Option Value)(tk:Tok):Prop where
 mD:mg "MOST_STANDINGS" = some (.int 300 tk)
structure Xt (K:PySem.W.Frag)(mg:Str->Option Value)(c:Addr):Prop where
 kx:Xc K mg "TooMany" c
def uy (K:PySem.W.Frag)(C:Addr):Sp:=λvs H Q E=>∃ (v u:V) (l:Ln) (ns:List Int),vs = [v,u]/\Da K H (dL l) v/\Da K H (dI ns) u/\fz l/\ns≠ []/\ns.length<=900/\h9 l ns/\
 (∀ i d vs H',(fy l ns i).length=i->i<=300->fg H H'->H d=none->mC K H' d (fy l ns i) vs->Q (.ref d) H')/\
 ((∃ i,300<(fy l ns i).length)->∀ H',fg H H'->∀ e,H' e=none->E (.ref C) (some e) H')
def at5 (σ:L2.St)(_:Hp):Nat:=match (σ[5]? :Option (Option V))with
 |some (some (V.int i))=>(301-i).toNat
 |_=>0
def p7 (K:PySem.W.Frag):Sp:=λvs H Q _=>∃ (d:Addr) (es:List Ent) (us:List V),vs = [.ref d]/\mC K H d es us/\es.length<=5000000/\∀ q bs H',sL H H' q bs (es.map (·.1))->Q (.ref q) H'
abbrev jx:Stmt:=top 19
theorem fY:fM ["line","train","start","steps","order","at","ahead","move","behind","standing"] ["line","train"] (fi jx):=⟨rfl,rfl,rfl,by decide +kernel,rfl,by decide +kernel,by decide +kernel⟩
abbrev j7:Stmt:=top 20
theorem uB:fM ["standings"] ["standings"] (fi j7):=⟨rfl,rfl,rfl,by decide +kernel,rfl,by decide +kernel,by decide +kernel⟩
theorem nA:gG (fi j7) ["standings"] {kind:=.function,names:=[(Str.ofString ".0",.local),(Str.ofString "standing",.local),(Str.ofString "list",.globalImplicit)],isGenerator:=false,isCoroutine:=false,more:=[]} ["standing"] 1 [none]:=⟨rfl,by decide +kernel,by decide +kernel,by decide +kernel,rfl,by decide +kernel,rfl,by decide +kernel⟩
section
variable {P:Program}{w:World}{K:PySem.W.Frag}{mg:Str->Option Value}{base:Heap}{f:Addr}{fd:FuncData}{c5:Addr}{tk:Tok}
theorem qA {f1:Addr}{fd1:FuncData}(F:Fn K mg "first_steps" jx ["line","train"] f fd)(B:Bm mg)(C:Cm mg tk)(XS:Xt K mg c5)(jr:Fn K mg "moves_of" lh ["line","train"] f1 fd1)
  (nO:fG P w K mg base CX0 3 f1 fd1 ["line","train"] (nW K)):fG P w K mg base (CXr P w base) 4 f fd ["line","train"] (uy K c5):=by
 refine F.F.okX fY (λvs H Q E h=>?_) (λcdv A outer s H vs Q E hr h=>?_)
 ·obtain⟨v,u,l,ns,rfl,_⟩:=h;rfl
 ·obtain⟨v,u,l,ns,rfl,hv,hu,ok,hne,hz,T,k1,k2⟩:=h
  obtain⟨a,rfl,ha⟩:=lF.mp hu
  refine⟨_,(eY (fv (i:=2) fY.nd rfl (Or.inl rfl) (gA gE rfl B.tuple dW (eU (pv 1) eX)))
 (eY (fv (i:=3) fY.nd rfl (Or.inl rfl) (uK (nz hr) (pv 2) vO))
 (eY (fv (i:=4) fY.nd rfl (Or.inl rfl) (fS (eU (pv 2) eX)))
 (eY (fv (i:=5) fY.nd rfl (Or.inl rfl) fb)
 (eY (nZ dQ (gM (qq (pv 5) (fx fR rfl B.len de (eU (pv 4) eX))))
 (eY (fv (i:=6) fY.nd rfl (Or.inl rfl) (gz gh (pv 4) (pv 5) (λ_ _=>rfl)))
 (eY (Co (i:=5) fY.nd rfl (Or.inl rfl) fb CM)
 (fh (gS dQ rfl (fU (fo nO (hr.mono (by decide)) rfl jr.m jr.F.kp jr.b .nil fK (eU (pv 0) (eU (gA lG rfl B.list boot_list (eU (pv 6) eX)) eX)))) (jE (n:=2) rfl (fQ (ft (i:=7) fY.nd rfl (Or.inl rfl)) (fQ (ft (i:=8) fY.nd rfl (Or.inl rfl)) iL)))
 (eY (fv (i:=9) fY.nd rfl (Or.inl rfl) (gA gE rfl B.tuple dW (eU (pv 8) eX)))
 (fh (ie (gM (oN (nz hr) (pv 9) (pv 3)))
 (eY (ie (gM (ky (fx fR rfl B.len de (eU (pv 4) eX)) (jN (v:=.int 300) rfl C.mD ⟨_,rfl⟩)))
 (fh (uH rW rfl rfl XS.kx.m XS.kx.q PySem.F.excBase_ValueError (eU (uJ (i:=300) rfl C.mD ⟨_,rfl⟩ (by decide) (by decide)) eX))) gg)
 (eY (sZ (nz hr) (pv 3) (pv 9) (gR (eU (pv 6) (eU (pv 7) eX))) rfl)
 (fh (gv (iV aF aR aQ gk (pv 4) (eU (pv 9) eX)))))) gg))))))))
 (fh (fP (pv 3)))))))),?_⟩
  refine⟨_,rfl,a,_,rfl,.inl ⟨ha,λt0 nt0=>?_⟩⟩
  have s1:=eV (o:=.tup (ns.map V.int)) nt0
  have h1:=eW (H:=H) (a:=t0) (o:=.tup (ns.map V.int))
  generalize upd H t0 _=H1 at s1 h1 ⊢
  refine λd nd=>⟨_,rfl,_,_,t0,kyI ns,rfl,rfl,by rw[kc];exact eV nd _ _ h1,eW,?_⟩
  rw[pL]
  have s2:=eV (o:=.dT [(kyI ns,V.non)]) nd
  have h2:=s2 _ _ h1
  have hd2:=eW (H:=H1) (a:=d) (o:=.dT [(kyI ns,V.non)])
  have nd0:=fg.free s1 nd
  generalize upd H1 d _=H2 at s2 h2 hd2 ⊢
  refine⟨_,rfl,by show 1<=sizeLine;decide,λp np=>?_⟩
  have s3:=eV (o:=.lst [V.ref t0]) np
  have h3:=s3 _ _ h2
  have hd3:=s3 _ _ hd2
  have hp3:=eW (H:=H2) (a:=p) (o:=.lst [V.ref t0])
  have np0:=fg.free (s1.trans s2) np
  have S3:=s1.trans (s2.trans s3)
  generalize upd H2 p _=H3 at s3 h3 hd3 hp3 S3 ⊢
  refine rH (λσ H4=>∃ (i:Nat) (as:List Addr) (vs:List V) (x6 x7 x8 x9:Option V),σ = [some v,some (.ref a),some (.ref t0),some (.ref d),some (.ref p),some (.int i),x6,x7,x8,x9]/\fg H H4/\mC K H4 d (fy l ns i) vs/\Ord H4 p as (fy l ns i)/\i<=(fy l ns i).length/\(fy l ns i).length<=300)
   at5 ⟨0,[t0],[.non],none,none,none,none,rfl,S3,⟨hd3,rfl,λi e v' he hv'=>?_⟩,⟨hp3,rfl,λi b e hb he=>?_⟩,aM _,by simp[fy]⟩ ?_ ?_
  ·match i,he,hv' with
   | 0,he,hv'=>cases he;cases hv';rfl
  ·match i,hb,he with
   | 0,hb,he=>cases hb;cases he;exact h3
  ·rintro σ H4 N1 R1 B1 kN1 _ kB1 ⟨i,as,vs,x6,x7,x8,x9,rfl,S4,hs4,ho4,hi,IE⟩
   have E4:=jL ok T hne i
   refine⟨_,rfl,_,rfl,p,_,rfl,.inl (SqL.of ho4.at_),_,_,rfl,rfl,_,rfl,iE (λhlt=>?_) (λhlt=>?_)⟩
   ·have hlt:(i:Int)<((as.map V.ref).length:Int):=by simpa using hlt
    rw[aa,ho4.len]at hlt
    have hi2:i<(fy l ns i).length:=by omega
    have he:(fy l ns i)[i]? = some ((fy l ns i)[i]):=by simp
    generalize (fy l ns i)[i]=e at he
    obtain⟨b,hb⟩:∃ b,as[i]? = some b:=⟨as[i]'(by rw[ho4.len];exact hi2),ae _⟩
    have hbt:=ho4.each i b e hb he
    obtain⟨T1,T2,T3⟩:=E4.tr e (aA he)
    refine⟨_,rfl,_,rfl,p,_,_,_,rfl,rfl,SqL.of ho4.at_,kf (v:=V.ref b) (by omega) (by rw[aj,show((i:Int)).toNat=i by omega,hb];rfl),?_⟩
    refine⟨_,rfl,_,_,rfl,rfl,?_⟩
    refine⟨_,rfl,_,rfl,b,_,rfl,.inr (SqT.of hbt),λq nq=>?_⟩
    have s5:=eV (o:=.lst (e.1.map V.int)) nq
    have hq5:=eW (H:=H4) (a:=q) (o:=.lst (e.1.map V.int))
    generalize upd H4 q _=H5 at s5 hq5 ⊢
    refine⟨_,_,l,e.1,rfl,Da.same (S4.trans s5) hv,jo hq5,ok,T3,by omega,λpm vm H6 s6 hpm zM Dm=>?_⟩
    have s46:=s5.trans s6
    have S6:=S4.trans s46
    have hs6:=hs4.same s46
    have ho6:=ho4.same s46
    have CD:(mvs l e.1).length=vm.length:=by have:=Dm.length;rw[aa]at this;exact this.symm
    have Dh:=s46 _ _ hbt
    have pmp:pm≠p:=bZ (eZ (s5 _ _ ho4.at_) hpm)
    have pmd:pm≠d:=bZ (eZ (s5 _ _ hs4.at_) hpm)
    refine⟨pm,rfl,⟨_,SqL.of zM⟩,gB (K:=K) (a:=pm) (xs:=vm) (λj σ H7=>∃ (as':List Addr) (vs':List V) (x7 x8 x9:Option V),σ = [some v,some (.ref a),some (.ref t0),some (.ref d),some (.ref p),some (.int ((i:Int)+1)),some (.ref b),x7,x8,x9]/\
      fg H H7/\fg (lD d p H6) H7/\mC K H7 d (fT e.1 ((mvs l e.1).take j) (fy l ns i)) vs'/\Ord H7 p as' (fT e.1 ((mvs l e.1).take j) (fy l ns i))/\(fT e.1 ((mvs l e.1).take j) (fy l ns i)).length<=300)
     ⟨as,vs,x7,x8,x9,rfl,S6,λb u h=>gF (p:=d) b u (gF (p:=p) b u h),hs6,ho6,IE⟩ (λj σ H7 _ ⟨_,_,_,_,_,_,_,sm,_⟩=>SqL.of (sm _ _ (by rw[lC pmd pmp];exact zM))) ?_ ?_⟩
    ·rintro j y σ H7 N R B kN _ hj ⟨as',vs',y7,y8,y9,rfl,S7,sm,hs7,ho7,xl⟩
     obtain⟨m,ad,p1,bb,hm,rfl,ht,dm,hbb,nbb,_⟩:=BD Dm hj
     obtain⟨a1,ea1,htm⟩:=Jb dm
     cases ea1
     have bbp:bb≠p:=bZ (eZ (s5 _ _ ho4.at_) nbb)
     have bbd:bb≠d:=bZ (eZ (s5 _ _ hs4.at_) nbb)
     have ht7:=fX sm (qM hs6.at_ ho6.at_ ht)
     have Ij:=fX sm (qM hs6.at_ ho6.at_ htm)
     have A9:H7 bb=some (.lst (m.2.map V.int)):=sm _ _ (by rw[lC bbd bbp];exact hbb)
     have hb7:H7 b=some (.tup (e.1.map V.int)):=sm _ _ (by rw[lC (gL Dh hs6.at_ (by intro z;cases z)) (gL Dh ho6.at_ (by intro z;cases z))];exact Dh)
     refine⟨ad,_,rfl,ht7,rfl,_,_,rfl,_,_,rfl,rfl,?_⟩
     refine⟨_,rfl,bb,_,rfl,.inl ⟨SqL.of A9,λst nst=>?_⟩⟩
     have s8:=eV (o:=.tup (m.2.map V.int)) nst
     have hst:=eW (H:=H7) (a:=st) (o:=.tup (m.2.map V.int))
     have hs8:=hs7.same s8
     have ho8:=ho7.same s8
     have S8:=S7.trans s8
     have sm8:=sm.trans s8
     have hb8:=s8 _ _ hb7
     have EF:=fX s8 Ij
     generalize upd H7 st _=H8 at s8 hst hs8 ho8 S8 sm8 hb8 EF ⊢
     refine⟨_,rfl,_,rfl,d,_,rfl,pK.t (k:=kyI m.2) hs8.at_ (by rw[kc];exact hst),_,rfl,?_⟩
     rw[hs8.mem m.2]
     have uw:fT e.1 ((mvs l e.1).take (j+1)) (fy l ns i)=lJ e.1 (fT e.1 ((mvs l e.1).take j) (fy l ns i)) m:=qc hm
     refine iE (λhn=>?_) (λhn=>?_)
     ·have hn:m.2∉(fT e.1 ((mvs l e.1).take j) (fy l ns i)).map (·.1):=by simpa using hn
      have pZ:fT e.1 ((mvs l e.1).take (j+1)) (fy l ns i)=fT e.1 ((mvs l e.1).take j) (fy l ns i) ++ [(m.2,some (e.1,m.1))]:=by
       rw[uw];unfold lJ;rw[ax hn]
      refine⟨_,rfl,p,_,rfl,.inl (SqL.of ho8.at_),_,_,rfl,rfl,_,rfl,iE (λh3=>?_) (λh3=>?_)⟩
      ·have h3:((as'.map V.ref).length:Int)=300:=by simpa using h3
       rw[aa,ho8.len]at h3
       refine λz=>⟨by show 1<=sizeLine;decide,λx hx=>k2 ⟨i+1,?_⟩ H8 S8 x hx⟩
       rw[kF he]
       have:=(lN (t:=e.1) (mvs l e.1) (fy l ns i) (j+1)).length_le
       rw[pZ,ah,bG]at this
       omega
      ·have h3:¬((as'.map V.ref).length:Int)=300:=by simpa using h3
       rw[aa,ho8.len]at h3
       refine⟨_,rfl,_,rfl,by show 2<=sizeLine;decide,λtp ntp=>?_⟩
       have s9:=eV (o:=.tup [.ref b,.ref p1]) ntp
       have htp:=eW (H:=H8) (a:=tp) (o:=.tup [.ref b,.ref p1])
       have hs9:=hs8.same s9
       have ho9:=ho8.same s9
       have CT:=s9 _ _ hst
       have hb9:=s9 _ _ hb8
       have EE:=fX s9 EF
       have S9:=S8.trans s9
       have sm9:=sm8.trans s9
       generalize upd H8 tp _=H9 at s9 htp hs9 ho9 CT hb9 EE S9 sm9 ⊢
       have dl:((List.zip (fT e.1 ((mvs l e.1).take j) (fy l ns i)) vs').map λp=>(kyI p.1.1,p.2)).length<=300:=by rw[aa,bI];omega
       refine⟨_,rfl,_,rfl,d,_,rfl,wC.t (k:=kyI m.2) hs9.at_ (by rw[kc];exact CT) (ko (by omega)),?_⟩
       obtain⟨g1,g2⟩:=xU hs9 ho9 CT htp hb9 EE hn
       have pd:p≠d:=gL ho9.at_ hs9.at_ (by intro z;cases z)
       have hp9:upd H9 d (.dT (putK ((List.zip (fT e.1 ((mvs l e.1).take j) (fy l ns i)) vs').map λp=>(kyI p.1.1,p.2)) (kyI m.2) (.ref tp))) p=some (.lst (as'.map V.ref)):=by rw[fc pd];exact ho9.at_
       refine⟨_,rfl,.inl ⟨rfl,_,SqL.of hp9⟩,_,rfl,p,_,_,rfl,rfl,hp9,ko (by rw[aa,ho9.len];omega),?_⟩
       refine kN _ _ ⟨as' ++ [st],vs' ++ [.ref tp],_,_,_,rfl,fg.upd (fg.upd S9 nd0) np0,uY sm9,by rw[pZ];exact g1,by rw[pZ];exact g2,?_⟩
       rw[pZ,ah,bG]
       omega
     ·have hn:m.2∈(fT e.1 ((mvs l e.1).take j) (fy l ns i)).map (·.1):=by simpa using hn
      have rK:fT e.1 ((mvs l e.1).take (j+1)) (fy l ns i)=fT e.1 ((mvs l e.1).take j) (fy l ns i):=by
       rw[uw];unfold lJ;rw[aH hn]
      exact kN _ _ ⟨as',vs',_,_,_,rfl,S8,sm8,by rw[rK];exact hs8,by rw[rK];exact ho8,by rw[rK];exact xl⟩
    ·rintro σ H7 ⟨as',vs',y7,y8,y9,rfl,S7,sm,hs7,ho7,xl⟩
     rw[<-CD,bA,<-kF he]at hs7 ho7 xl
     have yl:=(mJ l ns i).length_le
     refine kN1 _ _ ⟨i+1,as',vs',_,_,_,_,rfl,S7,hs7,ho7,by omega,xl⟩ ?_
     show(301-((i:Int)+1)).toNat<(301-(i:Int)).toNat
     omega
   ·have hlt:¬(i:Int)<((as.map V.ref).length:Int):=by simpa using hlt
    rw[aa,ho4.len]at hlt
    have e1:(fy l ns i).length=i:=by omega
    exact kB1 _ _ ⟨_,rfl,k1 i d vs H4 e1 (by omega) S4 nd0 hs4⟩
  ·rintro σ H Q Q' hq ⟨x,e1,y,e2,p',ys,e3,h4,i',j',e5,e6,c,e7,q⟩
   exact⟨x,e1,y,e2,p',ys,e3,h4,i',j',e5,e6,c,e7,hq _ _ q⟩
theorem uP (F:Fn K mg "lists_of" j7 ["standings"] f fd)(B:Bm mg):fG P w K mg base CX0 1 f fd ["standings"] (p7 K):=by
 refine F.F.ok uB (λvs H Q E h=>?_) (λcdv A outer s H vs Q E hr h=>?_)
 ·obtain⟨d,es,us,rfl,_⟩:=h;rfl
 ·obtain⟨d,es,us,rfl,hs,hl,k⟩:=h
  have hd:=hs.at_
  have kl:((es.zip us).map λp=>(kyI p.1.1,p.2)).length=es.length:=by rw[aa,bI,hs.len];omega
  have kat:∀ (i:Nat) (p:List Key×V),((es.zip us).map λp=>(kyI p.1.1,p.2))[i]? = some p->∃ t,(es.map (·.1))[i]? = some t/\p.1=kyI t:=λi p hp=>by
   have h1:(((es.zip us).map λp=>(kyI p.1.1,p.2)).map (·.1))[i]? = some p.1:=by rw[aj,hp];rfl
   rw[uX hs.len,aj]at h1
   cases q:es[i]? with
   |none=>rw[q]at h1;cases h1
   |some e=>rw[q]at h1;exact⟨e.1,by rw[aj,q];rfl,(aZ h1).symm⟩
  generalize (es.zip us).map (λp=>(kyI p.1.1,p.2))=kvs at hd kl kat
  refine⟨_,(fh (fP (Cr (lR (AR (pv 0)) rfl nA (.name (by decide)) (λ_ _ _ _=>(ft (i:=0) nA.nd rfl (Or.inl rfl))) (λ_ _ _ _=>iB) (λ_ _ _ _=>(gA (rC (K:=K) rfl) rfl B.list boot_list (eU (pv 0) eX))))))),?_⟩
  refine⟨d,kvs,hd,λo=>⟨_,rfl,d,o,kvs,rfl,eW,λq nq=>?_⟩⟩
  have qd:q≠d:=λz=>by subst z;rw[eW]at nq;cases nq
  have nq0:H q=none:=by rw[fc qd]at nq;exact nq
  have hf:=eW (H:=H) (a:=d) (o:=.frz o (.dT kvs))
  have hfo:∀ b,b≠d->upd H d (.frz o (.dT kvs)) b=H b:=λb hb=>fc hb
  generalize upd H d (.frz o (.dT kvs))=HF at nq hf hfo ⊢
  refine tP es.length (λi acc H'=>∃ bs:List Addr,acc=bs.map V.ref/\bs.length=i/\fg HF H'/\H' q=some (.lst acc)/\(∀ (j:Nat) b t,bs[j]? = some b->(es.map (·.1))[j]? = some t->HF b=none/\b≠q/\H' b=some (.lst (t.map V.int)))/\bs.Nodup)
   ⟨[],rfl,rfl,eV nq,eW,λj b t h=>by simp at h,by simp⟩ (λi acc H' hi ⟨_,_,_,sm,_⟩=>⟨sm _ _ hf,by rw[kl];exact hi⟩) (λacc H' ⟨_,_,_,sm,_⟩=>⟨sm _ _ hf,by rw[kl];exact aq _⟩) ?_ ?_
  ·rintro i x acc H4 H5 hi ⟨bs,rfl,bl,sm,hq,ea,nd⟩ ⟨e5,b,p,hp,rfl,hb⟩
   subst e5
   obtain⟨t,ht,hpt⟩:=kat i p hp
   rw[hpt,kc]at hb
   refine iD ?_
   refine⟨_,rfl,b,_,rfl,.inr (SqT.of hb),λnb nnb=>?_⟩
   have s6:=eV (o:=.lst (t.map V.int)) nnb
   have nbq:nb≠q:=bZ (eZ hq nnb)
   refine⟨s6 _ _ hq,ko (by rw[aa];omega),bs ++ [nb],by rw[aw];rfl,by rw[ah,bl];rfl,fg.upd (sm.trans s6) nq,eW,λj c u hc hu=>?_,?_⟩
   ·by_cases hj:j<bs.length
    ·rw[ao hj]at hc
     obtain⟨z1,z2,z3⟩:=ea j c u hc hu
     exact⟨z1,z2,by rw[fc z2];exact s6 _ _ z3⟩
    ·have hj2:j=bs.length:=by
      have:=(af.mp hc).1
      rw[ah,bG]at this
      omega
     rw[hj2,ar (aq _),b8]at hc
     cases hc
     rw[hj2,bl,ht]at hu
     cases hu
     exact⟨fg.free sm nnb,nbq,by rw[fc nbq];exact eW⟩
   ·rw[cb]
    refine⟨nd,by simp,λx hx y hy=>?_⟩
    have hy:y=nb:=by simpa using hy
    subst hy
    obtain⟨j,hj,e⟩:=bt.mp hx
    have hje:j<(es.map (·.1)).length:=by rw[aa];omega
    obtain⟨_,_,z3⟩:=ea j x ((es.map (·.1))[j]'hje) (by rw[ae hj,e]) (ae _)
    exact eZ z3 nnb
  ·rintro acc H' ⟨bs,rfl,bl,sm,hq,ea,nd⟩
   refine⟨sm _ _ hf,k q bs _ ⟨λb u h=>?_,nq0,by rw[fc qd];exact hq,by rw[aa];exact bl,λj b t hb ht=>?_,nd⟩⟩
   ·by_cases e:b=d
    ·subst e;rw[eW,<-hd];exact h
    ·rw[fc e];exact sm _ _ (by rw[hfo b e];exact h)
   ·obtain⟨z1,z2,z3⟩:=ea j b t hb ht
    have bd:b≠d:=λe=>by subst e;rw[hf]at z1;cases z1
    exact⟨by rw[<-hfo b bd];exact z1,z2,by rw[fc bd];exact z3⟩
end
structure pI (H:Hp)(d:Addr)(es:List Ent):Prop where
 at_:H d=some (.dT (kvR (fJ es)))
theorem pI.same {H H':Hp}{d:Addr}{es:List Ent}(h:pI H d es)(s:fg H H'):pI H' d es:=⟨s _ _ h.at_⟩
theorem pI.mem {H:Hp}{d:Addr}{es:List Ent}(h:pI H d es)(t:List Int):(i8 (kvR (fJ es)) (kyI t)).isSome=decide (t∈es.map (·.1)):=by
 rw[xh,<-ij]
 cases q:gH (fJ es) t with
 |none=>rw[bo (qG q)];rfl
 |some n=>rw[bC (az.mpr ⟨_,jm q,rfl⟩)];rfl
theorem pI.val {H:Hp}{d:Addr}{es:List Ent}(h:pI H d es){t:List Int}(ht:t∈es.map (·.1)):∃ n,gH (fJ es) t=some n/\i8 (kvR (fJ es)) (kyI t)=some (.int n):=by
 obtain⟨n,hn⟩:=uV (rows:=fJ es) (t:=t) (by rw[ij];exact ht)
 exact⟨n,hn,by rw[xh,hn];rfl⟩
theorem xV {H:Hp}{d p b:Addr}{es:List Ent}{as:List Addr}{t t':List Int}{k:Str×Int}{n:Int}(hs:pI H d es)(ho:rE H p as es)(hb:H b=some (.lst (t'.map V.int)))(bp:b≠p)(hn:t'∉es.map (·.1))(Ip:n=ro (fJ es) (t',some (t,k))):
  pI (upd (upd H d (.dT (putK (kvR (fJ es)) (kyI t') (.int n)))) p (.lst (as.map V.ref ++ [V.ref b]))) d (es ++ [(t',some (t,k))])/\
  rE (upd (upd H d (.dT (putK (kvR (fJ es)) (kyI t') (.int n)))) p (.lst (as.map V.ref ++ [V.ref b]))) p (as ++ [b]) (es ++ [(t',some (t,k))]):=by
 have hd:=hs.at_
 have hp:=ho.at_
 have dp:d≠p:=gL hd hp (by intro z;cases z)
 have hv:i8 (kvR (fJ es)) (kyI t')=none:=by
  have:=hs.mem t'
  rw[bo hn]at this
  exact Option.isNone_iff_eq_none.mp (by rw[<-Option.not_isSome,this];rfl)
 have e1:putK (kvR (fJ es)) (kyI t') (.int n)=kvR (fJ (es ++ [(t',some (t,k))])):=by
  rw[qj _ hv,lu,Ip]
  unfold kvR
  rw[aw];rfl
 have hl:∀ c xs,c≠p->H c=some (.lst xs)->upd (upd H d (.dT (putK (kvR (fJ es)) (kyI t') (.int n)))) p (.lst (as.map V.ref ++ [V.ref b])) c=some (.lst xs):=λc xs cp q=>by
  rw[fc cp,fc (gL q hd (by intro z;cases z))];exact q
 refine⟨⟨by rw[fc dp,eW,e1]⟩,⟨by rw[eW,aw];rfl,by rw[ah,ah,ho.len];rfl,λi c e hc he=>?_⟩⟩
 by_cases hi:i<es.length
 ·rw[ao hi]at he
  rw[ao (by rw[ho.len];exact hi)]at hc
  obtain⟨z1,z2⟩:=ho.each i c e hc he
  exact⟨z1,hl c _ z1 z2⟩
 ·have hi2:i=es.length:=by
   have:=(af.mp he).1
   rw[ah,bG]at this
   omega
  rw[hi2,ar (aq _),b8]at he
  rw[hi2,<-ho.len,ar (aq _),b8]at hc
  cases he
  cases hc
  exact⟨bp,hl b _ bp hb⟩
def yL (K:PySem.W.Frag):Sp:=λvs H Q _=>∃ (v:V) (u:Addr) (l:Ln) (ns:List Int),vs = [v,.ref u]/\Da K H (dL l) v/\H u=some (.lst (ns.map V.int))/\fz l/\ns≠ []/\ns.length<=6/\h9 l ns/\
 ∀ i t p d as H',(fy l ns i).length=i->fg H H'->H' t=some (.tup [.ref p,.ref d])->rE H' p as (fy l ns i)->pI H' d (fy l ns i)->Q (.ref t) H'
def JN (σ:L2.St)(_:Hp):Nat:=match (σ[4]? :Option (Option V))with
 |some (some (V.int i))=>(4096001-i).toNat
 |_=>0
abbrev mP:Stmt:=top 38
theorem iN:fM ["_law_line_here","_law_train","_law_order","_law_numbers","_law_at","_law_move","_law_behind"] ["_law_line_here","_law_train"] (fi mP):=⟨rfl,rfl,rfl,by decide +kernel,rfl,by decide +kernel,by decide +kernel⟩
section
variable {P:Program}{w:World}{K:PySem.W.Frag}{mg:Str->Option Value}{base:Heap}{f:Addr}{fd:FuncData}
theorem vS {f1:Addr}{fd1:FuncData}(F:Fn K mg "_law_web" mP ["_law_line_here","_law_train"] f fd)(B:Bm mg)(i7:Fn K mg "_law_moves" jB ["_law_line_here","_law_train"] f1 fd1)
  (mH:fG P w K mg base CX0 2 f1 fd1 ["_law_line_here","_law_train"] (nW K)):fG P w K mg base CX0 3 f fd ["_law_line_here","_law_train"] (yL K):=by
 refine F.F.ok iN (λvs H Q E h=>?_) (λcdv A outer s H vs Q E hr h=>?_)
 ·obtain⟨v,u,l,ns,rfl,_⟩:=h;rfl
 ·obtain⟨v,u,l,ns,rfl,hv,hu,ok,hne,hz,T,k⟩:=h
  refine⟨_,(eY (fv (i:=2) iN.nd rfl (Or.inl rfl) (fS (eU (pv 1) eX)))
 (eY (fv (i:=3) iN.nd rfl (Or.inl rfl) (uK (nz hr) (gA gE rfl B.tuple dW (eU (pv 1) eX)) fb))
 (eY (fv (i:=4) iN.nd rfl (Or.inl rfl) fb)
 (eY (nZ bh (gM (qq (pv 4) (fx fR rfl B.len de (eU (pv 2) eX))))
 (eY (gS bh rfl (fU (fo mH (hr.mono (by decide)) rfl i7.m i7.F.kp i7.b .nil fK (eU (pv 0) (eU (gz gh (pv 2) (pv 4) (λ_ _=>rfl)) eX)))) (jE (n:=2) rfl (fQ (ft (i:=5) iN.nd rfl (Or.inl rfl)) (fQ (ft (i:=6) iN.nd rfl (Or.inl rfl)) iL)))
 (fh (ie (gM (oN (nz hr) (gA gE rfl B.tuple dW (eU (pv 6) eX)) (pv 3)))
 (eY (sZ (nz hr) (pv 3) (gA gE rfl B.tuple dW (eU (pv 6) eX)) (fq gJ (wZ (nz hr) (pv 3) (gA gE rfl B.tuple dW (eU (gz gh (pv 2) (pv 4) (λ_ _=>rfl)) eX)) (λ_ _=>rfl)) fb) rfl)
 (fh (gv (iV aF aR aQ gk (pv 2) (eU (pv 6) eX))))) gg)))
 (fh (fv (i:=4) iN.nd rfl (Or.inl rfl) (fq gJ (pv 4) fb)))))
 (fh (fP (gR (eU (pv 2) (eU (pv 3) eX))))))))),?_⟩
  refine⟨_,rfl,by show 1<=sizeLine;decide,λp np=>?_⟩
  have s1:=eV (o:=.lst [V.ref u]) np
  have hp1:=eW (H:=H) (a:=p) (o:=.lst [V.ref u])
  have hu1:=s1 _ _ hu
  have up:u≠p:=eZ hu np
  generalize upd H p _=H1 at s1 hp1 hu1 ⊢
  refine λd nd=>⟨_,rfl,u,_,rfl,.inl ⟨SqL.of (eV nd _ _ hu1),λt0 nt0=>?_⟩⟩
  have nd0:=fg.free s1 nd
  have s2:=eV (o:=.dT []) nd
  have s3:=eV (o:=.tup (ns.map V.int)) nt0
  refine⟨_,_,t0,kyI ns,rfl,rfl,by rw[kc];exact eW,s3 _ _ eW,?_⟩
  have hp3:=s3 _ _ (s2 _ _ hp1)
  have hu3:=s3 _ _ (s2 _ _ hu1)
  have S3:=s1.trans (s2.trans s3)
  have dp:p≠d:=eZ hp1 nd
  have du:u≠d:=eZ hu1 nd
  have S4:fg H (upd (upd (upd H1 d (.dT [])) t0 (.tup (ns.map V.int))) d (.dT [(kyI ns,V.int 0)])):=fg.upd S3 nd0
  have hp4:(upd (upd (upd H1 d (.dT [])) t0 (.tup (ns.map V.int))) d (.dT [(kyI ns,V.int 0)])) p=some (.lst [V.ref u]):=by rw[fc dp];exact hp3
  have hu4:(upd (upd (upd H1 d (.dT [])) t0 (.tup (ns.map V.int))) d (.dT [(kyI ns,V.int 0)])) u=some (.lst (ns.map V.int)):=by rw[fc du];exact hu3
  have hd4:=eW (H:=upd (upd H1 d (.dT [])) t0 (.tup (ns.map V.int))) (a:=d) (o:=.dT [(kyI ns,V.int 0)])
  generalize upd (upd (upd H1 d (.dT [])) t0 (.tup (ns.map V.int))) d (.dT [(kyI ns,V.int 0)])=H4 at S4 hp4 hu4 hd4 ⊢
  refine rH (λσ H4=>∃ (i:Nat) (as:List Addr) (x5 x6:Option V),σ = [some v,some (.ref u),some (.ref p),some (.ref d),some (.int i),x5,x6]/\fg H H4/\pI H4 d (fy l ns i)/\rE H4 p as (fy l ns i)/\i<=(fy l ns i).length)
   JN ⟨0,[u],none,none,rfl,S4,⟨hd4⟩,⟨hp4,rfl,λi b e hb he=>?_⟩,aM _⟩ ?_ ?_
  ·match i,hb,he with
   | 0,hb,he=>cases hb;cases he;exact⟨up,hu4⟩
  ·rintro σ H4 N1 R1 B1 kN1 _ kB1 ⟨i,as,x5,x6,rfl,S4,hs4,ho4,hi⟩
   have E4:=jL ok T hne i
   have b4:=E4.len ok hz
   refine⟨_,rfl,_,rfl,p,_,rfl,.inl (SqL.of ho4.at_),_,_,rfl,rfl,_,rfl,iE (λhlt=>?_) (λhlt=>?_)⟩
   ·have hlt:(i:Int)<((as.map V.ref).length:Int):=by simpa using hlt
    rw[aa,ho4.len]at hlt
    have hi2:i<(fy l ns i).length:=by omega
    have he:(fy l ns i)[i]? = some ((fy l ns i)[i]):=by simp
    generalize (fy l ns i)[i]=e at he
    obtain⟨b,hb,bp,hbt⟩:=ho4.get he
    obtain⟨T1,T2,T3⟩:=E4.tr e (aA he)
    have em:e.1∈(fy l ns i).map (·.1):=az.mpr ⟨e,aA he,rfl⟩
    refine⟨_,rfl,_,rfl,_,rfl,p,_,_,_,rfl,rfl,SqL.of ho4.at_,kf (v:=V.ref b) (by omega) (by rw[aj,show((i:Int)).toNat=i by omega,hb];rfl),_,_,l,e.1,rfl,Da.same S4 hv,jo hbt,ok,T3,by omega,λpm vm H6 s6 hpm zM Dm=>?_⟩
    have S6:=S4.trans s6
    have hs6:=hs4.same s6
    have ho6:=ho4.same s6
    have CD:(mvs l e.1).length=vm.length:=by have:=Dm.length;rw[aa]at this;exact this.symm
    have pmp:pm≠p:=bZ (eZ ho4.at_ hpm)
    have pmd:pm≠d:=bZ (eZ hs4.at_ hpm)
    have b7:∀ j,(fT e.1 ((mvs l e.1).take j) (fy l ns i)).length<=4096000:=λj=>by
     have h1:=(lN (t:=e.1) (mvs l e.1) (fy l ns i) j).length_le
     rw[<-kF he]at h1
     have h2:=(jL ok T hne (i+1)).len ok hz
     omega
    refine⟨pm,rfl,⟨_,SqL.of zM⟩,gB (K:=K) (a:=pm) (xs:=vm) (λj σ H7=>∃ (as':List Addr) (x5 x6:Option V),σ = [some v,some (.ref u),some (.ref p),some (.ref d),some (.int i),x5,x6]/\
      fg H H7/\fg (lD d p H6) H7/\pI H7 d (fT e.1 ((mvs l e.1).take j) (fy l ns i))/\rE H7 p as' (fT e.1 ((mvs l e.1).take j) (fy l ns i)))
     ⟨as,x5,x6,rfl,S6,λb u h=>gF (p:=d) b u (gF (p:=p) b u h),hs6,ho6⟩ (λj σ H7 _ ⟨_,_,_,_,_,sm,_⟩=>SqL.of (sm _ _ (by rw[lC pmd pmp];exact zM))) ?_ ?_⟩
    ·rintro j y σ H7 N R B kN _ hj ⟨as',y5,y6,rfl,S7,sm,hs7,ho7⟩
     obtain⟨m,ad,p1,bb,hm,rfl,ht,dm,hbb,nbb,_⟩:=BD Dm hj
     have bbp:bb≠p:=bZ (eZ ho4.at_ nbb)
     have bbd:bb≠d:=bZ (eZ hs4.at_ nbb)
     have ht7:=fX sm (qM hs6.at_ ho6.at_ ht)
     have A9:H7 bb=some (.lst (m.2.map V.int)):=sm _ _ (by rw[lC bbd bbp];exact hbb)
     have b7j:=b7 j
     refine⟨ad,_,rfl,ht7,rfl,_,_,rfl,_,_,rfl,rfl,?_⟩
     refine⟨_,rfl,bb,_,rfl,.inl ⟨SqL.of A9,λst nst=>?_⟩⟩
     have s8:=eV (o:=.tup (m.2.map V.int)) nst
     have hst:=eW (H:=H7) (a:=st) (o:=.tup (m.2.map V.int))
     have hs8:=hs7.same s8
     have ho8:=ho7.same s8
     have S8:=S7.trans s8
     have sm8:=sm.trans s8
     have EU:=s8 _ _ A9
     generalize upd H7 st _=H8 at s8 hst hs8 ho8 S8 sm8 EU ⊢
     refine⟨_,rfl,d,_,rfl,pK.t (k:=kyI m.2) hs8.at_ (by rw[kc];exact hst),_,rfl,?_⟩
     rw[hs8.mem m.2]
     have uw:fT e.1 ((mvs l e.1).take (j+1)) (fy l ns i)=lJ e.1 (fT e.1 ((mvs l e.1).take j) (fy l ns i)) m:=qc hm
     have pre:fy l ns i <+:fT e.1 ((mvs l e.1).take j) (fy l ns i):=mM _ _ _
     refine iE (λhn=>?_) (λhn=>?_)
     ·have hn:m.2∉(fT e.1 ((mvs l e.1).take j) (fy l ns i)).map (·.1):=by simpa using hn
      have pZ:fT e.1 ((mvs l e.1).take (j+1)) (fy l ns i)=fT e.1 ((mvs l e.1).take j) (fy l ns i) ++ [(m.2,some (e.1,m.1))]:=by
       rw[uw];unfold lJ;rw[ax hn]
      have he7:(fT e.1 ((mvs l e.1).take j) (fy l ns i))[i]? = some e:=by
       obtain⟨r,hr⟩:=pre
       rw[<-hr,ao hi2];exact he
      have em7:e.1∈(fT e.1 ((mvs l e.1).take j) (fy l ns i)).map (·.1):=az.mpr ⟨e,aA he7,rfl⟩
      generalize fT e.1 ((mvs l e.1).take j) (fy l ns i)=es at *
      obtain⟨b2,g1,g2,g3⟩:=ho8.get he7
      refine⟨_,rfl,_,rfl,_,rfl,p,_,_,_,rfl,rfl,SqL.of ho8.at_,kf (v:=V.ref b2) (by omega) (by rw[aj,show((i:Int)).toNat=i by omega,g1];rfl),b2,_,rfl,.inl ⟨SqL.of g3,λst2 CA=>?_⟩⟩
      have s9:=eV (o:=.tup (e.1.map V.int)) CA
      have zL:=eW (H:=H8) (a:=st2) (o:=.tup (e.1.map V.int))
      have hs9:=hs8.same s9
      have ho9:=ho8.same s9
      have S9:=S8.trans s9
      have sm9:=sm8.trans s9
      have Di:=s9 _ _ EU
      generalize upd H8 st2 _=H9 at s9 zL hs9 ho9 S9 sm9 Di ⊢
      obtain⟨n,hl9,hn9⟩:=hs9.val em7
      refine⟨d,.int n,rfl,by rw[<-hn9];exact pK.t (k:=kyI e.1) hs9.at_ (by rw[kc];exact zL),_,_,rfl,rfl,_,rfl,_,rfl,bb,_,rfl,.inl ⟨SqL.of Di,λst3 Hz=>?_⟩⟩
      have s10:=eV (o:=.tup (m.2.map V.int)) Hz
      have EG:=eW (H:=H9) (a:=st3) (o:=.tup (m.2.map V.int))
      have A8:=hs9.same s10
      have zN:=ho9.same s10
      have S10:=S9.trans s10
      have D8:=sm9.trans s10
      have BG:=s10 _ _ Di
      generalize upd H9 st3 _=H10 at s10 EG A8 zN S10 D8 BG ⊢
      have dl:(kvR (fJ es)).length<=4096000:=by unfold kvR;rw[aa,kI];omega
      refine⟨d,_,rfl,wC.t (k:=kyI m.2) A8.at_ (by rw[kc];exact EG) (ko (by omega)),?_⟩
      obtain⟨q1,q2⟩:=xV (t:=e.1) (k:=m.1) (n:=n+1) A8 zN BG bbp hn (by show n+1=(gH (fJ es) e.1).getD 0+1;rw[hl9];rfl)
      have pd:p≠d:=gL zN.at_ A8.at_ (by intro z;cases z)
      have EI:upd H10 d (.dT (putK (kvR (fJ es)) (kyI m.2) (.int (n+1)))) p=some (.lst (as'.map V.ref)):=by rw[fc pd];exact zN.at_
      refine⟨_,rfl,.inl ⟨rfl,_,SqL.of EI⟩,_,rfl,p,_,_,rfl,rfl,EI,ko (by rw[aa,zN.len];omega),?_⟩
      exact kN _ _ ⟨as' ++ [bb],_,_,rfl,fg.upd (fg.upd S10 nd0) np,uY D8,by rw[pZ];exact q1,by rw[pZ];exact q2⟩
     ·have hn:m.2∈(fT e.1 ((mvs l e.1).take j) (fy l ns i)).map (·.1):=by simpa using hn
      have rK:fT e.1 ((mvs l e.1).take (j+1)) (fy l ns i)=fT e.1 ((mvs l e.1).take j) (fy l ns i):=by
       rw[uw];unfold lJ;rw[aH hn]
      exact kN _ _ ⟨as',_,_,rfl,S8,sm8,by rw[rK];exact hs8,by rw[rK];exact ho8⟩
    ·rintro σ H7 ⟨as',y5,y6,rfl,S7,sm,hs7,ho7⟩
     rw[<-CD,bA,<-kF he]at hs7 ho7
     have yl:=(mJ l ns i).length_le
     refine⟨_,rfl,_,_,rfl,rfl,kN1 _ _ ⟨i+1,as',_,_,rfl,S7,hs7,ho7,by omega⟩ ?_⟩
     show(4096001-((i:Int)+1)).toNat<(4096001-(i:Int)).toNat
     omega
   ·have hlt:¬(i:Int)<((as.map V.ref).length:Int):=by simpa using hlt
    rw[aa,ho4.len]at hlt
    have e1:(fy l ns i).length=i:=by omega
    refine kB1 _ _ ⟨_,rfl,_,rfl,by show 2<=sizeLine;decide,λt nt=>?_⟩
    exact k i t p d as _ e1 (S4.trans (eV nt)) eW (ho4.same (eV nt)) (hs4.same (eV nt))
  ·rintro σ H Q Q' hq ⟨x,e1,y,e2,p',ys,e3,h4,i',j',e5,e6,c,e7,q⟩
   exact⟨x,e1,y,e2,p',ys,e3,h4,i',j',e5,e6,c,e7,hq _ _ q⟩
end
theorem jw {n:Nat}(h:n<=1000):n<sizeLine:=er h (by decide)
def yM (K:PySem.W.Frag):Sp:=λvs H Q _=>∃ n m:Int,vs = [.int n,.int m]/\0<=m/\m<=40/\∀ (p:Addr) (ns:List Int) (H':Hp),fg H H'->H p=none->H' p=some (.lst (ns.map V.int))->(ns.length:Int)=m->(∀ x∈ns,0<=x/\x<m)->ns.Nodup->Q (.ref p) H'
def nG (K:PySem.W.Frag):Sp:=λvs H Q _=>∃ (v:V) (l:Ln) (c:Int),vs = [v,.int c]/\Da K H (dL l) v/\gW l/\∀ (v':V) (js':List (Int×Int)) (nm es:List Int) (H':Hp),fg H H'->Da K H' (dL (l.1,js')) v'->Ren l.1 nm es->js'.Perm (l.2.map (rj es))->Q v' H'
abbrev iG:Stmt:=top 30
theorem ir:fM ["_law_number","_law_many","_law_told_here","_law_k"] ["_law_number","_law_many"] (fi iG):=⟨rfl,rfl,rfl,by decide +kernel,rfl,by decide +kernel,by decide +kernel⟩
abbrev iI:Stmt:=top 35
theorem fI:fM ["_law_line_here","_law_cell","_law_many","_law_joints","_law_names","_law_ends","_law_piece","_law_flip","_law_made","_law_k","_law_a","_law_b","_law_joint"] ["_law_line_here","_law_cell"] (fi iI):=⟨rfl,rfl,rfl,by decide +kernel,rfl,by decide +kernel,by decide +kernel⟩
section
variable {P:Program}{w:World}{K:PySem.W.Frag}{mg:Str->Option Value}{base:Heap}{f:Addr}{fd:FuncData}
theorem og (F:Fn K mg "_law_turned_row" iG ["_law_number","_law_many"] f fd)(B:Bl mg):fG P w K mg base CX0 1 f fd ["_law_number","_law_many"] (yM K):=by
 refine F.F.ok ir (λvs H Q E h=>?_) (λcdv A outer s H vs Q E hr h=>?_)
 ·obtain⟨n,m,rfl,_⟩:=h;rfl
 ·obtain⟨n,m,rfl,h0,h1,k⟩:=h
  refine⟨_,(eY (fv (i:=2) ir.nd rfl (Or.inl rfl) (fS eX))
 (eY (gS bh rfl (jk rfl B.range (eU (pv 1) eX)) (ft (i:=3) ir.nd rfl (Or.inl rfl))
 (eY (gv (iV aF eM PySem.F.type_list_insert rZ (pv 2) (eU (fq gI (pv 0) (fq gJ (pv 3) fb)) (eU (pv 3) eX))))
 (fh (fv (i:=0) ir.nd rfl (Or.inl rfl) (fq iM (pv 0) (fq gJ (pv 3) fb))))))
 (fh (fP (pv 2))))),?_⟩
  refine⟨aM _,λt ht=>?_⟩
  refine⟨_,rfl,m,rfl,by omega,by omega,oW (λi σ H3=>∃ (n:Int) (ns:List Int) (x:Option V),σ = [some (.int n),some (.int m),some (.ref t),x]/\H3=upd H t (.lst (ns.map V.int))/\ns.length=i/\(∀ x∈ns,0<=x/\x<(i:Int))/\ns.Nodup)
   ⟨n,[],none,rfl,rfl,rfl,λx hx=>(nomatch hx),List.nodup_nil⟩ ?_ ?_⟩
  ·rintro i σ H3 hi ⟨n,ns,x,rfl,rfl,hlen,hb,hnd⟩
   have i0:(0:Int)+(i:Nat)=(i:Int):=by omega
   rw[i0]
   have r0:0<=n%((i:Int)+1):=dU _ (by omega)
   have r1:n%((i:Int)+1)<(i:Int)+1:=dt _ (by omega)
   refine⟨_,rfl,.inl ⟨rfl,_,SqL.of eW⟩,_,rfl,_,rfl,_,_,rfl,rfl,_,_,rfl,rfl,(by show(0:Int)<(i:Int)+1;omega),_,rfl,t,_,_,_,rfl,rfl,eW,r0,?_,?_,?_⟩
   ·show n%((i:Int)+1)<=((ns.map V.int).length:Int)
    rw[aa,hlen];omega
   ·rw[aa,hlen];exact jw (by omega)
   refine⟨_,rfl,_,rfl,_,_,rfl,rfl,_,_,rfl,rfl,⟨by show(0:Int)<(i:Int)+1;omega,by show(i:Int)+1<1073741824;omega⟩,?_⟩
   have pm:=uI ns (n%((i:Int)+1)).toNat (i:Int)
   refine⟨_,ns.take (n%((i:Int)+1)).toNat++(i:Int)::ns.drop (n%((i:Int)+1)).toNat,_,rfl,?_,?_,?_,?_⟩
   ·rw[pL,aw,aS,List.map_take,eN]
   ·rw[pm.length_eq,aX,hlen]
   ·intro x hx
    rcases aO.mp (pm.mem_iff.mp hx)with z |z
    ·omega
    ·have:=hb x z;omega
   ·refine pm.nodup_iff.mpr (cn.mpr ⟨λz=>?_,hnd⟩)
    have:=(hb _ z).2
    omega
  ·rintro σ H3 ⟨n,ns,x,rfl,rfl,hlen,hb,hnd⟩
   exact⟨_,rfl,k t ns _ (eV ht) ht eW (by omega) (λx hx=>by have:=hb x hx;omega) hnd⟩
end
section
variable {P:Program}{w:World}{K:PySem.W.Frag}{mg:Str->Option Value}{base:Heap}{f:Addr}{fd:FuncData}
theorem qz {f1 f2:Addr}{fd1 fd2:FuncData}(F:Fn K mg "_law_renamed" iI ["_law_line_here","_law_cell"] f fd)(fk:Fn K mg "_law_mix" jS ["_law_cell","_law_k"] f1 fd1)(gQ:Fn K mg "_law_turned_row" iG ["_law_number","_law_many"] f2 fd2)
  (B:Bl mg):fG P w K mg base CX0 2 f fd ["_law_line_here","_law_cell"] (nG K):=by
 have gP:fG P w K mg base CX0 1 f1 fd1 ["_law_cell","_law_k"] sN:=nH fk B
 have o6:fG P w K mg base CX0 1 f2 fd2 ["_law_number","_law_many"] (yM K):=og gQ B
 refine F.F.ok fI (λvs H Q E h=>?_) (λcdv A outer s H vs Q E hr h=>?_)
 ·obtain⟨v,l,c,rfl,_⟩:=h;rfl
 ·obtain⟨v,⟨m,js⟩,c,rfl,hv,G,k⟩:=h
  have h1:1<=m:=G.one
  have h14:m<=14:=G.most
  have h40:m<=40:=by omega
  have hjl:js.length<=24:=G.len
  obtain⟨a,b,rfl,ht,us,hl,hq⟩:=mZ hv
  dsimp only at ht hq k
  refine⟨_,(eY (yX (pv 0) (jE (n:=2) rfl (fQ (ft (i:=2) fI.nd rfl (Or.inl rfl)) (fQ (ft (i:=3) fI.nd rfl (Or.inl rfl)) iL))))
 (eY (fv (i:=4) fI.nd rfl (Or.inl rfl) (fo o6 (hr.mono (by decide)) rfl gQ.m gQ.F.kp gQ.b .nil fK (eU (fo gP (hr.mono (by decide)) rfl fk.m fk.F.kp fk.b .nil fK (eU (pv 1) (eU fb eX))) (eU (pv 2) eX))))
 (eY (fv (i:=5) fI.nd rfl (Or.inl rfl) (fS eX))
 (eY (gS bh rfl (jk rfl B.range (eU (pv 2) eX)) (ft (i:=6) fI.nd rfl (Or.inl rfl))
 (eY (fv (i:=7) fI.nd rfl (Or.inl rfl) (fq gI (fo gP (hr.mono (by decide)) rfl fk.m fk.F.kp fk.b .nil fK (eU (pv 1) (eU (fq gJ fb (pv 6)) eX))) fb))
 (fh (fv (i:=5) fI.nd rfl (Or.inl rfl) (fq kz (pv 5) (fS (eU (fq gJ (fq iC fb (gz gh (pv 4) (pv 6) (λ_ _=>rfl))) (pv 7)) (eU (fq zh (fq gJ (fq iC fb (gz gh (pv 4) (pv 6) (λ_ _=>rfl))) fb) (pv 7)) eX))))))))
 (eY (fv (i:=8) fI.nd rfl (Or.inl rfl) (fS eX))
 (eY (gS bh rfl (wY rfl B.enumerate (eU (pv 3) eX)) (jE (n:=2) rfl (fQ (ft (i:=9) fI.nd rfl (Or.inl rfl)) (fQ (jE (n:=2) rfl (fQ (ft (i:=10) fI.nd rfl (Or.inl rfl)) (fQ (ft (i:=11) fI.nd rfl (Or.inl rfl)) iL))) iL)))
 (eY (fv (i:=12) fI.nd rfl (Or.inl rfl) (gR (eU (fx (m6 rfl) rfl B.min boot_min (eU (gz gh (pv 5) (pv 10) (λ_ _=>rfl)) (eU (gz gh (pv 5) (pv 11) (λ_ _=>rfl)) eX))) (eU (fx (m7 rfl) rfl B.max boot_max (eU (gz gh (pv 5) (pv 10) (λ_ _=>rfl)) (eU (gz gh (pv 5) (pv 11) (λ_ _=>rfl)) eX))) eX))))
 (fh (gv (iV aF eM PySem.F.type_list_insert rZ (pv 8) (eU (fq gI (fo gP (hr.mono (by decide)) rfl fk.m fk.F.kp fk.b .nil fK (eU (pv 1) (eU (fq gJ fb (pv 9)) eX))) (fq gJ (pv 9) fb)) (eU (pv 12) eX)))))))
 (fh (fP (gR (eU (pv 2) (eU (pv 8) eX))))))))))),nm3 λR1 hR1=>?_⟩
  refine⟨_,rfl,a,_,rfl,ht,rfl,_,_,rfl,_,_,rfl,rfl,?_⟩
  refine⟨_,rfl,c,0,rfl,by decide,by decide,λn n0 n1=>⟨_,rfl,n,m,rfl,by omega,h40,λpn nm H1 s1 hn1 hn2 HC nb nnd=>?_⟩⟩
  refine⟨aM _,λq0 nq0=>?_⟩
  refine hR1 _ _ _ (nm2 λR2 hR2=>?_)
  refine⟨_,rfl,m,rfl,by omega,by omega,nJ (λi σ H3=>∃ (q:Addr) (es:List Int) (x6 x7:Option V),σ = [some (.ref a),some (.int c),some (.int m),some (.ref b),some (.ref pn),some (.ref q),x6,x7,none,none,none,none,none]/\fg H1 H3/\H3 q=some (.lst (es.map V.int))/\es.length=2*i/\(∀ j,j<i->∃ f:Int,(f=0\/f=1)/\es[2*j]? = some (2*nm.getD j 0+f)/\es[2*j+1]? = some (2*nm.getD j 0+1-f)))
   ⟨q0,[],none,none,rfl,eV nq0,eW,rfl,λj hj=>absurd hj (Nat.not_lt_zero j)⟩ ?_ ?_⟩
  ·rintro i σ H3 N R B kN _ hi ⟨q,es,x6,x7,rfl,S3,hq3,yq,eb⟩
   have i0:(0:Int)+(i:Nat)=(i:Int):=by omega
   rw[i0]
   obtain⟨nx,hnx,Iu,hat⟩:=wx (ns:=nm) (i:=(i:Int)) (by omega) (by omega)
   have nbx:=nb nx Iu
   have hSn:SqL K H3 pn (nm.map V.int):=SqL.of (S3 _ _ hn2)
   refine⟨_,rfl,_,rfl,_,_,rfl,rfl,c,_,rfl,by show(0:Int)<=20+i;omega,by show 20+(i:Int)<=1000;omega,λn n0 n1=>⟨_,_,rfl,rfl,(by show(0:Int)<_;decide),?_⟩⟩
   refine⟨_,rfl,_,rfl,_,rfl,pn,_,_,_,rfl,rfl,hSn,hat,_,_,rfl,rfl,.inl ⟨by decide,by decide⟩,_,rfl,_,_,rfl,rfl,_,rfl,_,rfl,pn,_,_,_,rfl,rfl,hSn,hat,_,_,rfl,rfl,.inl ⟨by decide,by decide⟩,_,_,rfl,rfl,_,rfl,_,_,rfl,rfl,by show 2<=sizeLine;decide,λq1 nq1=>?_⟩
   refine⟨q,q1,_,_,rfl,rfl,by rw[fc (eZ hq3 nq1)];exact hq3,eW,?_,λq2 nq2=>?_⟩
   ·refine b9 (jw ?_)
    rw[aa,yq]
    show 2*i+2<=1000
    omega
   refine kN _ _ ⟨q2,es ++ [2*nx+n%2,2*nx+1-n%2],_,_,rfl,S3.trans ((eV nq1).trans (eV nq2)),?_,?_,?_⟩
   ·rw[eW,aw];rfl
   ·rw[ah,yq];show 2*i+2=_;omega
   ·intro j hj
    have EJ:nm.getD i 0=nx:=by rw[aP,show i=((i:Int)).toNat by omega,hnx];rfl
    rcases Nat.lt_succ_iff_lt_or_eq.mp hj with z |z
    ·obtain⟨f,hf,e1,e2⟩:=eb j z
     exact⟨f,hf,by rw[ao (by omega)];exact e1,by rw[ao (by omega)];exact e2⟩
    ·subst z
     refine⟨n%2,by omega,?_,?_⟩
     ·rw[ar (by omega),yq,b8,EJ];rfl
     ·rw[ar (by omega),yq,show 2*j+1-2*j=1 by omega,EJ];rfl
  rintro σ H3 ⟨q,es,x6,x7,rfl,S3,hq3,yq,eb⟩
  have R:Ren m nm es:=⟨HC,nb,nnd,by omega,λj hj=>eb j (by omega)⟩
  refine⟨aM _,λt nt=>?_⟩
  have hl3:SqL K H3 b us:=(s1.trans S3).seq hl
  have hq4:Das K H3 (js.map dP) us:=Das.same (s1.trans S3) hq
  have hul:us.length=js.length:=by rw[Dgs.length hq,aa]
  refine hR2 _ _ _ ?_
  refine⟨_,rfl,b,rfl,⟨us,(eV nt).seq hl3⟩,sr (K:=K) (a:=b) (xs:=us) (λi σ H4=>∃ (vs:List V) (js':List (Int×Int)) (x9 x10 x11 x12:Option V),σ = [some (.ref a),some (.int c),some (.int m),some (.ref b),some (.ref pn),some (.ref q),x6,x7,some (.ref t),x9,x10,x11,x12]/\fg H3 H4/\H4 t=some (.lst vs)/\Ps K H4 js' vs/\js'.length=i/\js'.Perm ((js.take i).map (rj es)))
   ⟨[],[],none,none,none,none,rfl,eV nt,eW,fV.mpr rfl,rfl,.refl _⟩ (λi σ H4 _ ⟨_,_,_,_,_,_,_,S4,_⟩=>S4.seq hl3) ?_ ?_⟩
  ·rintro i x σ H4 p0 N R B kN _ hi ⟨vs,js',x9,x10,x11,x12,rfl,S4,ht4,D,CL,jb⟩ n0
   have hil:i<us.length:=(af.mp hi).1
   have S5:fg H3 (upd H4 p0 (.tup [.int i,x])):=S4.trans (eV n0)
   obtain⟨ad,⟨ea,eb'⟩,e1,rfl,hpr⟩:=mf (Das.same S5 hq4) hi
   dsimp only at hpr
   have hbd:=G.ok (ea,eb') (aA e1)
   unfold okJ at hbd
   dsimp only at hbd
   obtain⟨xa,ga,ma,EW⟩:=wx (ns:=es) (i:=ea) hbd.1.1 (by omega)
   obtain⟨xb,gb,mb,EV⟩:=wx (ns:=es) (i:=eb') hbd.2.1.1 (by omega)
   have hrj:rj es (ea,eb')=(min xa xb,max xa xb):=by
    unfold rj rho
    dsimp only
    rw[aP,aP,ga,gb];rfl
   refine⟨p0,_,rfl,SqT.of eW,rfl,_,_,rfl,_,_,rfl,ad,_,rfl,hpr,rfl,_,_,rfl,_,_,rfl,rfl,rfl,?_⟩
   have hSe:SqL K (upd H4 p0 (.tup [.int i,.ref ad])) q (es.map V.int):=SqL.of (S5 _ _ hq3)
   refine⟨_,rfl,_,rfl,q,_,_,_,rfl,rfl,hSe,EW,_,rfl,_,rfl,q,_,_,_,rfl,rfl,hSe,EV,_,_,rfl,?_⟩
   refine⟨_,rfl,_,rfl,q,_,_,_,rfl,rfl,hSe,EW,_,rfl,_,rfl,q,_,_,_,rfl,rfl,hSe,EV,_,_,rfl,by show 2<=sizeLine;decide,λp1 n1=>?_⟩
   rw[tM,tN]
   have ht5:(upd (upd H4 p0 (.tup [.int i,.ref ad])) p1 (.tup [.int (min xa xb),.int (max xa xb)])) t=some (.lst vs):=((eV n0).trans (eV n1)) _ _ ht4
   have vl:vs.length=i:=by rw[D.len,CL]
   refine⟨_,rfl,.inl ⟨rfl,_,SqL.of ht5⟩,_,rfl,_,rfl,_,_,rfl,rfl,c,_,rfl,by show(0:Int)<=40+i;omega,by show 40+(i:Int)<=1000;omega,λn n0' n1'=>⟨_,rfl,_,_,rfl,rfl,_,_,rfl,rfl,(by show(0:Int)<(i:Int)+1;omega),_,rfl,t,vs,_,_,rfl,rfl,ht5,?_,?_,jw (by omega),?_⟩⟩
   ·exact dU _ (by omega)
   ·have:=dt n (show(0:Int)<(i:Int)+1 by omega)
    show n%((i:Int)+1)<=(vs.length:Int)
    omega
   have pm:=uI js' (n%((i:Int)+1)).toNat (min xa xb,max xa xb)
   refine kN _ _ ⟨_,js'.take (n%((i:Int)+1)).toNat++(min xa xb,max xa xb)::js'.drop (n%((i:Int)+1)).toNat,_,_,_,_,rfl,fg.upd (S4.trans ((eV n0).trans (eV n1))) nt,eW,?_,?_,?_⟩
   ·exact Ps.ins (x:=(min xa xb,max xa xb)) _ (D.same ((eV n0).trans (eV n1))) ht5 eW
   ·rw[pm.length_eq,aX,CL]
   ·rw[bD,e1,aw]
    refine pm.trans ?_
    show((min xa xb,max xa xb)::js').Perm ((js.take i).map (rj es) ++ [rj es (ea,eb')])
    rw[hrj]
    exact(jb.cons _).trans (List.perm_append_singleton _ _).symm
  rintro σ H4 ⟨vs,js',x9,x10,x11,x12,rfl,S4,ht4,D,CL,jb⟩
  refine⟨_,rfl,_,rfl,by show 2<=sizeLine;decide,λp np=>?_⟩
  have S5:=(eV (o:=.tup [.int m,.ref t]) np)
  rw[hul,bA]at jb
  exact k _ js' nm es _ (s1.trans (S3.trans (S4.trans S5))) (iW eW ((D.same S5).da (S5 _ _ ht4))) R jb
end
def wK (K:PySem.W.Frag):Sp:=λvs H Q _=>∃ (a:Addr) (ns:List Int),vs = [.ref a]/\SqL K H a (ns.map V.int)/\Kh K H Q
abbrev lq:Stmt:=top 33
theorem gN:fM ["_law_script","_law_cell","_law_many","_law_joints","_law_k","_law_number","_law_one","_law_other_here"] ["_law_script"] (fi lq):=⟨rfl,rfl,rfl,by decide +kernel,rfl,by decide +kernel,by decide +kernel⟩
section
variable {P:Program}{w:World}{K:PySem.W.Frag}{mg:Str->Option Value}{base:Heap}{f:Addr}{fd:FuncData}
theorem uR {f1 f2 f3 f4:Addr}{fd1 fd2 fd3 fd4:FuncData}(F:Fn K mg "_law_line" lq ["_law_script"] f fd)(fk:Fn K mg "_law_mix" jS ["_law_cell","_law_k"] f1 fd1)(fu:Fn K mg "_law_cell_at" iJ ["_law_script","_law_k"] f2 fd2)
  (fw:Fn K mg "_law_other" iz ["_law_end"] f3 fd3) (fZ:Fn K mg "_law_renamed" iI ["_law_line_here","_law_cell"] f4 fd4) (ik:fG P w K mg base CX0 2 f4 fd4 ["_law_line_here","_law_cell"] (nG K))
  (B:Bl mg):fG P w K mg base CX0 3 f fd ["_law_script"] (wK K):=by
 have gP:fG P w K mg base CX0 1 f1 fd1 ["_law_cell","_law_k"] sN:=nH fk B
 have gX:fG P w K mg base CX0 1 f2 fd2 ["_law_script","_law_k"] (sQ K):=lU fu B
 have hV:fG P w K mg base CX0 1 f3 fd3 ["_law_end"] i9:=jO fw
 refine F.F.ok gN (λvs H Q E h=>?_) (λcdv A outer s H vs Q E hr h=>?_)
 ·obtain⟨a,ns,rfl,_⟩:=h;rfl
 ·obtain⟨a,ns,rfl,hS,k⟩:=h
  refine⟨_,(eY (fv (i:=1) gN.nd rfl (Or.inl rfl) (fo gX (hr.mono (by decide)) rfl fu.m fu.F.kp fu.b .nil fK (eU (pv 0) (eU fb eX))))
 (eY (fv (i:=2) gN.nd rfl (Or.inl rfl) (fq gJ fb (fq gI (fo gP (hr.mono (by decide)) rfl fk.m fk.F.kp fk.b .nil fK (eU (pv 1) (eU fb eX))) fb)))
 (eY (ie (gM (ky (fq gI (fo gP (hr.mono (by decide)) rfl fk.m fk.F.kp fk.b .nil fK (eU (pv 1) (eU fb eX))) fb) fb))
 (fh (fv (i:=2) gN.nd rfl (Or.inl rfl) (fq gJ fb (fq gI (fo gP (hr.mono (by decide)) rfl fk.m fk.F.kp fk.b .nil fK (eU (pv 1) (eU fb eX))) fb)))) gg)
 (eY (fv (i:=3) gN.nd rfl (Or.inl rfl) (fS eX))
 (eY (gS bh rfl (jk rfl B.range (eU (fq gI (fo gP (hr.mono (by decide)) rfl fk.m fk.F.kp fk.b .nil fK (eU (pv 1) (eU fb eX))) (fq gJ (fq iC fb (pv 2)) fb)) eX)) (ft (i:=4) gN.nd rfl (Or.inl rfl))
 (eY (fv (i:=5) gN.nd rfl (Or.inl rfl) (fo gP (hr.mono (by decide)) rfl fk.m fk.F.kp fk.b .nil fK (eU (fo gX (hr.mono (by decide)) rfl fu.m fu.F.kp fu.b .nil fK (eU (pv 0) (eU (fq gJ fb (fq gI (pv 4) fb)) eX))) (eU (fq gJ fb (pv 4)) eX))))
 (eY (fv (i:=6) gN.nd rfl (Or.inl rfl) (fq gI (pv 5) (fq iC fb (pv 2))))
 (eY (fv (i:=7) gN.nd rfl (Or.inl rfl) (fq gI (fq iM (pv 5) fb) (fq iC fb (pv 2))))
 (eY (ie (PW.pt (vM (gM (ky (fq gI (fo gP (hr.mono (by decide)) rfl fk.m fk.F.kp fk.b .nil fK (eU (pv 1) (eU fb eX))) fb) fb)) (wV (gM (ky (fq gI (pv 6) fb) (fq gI (pv 7) fb))))))
 (fh (fv (i:=7) gN.nd rfl (Or.inl rfl) (fo hV (hr.mono (by decide)) rfl fw.m fw.F.kp fw.b .nil fK (eU (pv 7) eX)))) gg)
 (fh (ie (PW.pt (vM (gM (Ct (fq iM (pv 6) fb) (fq iM (pv 7) fb))) (vM (iu (kJ hr.units) (gR (eU (fx (m6 rfl) rfl B.min boot_min (eU (pv 6) (eU (pv 7) eX))) (eU (fx (m7 rfl) rfl B.max boot_max (eU (pv 6) (eU (pv 7) eX))) eX))) (pv 3) (by with_unfolding_all rfl)) (wV (gM (qq (fx fR rfl B.len de (eU (pv 3) eX)) fb))))))
 (fh (gv (iV aF aR aQ gk (pv 3) (eU (gR (eU (fx (m6 rfl) rfl B.min boot_min (eU (pv 6) (eU (pv 7) eX))) (eU (fx (m7 rfl) rfl B.max boot_max (eU (pv 6) (eU (pv 7) eX))) eX))) eX)))) gg)))))))
 (fh (fP (fo ik (hr.mono (by decide)) rfl fZ.m fZ.F.kp fZ.b .nil fK (eU (gR (eU (pv 2) (eU (pv 3) eX))) (eU (fo gX (hr.mono (by decide)) rfl fu.m fu.F.kp fu.b .nil fK (eU (pv 0) (eU fb eX))) eX)))))))))),?_⟩
  refine⟨_,rfl,a,ns,0,rfl,hS,by decide,λcell=>?_⟩
  refine⟨_,rfl,cell,0,rfl,by decide,by decide,λn1 _ _=>⟨_,_,rfl,rfl,(by show(0:Int)<_;decide),_,_,rfl,rfl,?_⟩⟩
  dsimp only[kL]
  refine cut (λσ H'=>H'=H/\∃ m,1<=m/\m<=14/\σ = [some (.ref a),some (.int cell),some (.int m),none,none,none,none,none]) (λN R B C kN kR=>?_) ?_
  ·refine⟨_,rfl,cell,1,rfl,by decide,by decide,λn2 _ _=>⟨_,_,rfl,rfl,(by show(0:Int)<_;decide),_,_,rfl,rfl,_,rfl,iE (λ_=>?_) (λ_=>kN _ _ ⟨rfl,1+n1%8,by omega,by omega,rfl⟩)⟩⟩
   exact⟨_,rfl,cell,0,rfl,by decide,by decide,λn3 _ _=>⟨_,_,rfl,rfl,(by show(0:Int)<_;decide),_,_,rfl,rfl,kN _ _ ⟨rfl,9+n3%6,by omega,by omega,rfl⟩⟩⟩
  rintro σ H0 ⟨e,m,m1,m2,rfl⟩
  rw[e]
  clear e
  refine⟨aM _,λt nt=>?_⟩
  refine⟨_,rfl,cell,2,rfl,by decide,by decide,λn4 n40 _=>⟨_,rfl,_,_,rfl,rfl,.inl ⟨by decide,by decide⟩,_,_,rfl,rfl,_,_,rfl,rfl,(by show(0:Int)<2*m+4;omega),?_⟩⟩
  have q0:0<=n4%(2*m+4):=dU _ (by omega)
  have q1:n4%(2*m+4)<2*m+4:=dt _ (by omega)
  refine⟨_,rfl,by show -(2 ^ 62)<=n4%(2*m+4);omega,by show n4%(2*m+4)<2 ^ 62;omega,nJ (λi σ H3=>∃ (vs:List V) (js:List (Int×Int)) (x4 x5 x6 x7:Option V),σ = [some (.ref a),some (.int cell),some (.int m),some (.ref t),x4,x5,x6,x7]/\fg H H3/\H3 t=some (.lst vs)/\Ps K H3 js vs/\gW (m,js))
   ⟨[],[],none,none,none,none,rfl,eV nt,eW,fV.mpr rfl,⟨m1,m2,aM _,λp hp=>(nomatch hp),List.nodup_nil⟩⟩ ?_ ?_⟩
  ·rintro i σ H3 N R B kN _ hi ⟨vs,js,x4,x5,x6,x7,rfl,S3,ht3,D,G⟩
   have i0:(0:Int)+(i:Nat)=(i:Int):=by omega
   rw[i0]
   have hi':(i:Int)<32:=by
    have:(i:Int)<n4%(2*m+4):=by
     have h:i<(n4%(2*m+4)).toNat:=hi
     omega
    omega
   refine⟨_,rfl,_,rfl,_,_,rfl,rfl,(by show(0:Int)<_;decide),_,_,rfl,rfl,a,ns,_,rfl,S3.seq hS,by show(0:Int)<=2+(i:Int)%8;omega,λc5=>⟨_,rfl,_,_,rfl,rfl,c5,_,rfl,by show(0:Int)<=10+(i:Int);omega,by show 10+(i:Int)<=1000;omega,λn5 n50 n51=>?_⟩⟩
   refine⟨_,rfl,_,rfl,_,_,rfl,rfl,.inl ⟨by decide,by decide⟩,_,_,rfl,rfl,(by show(0:Int)<2*m;omega),?_⟩
   refine⟨_,rfl,_,_,rfl,rfl,⟨by decide,by decide⟩,_,rfl,_,_,rfl,rfl,.inl ⟨by decide,by decide⟩,_,_,rfl,rfl,(by show(0:Int)<2*m;omega),?_⟩
   dsimp only
   have o0:0<=n5%(2*m):=dU _ (by omega)
   have o1:n5%(2*m)<2*m:=dt _ (by omega)
   have r0:0<=n5/64%(2*m):=dU _ (by omega)
   have r1:n5/64%(2*m)<2*m:=dt _ (by omega)
   generalize n5%(2*m)=one at o0 o1
   generalize n5/64%(2*m)=oh at r0 r1
   dsimp only[kL]
   refine cut (λσ H'=>H'=H3/\∃ oh',0<=oh'/\oh'<2*m/\σ = [some (.ref a),some (.int cell),some (.int m),some (.ref t),some (.int (i:Int)),some (.int n5),some (.int one),some (.int oh')]) (λN2 R2 B2 C2 k2 _=>?_) ?_
   ·refine⟨_,rfl,cell,3,rfl,by decide,by decide,λn6 _ _=>⟨_,_,rfl,rfl,(by show(0:Int)<_;decide),_,_,rfl,rfl,_,rfl,iE (λ_=>?_) (λ_=>oQ (k2 _ _ ⟨rfl,oh,r0,r1,rfl⟩))⟩⟩
    refine⟨_,rfl,_,_,rfl,rfl,(by show(0:Int)<_;decide),_,rfl,_,_,rfl,rfl,(by show(0:Int)<_;decide),_,_,rfl,rfl,_,rfl,iE (λ_=>?_) (λ_=>k2 _ _ ⟨rfl,oh,r0,r1,rfl⟩)⟩
    exact⟨_,rfl,oh,rfl,k2 _ _ ⟨rfl,oth oh,vP r0,by unfold oth;omega,rfl⟩⟩
   rintro σ H0 ⟨e,oh',r0',r1',rfl⟩
   rw[e]
   clear e r0 r1
   refine⟨_,rfl,_,_,rfl,rfl,⟨by decide,by decide⟩,_,rfl,_,_,rfl,rfl,⟨by decide,by decide⟩,_,_,rfl,rfl,_,rfl,?_⟩
   refine iE (λhne=>?_) (λ_=>oQ (kN _ _ ⟨vs,js,_,_,_,_,rfl,S3,ht3,D,G⟩))
   refine⟨_,rfl,_,rfl,_,_,rfl,_,rfl,_,rfl,_,_,rfl,by show 2<=sizeLine;decide,λp1 n1=>?_⟩
   rw[tM,tN]
   have ht4:=(eV (o:=.tup [.int (min one oh'),.int (max one oh')]) n1) _ _ ht3
   have D4:=D.same (eV (o:=.tup [.int (min one oh'),.int (max one oh')]) n1)
   refine⟨_,rfl,_,_,D4.da ht4,hG.mpr ⟨p1,_,rfl,SqT.of eW,Dgs.two (iq.mpr rfl) (iq.mpr rfl)⟩,Cz js,Eh (_,_),_,rfl,?_⟩
   refine iE (λhni=>?_) (λ_=>oQ (kN _ _ ⟨vs,js,_,_,_,_,rfl,S3.trans (eV n1),ht4,D4,G⟩))
   refine⟨_,rfl,t,_,rfl,.inl (SqL.of ht4),_,_,rfl,rfl,_,rfl,?_⟩
   refine iE (λhlt=>?_) (λ_=>kN _ _ ⟨vs,js,_,_,_,_,rfl,S3.trans (eV n1),ht4,D4,G⟩)
   have hlt:(vs.length:Int)<24:=by simpa using hlt
   have vl:=D.len
   refine⟨_,rfl,.inl ⟨rfl,_,SqL.of ht4⟩,_,rfl,_,rfl,_,_,rfl,_,rfl,_,rfl,_,_,rfl,by show 2<=sizeLine;decide,λp2 n2=>?_⟩
   rw[tM,tN]
   have S5:=(eV n1).trans (eV (o:=.tup [.int (min one oh'),.int (max one oh')]) n2)
   refine⟨t,vs,_,rfl,rfl,S5 _ _ ht3,jw (by omega),?_⟩
   refine kN _ _ ⟨_,js ++ [(min one oh',max one oh')],_,_,_,_,rfl,fg.upd (S3.trans S5) nt,eW,Ps.push (x:=(min one oh',max one oh')) (D.same S5) (S5 _ _ ht3) eW,?_⟩
   have Iq:(min one oh',max one oh')∉js:=λz=>by
    have e:=Ff js (min one oh',max one oh')
    unfold dP at e
    dsimp only at e
    unfold dP at hni
    rw[e]at hni
    simp[z]at hni
   have Ir:one/2≠oh'/2:=by simpa using hne
   exact wk G Ir o0 o1 r0' r1' Iq (by omega)
  ·rintro σ H3 ⟨vs,js,x4,x5,x6,x7,rfl,S3,ht3,D,G⟩
   refine⟨_,rfl,_,rfl,by show 2<=sizeLine;decide,λp np=>?_⟩
   have S4:=eV (o:=.tup [.int m,.ref t]) np
   refine⟨_,rfl,a,ns,1,rfl,(S3.trans S4).seq hS,by decide,λc7=>?_⟩
   refine⟨_,(m,js),c7,rfl,iW eW ((D.same S4).da (S4 _ _ ht3)),G,λv' js' nm es H' s5 d5 R pm=>k v' (m,js') H' (S3.trans (S4.trans s5)) d5 (R.line G pm)⟩
end
structure Cn (mg:Str->Option Value)(tk:Tok):Prop where
 pD:mg "MOST_TRAINS" = some (.int 300 tk)
structure LsW (H0 H:Hp)(q:Addr)(as:List Addr)(ts:List (List Int)):Prop where
 at_:H q=some (.lst (as.map V.ref))
 len:as.length=ts.length
 each:∀ (i:Nat) a t,as[i]? = some a->ts[i]? = some t->H0 a=none/\a≠q/\H a=some (.lst (t.map V.int))
theorem LsW.same {H0 H H':Hp}{q:Addr}{as:List Addr}{ts:List (List Int)}(h:LsW H0 H q as ts)(s:fg H H'):LsW H0 H' q as ts:=
 ⟨s _ _ h.at_,h.len,λi a t h1 h2=>⟨(h.each i a t h1 h2).1,(h.each i a t h1 h2).2.1,s _ _ (h.each i a t h1 h2).2.2⟩⟩
def Bes (H0 H:Hp)(p q:Addr)(as:List Addr)(ts:List (List Int)):Prop:=as.length=ts.length/\∀ (i:Nat) a t,as[i]? = some a->ts[i]? = some t->H0 a=none/\a≠p/\a≠q/\H a=some (.lst (t.map V.int))
theorem Bes.same {H0 H H':Hp}{p q:Addr}{as:List Addr}{ts:List (List Int)}(h:Bes H0 H p q as ts)(s:fg H H'):Bes H0 H' p q as ts:=
 ⟨h.1,λi a t h1 h2=>by obtain⟨a1,a2,a3,a4⟩:=h.2 i a t h1 h2;exact⟨a1,a2,a3,s _ _ a4⟩⟩
theorem Bes.DI {H0 H:Hp}{p q:Addr}{as:List Addr}{ts:List (List Int)}{o:HO}(h:Bes H0 H p q as ts):Bes H0 (upd H p o) p q as ts:=
 ⟨h.1,λi a t h1 h2=>by obtain⟨a1,a2,a3,a4⟩:=h.2 i a t h1 h2;exact⟨a1,a2,a3,by rw[fc a2];exact a4⟩⟩
theorem Bes.Ax {H0 H:Hp}{p q:Addr}{as:List Addr}{ts:List (List Int)}{o:HO}(h:Bes H0 H p q as ts):Bes H0 (upd H q o) p q as ts:=
 ⟨h.1,λi a t h1 h2=>by obtain⟨a1,a2,a3,a4⟩:=h.2 i a t h1 h2;exact⟨a1,a2,a3,by rw[fc a3];exact a4⟩⟩
theorem Bes.app {H0 H:Hp}{p q:Addr}{as bs:List Addr}{ts us:List (List Int)}(h:Bes H0 H p q as ts)(k:Bes H0 H p q bs us):Bes H0 H p q (as++bs) (ts++us):=by
 refine⟨by rw[ah,ah,h.1,k.1],λi a t h1 h2=>?_⟩
 by_cases c:i<as.length
 ·rw[ao c]at h1
  rw[ao (by rw[<-h.1];exact c)]at h2
  exact h.2 i a t h1 h2
 ·rw[ar (by omega)]at h1
  rw[ar (by rw[<-h.1];omega),<-h.1]at h2
  exact k.2 _ a t h1 h2
theorem Bes.drop {H0 H:Hp}{p q:Addr}{as:List Addr}{ts:List (List Int)}(h:Bes H0 H p q as ts):Bes H0 H p q as.dropLast ts.dropLast:=by
 refine⟨by rw[cm,cm,h.1],λi a t h1 h2=>?_⟩
 rw[dC]at h1 h2
 split at h1
 ·split at h2
  ·exact h.2 i a t h1 h2
  ·cases h2
 ·cases h1
def rG (H0:Hp)(p q:Addr)(H:Hp)(t:List Int)(v:V):Prop:=∃ a,v = .ref a/\H0 a=none/\a≠p/\a≠q/\H a=some (.lst (t.map V.int))
theorem rG.mono {H0:Hp}{p q:Addr}{H H':Hp}(t:List Int)(v:V)(s:fg H H')(h:rG H0 p q H t v):rG H0 p q H' t v:=by
 obtain⟨a,h1,h2,h3,h4,h5⟩:=h
 exact⟨a,h1,h2,h3,h4,s _ _ h5⟩
theorem t9 {H0:Hp}{p q:Addr}{H:Hp} :∀ {ts:List (List Int)}{vs:List V},Pw (rG H0 p q H) ts vs->∃ as,vs=as.map V.ref/\Bes H0 H p q as ts
 |[],[],_=>⟨[],rfl,rfl,λi a t h=>by simp at h⟩
 |t::ts,v::vs,h=>by
  obtain⟨a,rfl,h2,h3,h4,h5⟩:=h.1
  obtain⟨as,rfl,hb⟩:=t9 h.2
  refine⟨a::as,rfl,Bes.app (as:=[a]) (ts:=[t]) ⟨rfl,λi b u h1 h2'=>?_⟩ hb⟩
  match i,h1,h2' with
  | 0,h1,h2'=>cases h1;cases h2';exact⟨h2,h3,h4,h5⟩
def nodes (l:Ln):Nat->List Int->Nat
 | 0,_=>1
 |d+1,t=>1+((gr l t).map (nodes l d)).sum
def msz (l:Ln)(n:Nat)(ws:List (List Int)):Nat:=(ws.map λt=>nodes l (n-t.length) t).sum
theorem nK {α β:Type}{f g:α->List β} :∀ {l:List α},(∀ x∈l,f x=g x)->l.flatMap f=l.flatMap g
 |[],_=>rfl
 |x::l,h=>by rw[cz,cz,h x aC,nK λy hy=>h y (aE _ hy)]
theorem wH (a b:List Nat):(a++b).sum=a.sum+b.sum:=List.sum_append_nat ..
theorem uh {c:TT}{tb:TS}{D:Ends}{σ:L2.St}{H:Hp}(W:Nat->L2.St->Hp->Prop){m0:Nat}(h0:W m0 σ H)
  (hs:∀ m σ H (N:L2.St->Hp->Prop) (R:VK) (B:L2.St->Hp->Prop),(∀ m' σ' H',m'<m->W m' σ' H'->N σ' H')->(∀ v H',D.rt v H'->R v H')->(∀ σ' H',D.nx σ' H'->B σ' H')->W m σ H->c σ H λb H1=>if b=true then tb ⟨N,R,B,N⟩ σ H1 else B σ H1)
  (mono:∀ σ H Q Q',(∀ b H1,Q b H1->Q' b H1)->c σ H Q->c σ H Q'):oI c tb D σ H:=by
 refine⟨W,⟨m0,h0⟩,λm σ H w=>mono _ _ _ _ (λb H1 q=>?_) (hs m σ H (λσ' H'=>∃ m',m'<m/\W m' σ' H') D.rt D.nx (λm' σ' H' a b=>⟨m',a,b⟩) (λ_ _ z=>z) (λ_ _ z=>z) w)⟩
 by_cases e:b=true
 ·rw[aH e]at q ⊢
  exact⟨_,λ_ _ z=>z,q⟩
 ·rw[ax e]at q ⊢
  exact q
def rL (K:PySem.W.Frag)(C:Addr):Sp:=λvs H Q E=>∃ (v:V) (l:Ln) (n:Nat),vs = [v,.int (n:Int)]/\Da K H (dL l) v/\fz l/\1<=n/\n<=6/\
 ((fD l (n-1)).length<=300->∀ p as H',fg H H'->H p=none->LsW H H' p as (fD l (n-1))->Q (.ref p) H')/\
 (300<(fD l (n-1)).length->∀ H',fg H H'->∀ e,H' e=none->E (.ref C) (some e) H')
def wN (K:PySem.W.Frag):Sp:=λvs H Q _=>∃ (v u:V) (l:Ln) (ns:List Int),vs = [v,u]/\Da K H (dL l) v/\Da K H (dI ns) u/\fz l/\ns≠ []/\ns.length<=900/\h9 l ns/\(∀ i,(fy l ns i).length<=300)/\
 ∀ i q bs H',(fy l ns i).length=i->sL H H' q bs ((fy l ns i).map (·.1))->Q (.ref q) H'
abbrev iT:Stmt:=top 24
theorem jc:fM ["line","length","found","waiting","train","ends"] ["line","length"] (fi iT):=⟨rfl,rfl,rfl,by decide +kernel,rfl,by decide +kernel,by decide +kernel⟩
theorem ml:gG (fi iT) ["line","length","found","waiting","train","ends"] {kind:=.function,names:=[(Str.ofString ".0",.local),(Str.ofString "end",.local)],isGenerator:=false,isCoroutine:=false,more:=[]} ["end"] 1 [none]:=⟨rfl,by decide +kernel,by decide +kernel,by decide +kernel,rfl,by decide +kernel,rfl,by decide +kernel⟩
theorem mj:gG (fi iT) ["line","length","found","waiting","train","ends"] {kind:=.function,names:=[(Str.ofString ".0",.local),(Str.ofString "end",.local),(Str.ofString "train",.free)],isGenerator:=false,isCoroutine:=false,more:=[]} ["end","train"] 1 [none,some 4]:=⟨rfl,by decide +kernel,by decide +kernel,by decide +kernel,rfl,by decide +kernel,rfl,by decide +kernel⟩
abbrev mQ:Stmt:=top 21
theorem vL:fM ["line","train"] ["line","train"] (fi mQ):=⟨rfl,rfl,rfl,by decide +kernel,rfl,by decide +kernel,by decide +kernel⟩
abbrev jA:Stmt:=top 36
theorem sT:fM ["_law_train"] ["_law_train"] (fi jA):=⟨rfl,rfl,rfl,by decide +kernel,rfl,by decide +kernel,by decide +kernel⟩
theorem mm:gG (fi jA) ["_law_train"] {kind:=.function,names:=[(Str.ofString ".0",.local),(Str.ofString "_law_end",.local),(Str.ofString "_law_other",.globalImplicit)],isGenerator:=false,isCoroutine:=false,more:=[]} ["_law_end"] 1 [none]:=⟨rfl,by decide +kernel,by decide +kernel,by decide +kernel,rfl,by decide +kernel,rfl,by decide +kernel⟩
section
variable {P:Program}{w:World}{K:PySem.W.Frag}{mg:Str->Option Value}{base:Heap}{f:Addr}{fd:FuncData}{c5:Addr}{tk:Tok}
theorem tF {f1 f2:Addr}{fd1 fd2:FuncData}(F:Fn K mg "trains_of" iT ["line","length"] f fd)(B:Bm mg)(C:Cn mg tk)(XS:Xt K mg c5)
  (fW:Fn K mg "free_ends" iA ["line","train","end"] f1 fd1) (iF:fG P w K mg base CX0 2 f1 fd1 ["line","train","end"] (sP K))
  (fE:Fn K mg "other_end" iU ["end"] f2 fd2):fG P w K mg base (CXr P w base) 3 f fd ["line","length"] (rL K c5):=by
 have iX:fG P w K mg base CX0 1 f2 fd2 ["end"] i9:=lx fE
 refine F.F.okX jc (λvs H Q E h=>?_) (λcdv A outer s H vs Q E hr h=>?_)
 ·obtain⟨v,l,n,rfl,_⟩:=h;rfl
 ·obtain⟨v,l,n,rfl,hv,ok,n1,n6,kq,ke⟩:=h
  obtain⟨a,b,rfl,ht,us,hl,hq⟩:=mZ hv
  have o1:=ok.one
  have o40:=ok.most
  refine⟨_,(eY (fv (i:=2) jc.nd rfl (Or.inl rfl) (fS eX))
 (eY (qk (i:=3) jc.nd rfl rfl (AQ rfl rfl B.reversed (eU (gA yy rfl B.range boot_range (eU (fq iC fb (gz kD (pv 0) fb (λ_ _=>rfl))) eX)) eX)) rfl ml (.name (by decide)) (λ_ _ _ _=>(ft (i:=0) ml.nd rfl (Or.inl rfl))) (λ_ _ _ _=>iB) (λ_ _ _ _=>(fS (eU (pv 0) eX))))
 (eY (nZ dQ (yW (pv 3) (λ_=>rfl))
 (eY (fv (i:=4) jc.nd rfl (Or.inr rfl) (tu aF PySem.F.slot_list_pop PySem.F.type_list_pop CC (pv 3)))
 (fh (ie (gM (qq (fx fR rfl B.len de (eU (pv 4) eX)) (pv 1)))
 (eY (fv (i:=5) jc.nd rfl (Or.inl rfl) (fo iF (hr.mono (by decide)) rfl fW.m fW.F.kp fW.b .nil fK (eU (pv 0) (eU (pv 4) (eU (fo iX (hr.mono (by decide)) rfl fE.m fE.F.kp fE.b .nil fK (eU (gz gh (pv 4) (qp nC fb) (λ_ _=>rfl)) eX)) eX)))))
 (fh (gv (iV aF PySem.F.slot_list_extend PySem.F.type_list_extend ye (pv 3) (eU (lR (yZ rfl B.reversed (eU (pv 5) eX)) rfl mj (.name (by decide)) (λ_ _ _ _=>(ft (i:=0) mj.nd rfl (Or.inl rfl))) (λ_ _ _ _=>iB) (λ_ _ _ _=>(fq kz (pv 1) (fS (eU (pv 0) eX))))) eX))))) (fh (ie (gM (ky (fx fR rfl B.len de (eU (pv 4) eX)) (pv 1)))
 (eY (ie (gM (ky (fx fR rfl B.len de (eU (pv 2) eX)) (jN (v:=.int 300) rfl C.pD ⟨_,rfl⟩)))
 (fh (uH rW rfl rfl XS.kx.m XS.kx.q PySem.F.excBase_ValueError (eU (uJ (i:=300) rfl C.pD ⟨_,rfl⟩ (by decide) (by decide)) eX))) gg)
 (fh (gv (iV aF aR aQ gk (pv 2) (eU (pv 4) eX))))) gg))))))
 (fh (fP (pv 2)))))),?_⟩
  refine⟨aM _,λfd nfd=>?_⟩
  have s1:=eV (o:=.lst []) nfd
  have hfd:=eW (H:=H) (a:=fd) (o:=.lst [])
  generalize upd H fd _=H1 at s1 hfd ⊢
  refine⟨_,rfl,a,_,_,_,rfl,rfl,fX s1 ht,rfl,_,_,rfl,rfl,.inl ⟨by decide,by decide⟩,_,rfl,λrg nrg=>?_⟩
  have s2:=eV (o:=.rng 0 (2*l.1)) nrg
  refine⟨rg,_,rfl,eW,by omega,by omega,λwt nwt=>?_⟩
  have hfd:=s2 _ _ hfd
  have S2:=s1.trans s2
  generalize upd H1 rg _=H2 at s2 hfd S2 nwt ⊢
  have Dp:fd≠wt:=eZ hfd nwt
  have Ek:=fg.free S2 nwt
  have ol:(lT l.1).length=(2*l.1).toNat:=by unfold lT;rw[aa,j8]
  refine xf (2*l.1).toNat (lT l.1).reverse (rG H fd wt) (λt v=>rG.mono t v) nwt (by rw[bg,ol]) (fH (by omega)) (λi G s hi=>hi) (λG s=>aq _) ?_ ?_
  ·rintro i x d G G' sG ⟨us',hus⟩ ⟨rfl,rfl⟩ hd P1 P0 k1
   have hi:i<(2*l.1).toNat:=by
    have:=(af.mp hd).1
    rw[bg,ol]at this
    exact this
   have ed:d = [2*l.1-1+(i:Int) * -1]:=by
    rw[dE (by omega),ol]at hd
    unfold lT at hd
    rw[aj,qh (by omega)]at hd
    have hd:[(0:Int)+(((2*l.1).toNat-1-i:Nat):Int)]=d:=by simpa using hd
    rw[<-hd]
    congr 1
    omega
   refine iD ?_
   refine⟨_,rfl,by show 1<=sizeLine;decide,λp np=>?_⟩
   refine k1 _ _ (eV np) ⟨p,rfl,fg.free (S2.trans sG) np,(eZ (sG _ _ hfd) np).symm,(eZ hus np).symm,?_⟩
   rw[gK (eZ hus np).symm,eW,ed];rfl
  intro vs H3 s3 hwt PW
  obtain⟨Fo,rfl,BW⟩:=t9 PW
  have BW:=BW.same gF
  have IB:=s3 _ _ hfd
  have S3:=S2.trans s3
  have ex0:∀ t∈lT l.1,t.length=1:=λt h=>by
   obtain⟨e,_,rfl⟩:=az.mp h
   rfl
  dsimp only[kL]
  show oI _ _ _ _ _
  refine uh (λm σ G=>∃ (was fas:List Addr) (ws fs:List (List Int)) (x4 x5:Option V),σ = [some (.ref a),some (.int (n:Int)),some (.ref fd),some (.ref wt),x4,x5]/\fg H G/\G fd=some (.lst (fas.map V.ref))/\G wt=some (.lst (was.map V.ref))/\Bes H G fd wt was ws/\Bes H G fd wt fas fs/\
    fs++ws.reverse.flatMap (λt=>exF l (n-t.length) t)=fD l (n-1)/\fs.length<=300/\(∀ (i:Nat) t,ws[i]? = some t->i<160*t.length/\1<=t.length/\t.length<=n)/\m=msz l n ws)
   ⟨Fo,[],(lT l.1).reverse,[],none,none,rfl,S3,IB,hwt,BW,⟨rfl,λi a t h=>by simp at h⟩,?_,by simp,λi t hi=>?_,rfl⟩ ?_ ?_
  ·rw[List.nil_append,List.reverse_reverse,Af]
   refine nK λt ht=>?_
   rw[ex0 t ht]
  ·have h1:=ex0 t (cD.mp (aA hi))
   have h2:=(af.mp hi).1
   rw[bg,ol]at h2
   omega
  ·rintro m σ G N R Bq kN kR kB ⟨was,fas,ws,fs,x4,x5,rfl,S4,ES,CS,BW,BF,EQ,f3,PS,rfl⟩
   refine⟨_,rfl,!(was.map V.ref).isEmpty,.inl ⟨_,SqL.of CS,rfl⟩,?_⟩
   have bl:=BW.1
   by_cases em:ws = []
   ·subst em
    have wn:was = []:=List.eq_nil_of_length_eq_zero (by rw[bl];rfl)
    subst wn
    refine iE (λz=>absurd z (by decide)) (λ_=>kB _ _ ?_)
    have EQ:fs=fD l (n-1):=by simpa using EQ
    subst EQ
    refine⟨_,rfl,kq f3 fd fas G S4 nfd ⟨ES,BF.1,λi a t h1 h2=>?_⟩⟩
    obtain⟨a1,a2,a3,a4⟩:=BF.2 i a t h1 h2
    exact⟨a1,a2,a4⟩
   ·have wl:1<=ws.length:=by cases ws with |nil=>exact absurd rfl em |cons x r=>simp
    have lst:ws[ws.length-1]? = some (ws.getLast em):=by rw[<-eD,List.getLast?_eq_some_getLast em]
    have lsw:was[ws.length-1]? = some was[ws.length-1]:=ae (by omega)
    obtain⟨ps1,ps2,ps3⟩:=PS _ _ lst
    obtain⟨b1,b2,b3,b4⟩:=BW.2 _ _ _ lsw lst
    have wd:ws=ws.dropLast ++ [ws.getLast em]:=(cu em).symm
    generalize was[ws.length-1]=ta at lsw b1 b2 b3 b4
    generalize ws.getLast em=t at lst ps1 ps2 ps3 b4 wd
    have tne:t≠ []:=λz=>by rw[z]at ps2;simp at ps2
    have rv:ws.reverse=t::ws.dropLast.reverse:=by
     conv=>lhs;rw[wd]
     rw[bS];rfl
    refine iE (λ_=>?_) (λz=>absurd (by cases was with |nil=>rw[<-bl]at wl;simp at wl |cons x r=>rfl) z)
    refine⟨_,rfl,.inl ⟨rfl,_,SqL.of CS⟩,wt,_,V.ref ta,rfl,rfl,CS,by rw[aa,bl,aj,lsw];rfl,?_⟩
    have S5:=fg.upd (o:=.lst (was.map V.ref).dropLast) S4 Ek
    have zS:upd G wt (.lst (was.map V.ref).dropLast) fd=some (.lst (fas.map V.ref)):=by rw[fc Dp];exact ES
    have CQ:upd G wt (.lst (was.map V.ref).dropLast) wt=some (.lst (was.dropLast.map V.ref)):=by rw[eW,List.map_dropLast]
    have BW5:=(BW.Ax (o:=.lst (was.map V.ref).dropLast)).drop
    have BF5:=BF.Ax (o:=.lst (was.map V.ref).dropLast)
    have ht5:upd G wt (.lst (was.map V.ref).dropLast) ta=some (.lst (t.map V.int)):=by rw[fc b3];exact b4
    generalize upd G wt (.lst (was.map V.ref).dropLast)=G5 at S5 zS CQ BW5 BF5 ht5 ⊢
    have PS5:∀ (i:Nat) u,ws.dropLast[i]? = some u->i<160*u.length/\1<=u.length/\u.length<=n:=λi u h=>by
     rw[dC]at h
     split at h
     ·exact PS i u h
     ·cases h
    have dl:ws.dropLast.length=ws.length-1:=cm
    have MZ:msz l n ws=msz l n ws.dropLast+nodes l (n-t.length) t:=by
     conv=>lhs;rw[wd]
     unfold msz
     rw[aw,wH];rfl
    rw[rv,cz]at EQ
    refine⟨_,rfl,ta,_,rfl,.inl (SqL.of ht5),_,rfl,_,_,rfl,rfl,_,rfl,iE (λc=>?_) (λc=>?_)⟩
    ·-- it grows
     have c:((t.map V.int).length:Int)<(n:Int):=by simpa using c
     rw[aa]at c
     obtain⟨d,hd⟩:∃ d,n-t.length=d+1:=⟨n-t.length-1,by omega⟩
     refine⟨_,rfl,_,rfl,_,rfl,_,rfl,ta,_,_,_,rfl,rfl,SqL.of ht5,pT tne,_,rfl,_,_,l,t,_,rfl,Da.same S5 hv,jo ht5,ok,by omega,λpe G6 s6 npe hpe=>?_⟩
     have fl:=qO ok t (oth (t.getLastD 0))
     have CP:=s6 _ _ CQ
     have ER:=s6 _ _ zS
     have ht6:=s6 _ _ ht5
     refine⟨_,rfl,.inl ⟨rfl,_,SqL.of CP⟩,_,rfl,pe,_,rfl,SqL.of hpe,λpl npl=>?_⟩
     have JR:=zI (SqL.of (K:=K) hpe)
     have el:((fr l t (oth (t.getLastD 0))).map V.int).length=(gr l t).length:=by unfold gr;rw[aa,aa]
     refine xf (gr l t).length (gr l t).reverse (rG H fd wt) (λt v=>rG.mono t v) npl (by rw[bg]) (fH (by have:=zW ok t;omega)) (λi G s hi=>JR.go i G s (by omega)) (λG s=>el.symm) ?_ ?_
     ·rintro i x u G7 G8 s7 ⟨us',hus⟩ y hd' P1 P0 k1
      have hi:i<(gr l t).length:=by
       have:=(af.mp hd').1
       rw[bg]at this
       exact this
      obtain⟨rfl,hx⟩:=JR.yld i G7 x G8 s7 (by omega) y
      have eu:∃ e,x = .int e/\u=t ++ [e]:=by
       rw[<-cR,aj]at hx
       unfold gr at hd'
       rw[<-cR,aj]at hd'
       cases q:(fr l t (oth (t.getLastD 0))).reverse[i]? with
       |none=>rw[q]at hx;cases hx
       |some e=>
        rw[q]at hx hd'
        cases hx
        cases hd'
        exact⟨e,rfl,rfl⟩
      obtain⟨e,rfl,rfl⟩:=eu
      refine iD ?_
      have ht7:=s7 _ _ ht6
      refine⟨_,rfl,_,rfl,by show 1<=sizeLine;decide,λp1 np1=>?_⟩
      have s8:=eV (o:=.lst [V.int e]) np1
      refine⟨ta,p1,_,_,rfl,rfl,s8 _ _ ht7,eW,b9 (fH (by rw[aa];show t.length+1<=1000;omega)),λp2 np2=>?_⟩
      have S7:=S5.trans (s6.trans (s7.trans s8))
      have nl:p2≠pl:=(eZ (s8 _ _ hus) np2).symm
      refine k1 _ _ (s8.trans (eV np2)) ⟨p2,rfl,fg.free S7 np2,(eZ ((s7.trans s8) _ _ ER) np2).symm,(eZ ((s7.trans s8) _ _ CP) np2).symm,?_⟩
      rw[gK nl,eW,aw];rfl
     intro vs G7 s7 hpl PW
     obtain⟨nas,rfl,BN⟩:=t9 PW
     have BN:=BN.same gF
     have Ih:=s7 _ _ CP
     have IA:=s7 _ _ ER
     have S7:=S5.trans (s6.trans s7)
     have nl:=BN.1
     rw[bg]at nl
     have gl:=zW ok t
     have b5:=BW5.1
     refine⟨wt,pl,_,_,rfl,rfl,Ih,hpl,b9 (fH (by rw[aa,aa];omega)),?_⟩
     refine kN (msz l n (ws.dropLast++(gr l t).reverse)) _ _ ?_ ⟨was.dropLast++nas,fas,ws.dropLast++(gr l t).reverse,fs,_,_,rfl,fg.upd S7 Ek,by rw[fc Dp];exact IA,by rw[eW,aw],((BW5.same (s6.trans s7)).app BN).Ax,(BF5.same (s6.trans s7)).Ax,?_,f3,λi u hu=>?_,rfl⟩
     ·rw[MZ,hd]
      unfold msz
      rw[aw,wH,cR,List.sum_reverse]
      have:((gr l t).map λu=>nodes l (n-u.length) u)=(gr l t).map (nodes l d):=List.map_congr_left λu hu=>by
       obtain⟨e,_,rfl⟩:=oU hu
       rw[ah,show n-(t.length + [e].length)=d by show n-(t.length+1)=d;omega]
      rw[this]
      show _<_+(1+((gr l t).map (nodes l d)).sum)
      omega
     ·rw[bS,List.reverse_reverse,dY,<-EQ,hd]
      congr 2
      show _=(gr l t).flatMap (exF l d)
      refine nK λu hu=>?_
      obtain⟨e,_,rfl⟩:=oU hu
      rw[ah,show n-(t.length + [e].length)=d by show n-(t.length+1)=d;omega]
     ·by_cases q:i<ws.dropLast.length
      ·rw[ao q]at hu
       exact PS5 i u hu
      ·rw[ar (by omega)]at hu
       have h2:=(af.mp hu).1
       rw[bg]at h2
       obtain⟨e,_,rfl⟩:=oU (cD.mp (aA hu))
       rw[ah]
       show i<160*(t.length+1)/\1<=t.length+1/\t.length+1<=n
       omega
    ·have c:¬((t.map V.int).length:Int)<(n:Int):=by simpa using c
     rw[aa]at c
     have tn:t.length=n:=by omega
     rw[tn,b8]at EQ MZ
     have EQ:fs++(t::(ws.dropLast.reverse.flatMap λt=>exF l (n-t.length) t))=fD l (n-1):=EQ
     refine⟨_,rfl,ta,_,rfl,.inl (SqL.of ht5),_,rfl,_,_,rfl,rfl,_,rfl,iE (λ_=>?_) (λc2=>absurd (by rw[aa,tn];simp) c2)⟩
     refine⟨_,rfl,fd,_,rfl,.inl (SqL.of zS),_,_,rfl,rfl,_,rfl,iE (λh3=>?_) (λh3=>?_)⟩
     ·have h3:((fas.map V.ref).length:Int)=300:=by simpa using h3
      rw[aa,BF.1]at h3
      refine λz=>⟨by show 1<=sizeLine;decide,λx hx=>ke ?_ G5 S5 x hx⟩
      rw[<-EQ,ah,aX]
      omega
     ·have h3:¬((fas.map V.ref).length:Int)=300:=by simpa using h3
      rw[aa,BF.1]at h3
      have bf:=BF.1
      refine⟨_,rfl,.inl ⟨rfl,_,SqL.of zS⟩,_,rfl,fd,_,_,rfl,rfl,zS,fH (by rw[aa];omega),?_⟩
      have B1:Bes H G5 fd wt [ta] [t]:=⟨rfl,λi a' u h1 h2=>by
       match i,h1,h2 with
       | 0,h1,h2=>cases h1;cases h2;exact⟨b1,b2,b3,ht5⟩⟩
      refine kN (msz l n ws.dropLast) _ _ (by rw[MZ];show _<_+1;omega) ⟨was.dropLast,fas ++ [ta],ws.dropLast,fs ++ [t],_,_,rfl,fg.upd S5 nfd,by rw[eW,aw];rfl,by rw[fc (bZ Dp)];exact CQ,BW5.DI,(BF5.app B1).DI,by rw[aN];exact EQ,by rw[ah];show fs.length+1<=300;omega,PS5,rfl⟩
  ·rintro σ G Q1 Q2 hq ⟨x,e1,kk,tv,q⟩
   exact⟨x,e1,kk,tv,hq _ _ q⟩
theorem vV {f1 f2:Addr}{fd1 fd2:FuncData}(F:Fn K mg "come_to" mQ ["line","train"] f fd)(B:Bm mg)(ip:Fn K mg "first_steps" jx ["line","train"] f1 fd1)(kE:fG P w K mg base (CXr P w base) 4 f1 fd1 ["line","train"] (uy K c5))
  (jt:Fn K mg "lists_of" j7 ["standings"] f2 fd2):fG P w K mg base (CXr P w base) 5 f fd ["line","train"] (wN K):=by
 have wA:fG P w K mg base CX0 1 f2 fd2 ["standings"] (p7 K):=uP jt B
 refine F.F.okX vL (λvs H Q E h=>?_) (λcdv A outer s H vs Q E hr h=>?_)
 ·obtain⟨v,u,l,ns,rfl,_⟩:=h;rfl
 ·obtain⟨v,u,l,ns,rfl,hv,hu,ok,hne,hz,T,few,k⟩:=h
  refine⟨_,(fh (fP (fo wA (hr.mono (by decide)) rfl jt.m jt.F.kp jt.b .nil fK (eU (fo kE (hr.mono (by decide)) rfl ip.m ip.F.kp ip.b .nil mT (eU (pv 0) (eU (pv 1) eX))) eX)))),?_⟩
  refine⟨_,rfl,_,rfl,_,_,l,ns,rfl,hv,hu,ok,hne,hz,T,λi d us H2 hi Kr s2 nd hs2=>?_,λ⟨i,hi⟩=>absurd (few i) (by omega)⟩
  exact⟨d,_,us,rfl,hs2,by omega,λq bs H3 FR=>k i q bs H3 hi (FR.pre s2)⟩
theorem tH {f1:Addr}{fd1:FuncData}(F:Fn K mg "_law_round" jA ["_law_train"] f fd)(fw:Fn K mg "_law_other" iz ["_law_end"] f1 fd1):fG P w K mg base CX0 2 f fd ["_law_train"] (nV K):=by
 have hV:fG P w K mg base CX0 1 f1 fd1 ["_law_end"] i9:=jO fw
 refine F.F.ok sT (λvs H Q E h=>?_) (λcdv A outer s H vs Q E hr h=>?_)
 ·obtain⟨v,l,rfl,_⟩:=h;rfl
 ·obtain⟨v,ns,rfl,hv,hz,k⟩:=h
  obtain⟨a,rfl,hS⟩:=lF.mp hv
  refine⟨_,(fh (fP (lR (fU (y3 (pv 0) (qp nC fb))) rfl mm (.name (by decide)) (λ_ _ _ _=>(ft (i:=0) mm.nd rfl (Or.inl rfl))) (λ_ _ _ _=>iB) (λ_ _ _ _=>(fo hV (hr.mono (by decide)) rfl fw.m fw.F.kp fw.b .nil fK (eU (pv 0) eX)))))),?_⟩
  refine⟨_,rfl,_,rfl,_,rfl,a,_,rfl,rfl,hS,λp hp=>⟨p,rfl,⟨_,SqL.of eW⟩,λl1 n1=>jP ns.reverse (λ_=>true) (λe=>V.int (oth e)) n1 (SqL.of eW) (by rw[bg,aa,bg]) (by rw[bg,aa];exact fH hz) ?_ ?_⟩⟩
  ·intro i x d H' hx hd sm P1 P0 k1 k0
   rw[<-cR,aj,hd]at hx
   cases hx
   refine iD ?_
   exact⟨_,rfl,d,rfl,k1 rfl⟩
  rw[kM]
  refine k l1 _ ((eV hp).trans (eV n1)) (fg.free (eV hp) n1) ?_
  rw[eW,bP];rfl
end
def lS:Int->List Int->List (List Int)
 |_,[]=>[]
 |m,w::r=>jM m w.toNat::lS (m+w) r
def yS (o:Int)(x:Int):Int×Int:=(min (2*o+1) (2*x),max (2*o+1) (2*x))
def nj (pp:List (List Int))(k:Nat):List (Int×Int):=(pp.getD k []).flatMap λo=>(pp.getD ((k+1)%pp.length) []).map (yS o)
def uD (pp:List (List Int)):List (Int×Int):=(List.range pp.length).flatMap (nj pp)
theorem tD:∀ (ws:List Int) (m:Int),(lS m ws).length=ws.length
 |[],_=>rfl
 |w::r,m=>by show(lS (m+w) r).length+1=_;rw[tD r];rfl
theorem uM:∀ (ws:List Int) (m w:Int),lS m (ws ++ [w])=lS m ws ++ [jM (m+ws.sum) w.toNat]
 |[],m,w=>by show[jM m w.toNat] = [jM (m+0) w.toNat];rw[Int.add_zero]
 |x::r,m,w=>by
  show jM m x.toNat::lS (m+x) (r ++ [w])=jM m x.toNat::(lS (m+x) r ++ [jM (m+(x::r).sum) w.toNat])
  rw[uM r,List.sum_cons,Int.add_assoc]
theorem rX:∀ {ws:List Int}{m:Int},(∀ w∈ws,0<=w/\w<=9)->∀ p∈lS m ws,p.length<=9
 |[],_,_,p,hp=>by cases hp
 |w::r,m,h,p,hp=>by
  rcases aO.mp hp with e |q
  ·rw[e,j8];have:=h w aC;omega
  ·exact rX (λx hx=>h x (aE _ hx)) p q
def uz (K:PySem.W.Frag):Sp:=λvs H Q _=>∃ (a:Addr) (ws:List Int),vs = [.ref a]/\SqL K H a (ws.map V.int)/\ws≠ []/\ws.length<=9/\(∀ w∈ws,0<=w/\w<=9)/\∀ v H',fg H H'->Da K H' (dL (ws.sum,uD (lS 0 ws))) v->Q v H'
structure PcW (H:Hp)(t ps:Addr)(as:List Addr)(pp:List (List Int)):Prop where
 ne:ps≠t
 at_:H ps=some (.lst (as.map V.ref))
 len:as.length=pp.length
 each:∀ (i:Nat) a p,as[i]? = some a->pp[i]? = some p->a≠t/\H a=some (.lst (p.map V.int))
theorem PcW.same {H H':Hp}{t ps:Addr}{as:List Addr}{pp:List (List Int)}(h:PcW H t ps as pp)(s:fg H H'):PcW H' t ps as pp:=
 ⟨h.ne,s _ _ h.at_,h.len,λi a p h1 h2=>⟨(h.each i a p h1 h2).1,s _ _ (h.each i a p h1 h2).2⟩⟩
theorem PcW.upd {H:Hp}{t ps:Addr}{as:List Addr}{pp:List (List Int)}{o:HO}(h:PcW H t ps as pp):PcW (L2.upd H t o) t ps as pp:=
 ⟨h.ne,by rw[fc h.ne];exact h.at_,h.len,λi a p h1 h2=>⟨(h.each i a p h1 h2).1,by rw[fc (h.each i a p h1 h2).1];exact(h.each i a p h1 h2).2⟩⟩
theorem PcW.get {H:Hp}{t ps:Addr}{as:List Addr}{pp:List (List Int)}(h:PcW H t ps as pp){i:Nat}(hi:i<pp.length):∃ a,as[i]? = some a/\pp[i]? = some (pp.getD i [])/\H a=some (.lst ((pp.getD i []).map V.int)):=by
 have hi':i<as.length:=by rw[h.len];exact hi
 have h1:as[i]? = some as[i]:=ae hi'
 have h2:pp[i]? = some (pp.getD i []):=by rw[aP,ae hi];rfl
 exact⟨_,h1,h2,(h.each i _ _ h1 h2).2⟩
abbrev km:Stmt:=top 34
theorem gC:fM ["_law_rungs_here","_law_pieces","_law_many","_law_wide","_law_joints","_law_k","_law_some","_law_one","_law_other_here"] ["_law_rungs_here"] (fi km):=⟨rfl,rfl,rfl,by decide +kernel,rfl,by decide +kernel,by decide +kernel⟩
section
variable {P:Program}{w:World}{K:PySem.W.Frag}{mg:Str->Option Value}{base:Heap}{f:Addr}{fd:FuncData}
theorem tG (F:Fn K mg "_law_rungs" km ["_law_rungs_here"] f fd)(B:Bm mg):fG P w K mg base CX0 1 f fd ["_law_rungs_here"] (uz K):=by
 refine F.F.ok gC (λvs H Q E h=>?_) (λcdv A outer s H vs Q E hr h=>?_)
 ·obtain⟨a,ws,rfl,_⟩:=h;rfl
 ·obtain⟨a,ws,rfl,ha,wne,w9,wb,k⟩:=h
  refine⟨_,(eY (fv (i:=1) gC.nd rfl (Or.inl rfl) (fS eX))
 (eY (fv (i:=2) gC.nd rfl (Or.inl rfl) fb)
 (eY (gS bh rfl (fU (pv 0)) (ft (i:=3) gC.nd rfl (Or.inl rfl))
 (eY (gv (iV aF aR aQ gk (pv 1) (eU (gA (rB rfl) rfl B.list boot_list (eU (gA yx rfl B.range boot_range (eU (pv 2) (eU (fq gJ (pv 2) (pv 3)) eX))) eX)) eX)))
 (fh (fv (i:=2) gC.nd rfl (Or.inl rfl) (fq gJ (pv 2) (pv 3))))))
 (eY (fv (i:=4) gC.nd rfl (Or.inl rfl) (fS eX))
 (eY (gS bh rfl (wY rfl B.enumerate (eU (pv 1) eX)) (jE (n:=2) rfl (fQ (ft (i:=5) gC.nd rfl (Or.inl rfl)) (fQ (ft (i:=6) gC.nd rfl (Or.inl rfl)) iL)))
 (fh (gS bh rfl (fU (pv 6)) (ft (i:=7) gC.nd rfl (Or.inl rfl))
 (fh (gS bh rfl (fU (gz gh (pv 1) (fq gI (fq gJ (pv 5) fb) (fx fR rfl B.len de (eU (pv 1) eX))) (λ_ _=>rfl))) (ft (i:=8) gC.nd rfl (Or.inl rfl))
 (fh (gv (iV aF aR aQ gk (pv 4) (eU (gR (eU (fx (m6 rfl) rfl B.min boot_min (eU (fq gJ (fq iC fb (pv 7)) fb) (eU (fq iC fb (pv 8)) eX))) (eU (fx (m7 rfl) rfl B.max boot_max (eU (fq gJ (fq iC fb (pv 7)) fb) (eU (fq iC fb (pv 8)) eX))) eX))) eX)))))))))
 (fh (fP (gR (eU (pv 2) (eU (pv 4) eX)))))))))),?_⟩
  refine⟨aM _,λps nps=>?_⟩
  have s1:=eV (o:=.lst []) nps
  have hps:=eW (H:=H) (a:=ps) (o:=.lst [])
  generalize upd H ps _=H1 at s1 hps ⊢
  dsimp only[kL]
  refine⟨_,rfl,a,rfl,⟨_,s1.seq ha⟩,gB (K:=K) (a:=a) (xs:=ws.map V.int) (λi σ G=>∃ (as:List Addr) (x3:Option V),σ = [some (.ref a),some (.ref ps),some (.int ((ws.take i).sum)),x3,none,none,none,none,none]/\fg H G/\LsW H G ps as (lS 0 (ws.take i)))
   ⟨[],none,rfl,s1,⟨hps,rfl,λi b t h=>by simp at h⟩⟩ (λi σ G _ ⟨_,_,_,s,_⟩=>s.seq ha) ?_ ?_⟩
  ·rintro i y σ G N R Bq kN _ hi ⟨as,x3,rfl,S,L⟩
   rw[aj]at hi
   cases q:ws[i]? with
   |none=>rw[q]at hi;cases hi
   |some x=>
    rw[q]at hi
    cases hi
    have xb:=wb x (aA q)
    have il:i<ws.length:=(af.mp q).1
    have tk:ws.take (i+1)=ws.take i ++ [x]:=by rw[bD,q];rfl
    have sb:∀ (r:List Int),(∀ w∈r,0<=w/\w<=9)->0<=r.sum/\r.sum<=9*r.length:=by
     intro r
     induction r with
     |nil=>intro _;simp
     |cons z r ih=>
      intro hz
      have h1:=ih λw hw=>hz w (aE _ hw)
      have h2:=hz z aC
      rw[List.sum_cons,aX]
      omega
    have sm:=sb (ws.take i) λw hw=>wb w (dR hw)
    rw[bB]at sm
    have hl:=L.at_
    refine⟨_,rfl,.inl ⟨rfl,_,SqL.of hl⟩,_,rfl,_,rfl,_,rfl,_,_,rfl,rfl,_,_,rfl,λrg nrg=>?_⟩
    have s2:=eV (o:=.rng ((ws.take i).sum) ((ws.take i).sum+x)) nrg
    refine⟨rg,_,_,rfl,eW,by omega,by omega,by omega,by omega,λp np=>?_⟩
    rw[show(ws.take i).sum+x-(ws.take i).sum=x by omega]
    have s3:=s2.trans (eV (o:=.lst ((jM ((ws.take i).sum) x.toNat).map V.int)) np)
    have hp:=eW (H:=upd G rg (.rng ((ws.take i).sum) ((ws.take i).sum+x))) (a:=p) (o:=.lst ((jM ((ws.take i).sum) x.toNat).map V.int))
    have npG:G p=none:=fg.free s2 np
    generalize upd (upd G rg _) p _=G2 at s3 hp ⊢
    have L2':=L.same s3
    refine⟨ps,_,_,rfl,rfl,L2'.at_,jw (by rw[aa,L.len,tD,bB];omega),?_⟩
    have pps:p≠ps:=(eZ hl npG).symm
    refine⟨_,rfl,_,rfl,_,_,rfl,rfl,kN _ _ ⟨as ++ [p],some (.int x),?_,fg.upd (S.trans s3) nps,?_⟩⟩
    ·rw[tk,List.sum_append,List.sum_singleton];rfl
    ·rw[tk,uM,Int.zero_add]
     refine⟨by rw[eW,aw];rfl,by rw[ah,ah,L.len];rfl,λj b t h1 h2=>?_⟩
     by_cases c:j<as.length
     ·rw[ao c]at h1
      rw[ao (by rw[<-L.len];exact c)]at h2
      obtain⟨a1,a2,a3⟩:=L2'.each j b t h1 h2
      exact⟨a1,a2,by rw[fc a2];exact a3⟩
     ·rw[ar (by omega)]at h1
      rw[ar (by rw[<-L.len];omega),<-L.len]at h2
      cases hd:j-as.length with
      |zero=>
       rw[hd]at h1 h2
       cases h1
       cases h2
       exact⟨fg.free S npG,pps,by rw[fc pps];exact hp⟩
      |succ n=>rw[hd]at h1;simp at h1
  rintro σ G ⟨as,x3,rfl,S,L⟩
  rw[aa,bA]at L ⊢
  have pl:(lS 0 ws).length=ws.length:=tD ws 0
  have pb:=rX (m:=0) wb
  have pp1:1<=(lS 0 ws).length:=by rw[pl];cases ws with |nil=>exact absurd rfl wne |cons x r=>simp
  generalize hpp:lS 0 ws=pp at L pl pb pp1 k
  refine⟨aM _,λt nt=>?_⟩
  have s2:=eV (o:=.lst []) nt
  have ht:=eW (H:=G) (a:=t) (o:=.lst [])
  have W0:PcW (upd G t (.lst [])) t ps as pp:=⟨eZ L.at_ nt,s2 _ _ L.at_,L.len,λi a p h1 h2=>⟨eZ (L.each i a p h1 h2).2.2 nt,s2 _ _ (L.each i a p h1 h2).2.2⟩⟩
  have S2:=S.trans s2
  have nt0:=fg.free S nt
  generalize upd G t _=G1 at s2 ht W0 S2 ⊢
  have pbd:∀ i,(pp.getD i []).length<=9:=λi=>by
   rw[aP]
   cases q:pp[i]? with
   |none=>simp
   |some x=>exact pb x (aA q)
  refine⟨_,rfl,ps,rfl,⟨_,SqL.of W0.at_⟩,sr (K:=K) (a:=ps) (xs:=as.map V.ref) (λi σ G=>∃ (us:List V) (x3 x5 x6 x7 x8:Option V),σ = [some (.ref a),some (.ref ps),some (.int ws.sum),x3,some (.ref t),x5,x6,x7,x8]/\fg H G/\PcW G t ps as pp/\G t=some (.lst us)/\Ps K G ((List.range i).flatMap (nj pp)) us/\((List.range i).flatMap (nj pp)).length<=100*i)
   ⟨[],x3,none,none,none,none,rfl,S2,W0,ht,fV.mpr rfl,aq _⟩ (λi σ G _ ⟨_,_,_,_,_,_,_,_,h,_⟩=>SqL.of h.at_) ?_ ?_⟩
  ·rintro i y σ G p N R Bq kN _ hi ⟨us,x3,x5,x6,x7,x8,rfl,S,W,ht,D,jl⟩ np
   have il:i<pp.length:=by
    have:=(af.mp hi).1
    rw[aa,W.len]at this
    exact this
   obtain⟨ai,h1,h2,h3⟩:=W.get il
   rw[aj,h1]at hi
   cases hi
   have s3:=eV (o:=.tup [.int (i:Int),.ref ai]) np
   have hp:=eW (H:=G) (a:=p) (o:=.tup [.int (i:Int),.ref ai])
   have W:=W.same s3
   have ht:=s3 _ _ ht
   have D:=D.same s3
   have h3:=s3 _ _ h3
   have S:=S.trans s3
   generalize upd G p _=G2 at s3 hp W ht D h3 S ⊢
   refine⟨p,_,rfl,SqT.of hp,rfl,_,_,rfl,_,_,rfl,rfl,?_⟩
   have mi:(i+1)%pp.length<pp.length:=Nat.mod_lt _ (by omega)
   obtain⟨bi,g1,g2,_⟩:=W.get mi
   have l1:=pbd i
   have l2:=pbd ((i+1)%pp.length)
   refine⟨_,rfl,ai,rfl,⟨_,SqL.of h3⟩,gB (K:=K) (a:=ai) (xs:=(pp.getD i []).map V.int) (λj σ G=>∃ (us:List V) (x7 x8:Option V),σ = [some (.ref a),some (.ref ps),some (.int ws.sum),x3,some (.ref t),some (.int (i:Int)),some (.ref ai),x7,x8]/\fg H G/\PcW G t ps as pp/\G t=some (.lst us)/\Ps K G ((List.range i).flatMap (nj pp)++((pp.getD i []).take j).flatMap λo=>(pp.getD ((i+1)%pp.length) []).map (yS o)) us/\us.length<=100*i+10*j)
    ⟨us,x7,x8,rfl,S,W,ht,by simpa using D,by have:=D.len;omega⟩ (λj σ G _ ⟨_,_,_,_,_,h,_⟩=>SqL.of (h.each i ai _ h1 h2).2) ?_ ?_⟩
   ·rintro j y σ G3 N2 R2 B2 kN2 _ hj ⟨us,x7,x8,rfl,S,W,ht,D,ul⟩
    rw[aj]at hj
    cases q:(pp.getD i [])[j]? with
    |none=>rw[q]at hj;cases hj
    |some o=>
     rw[q]at hj
     cases hj
     have jl2:j<(pp.getD i []).length:=(af.mp q).1
     have tk:(pp.getD i []).take (j+1)=(pp.getD i []).take j ++ [o]:=by rw[bD,q];rfl
     have hb3:=(W.each _ bi _ g1 g2).2
     have am:((i:Int)+1)%((as.map V.ref).length:Int)=(((i+1)%pp.length:Nat):Int):=by rw[aa,W.len,Int.natCast_emod];rfl
     refine⟨_,rfl,_,rfl,_,_,rfl,rfl,_,rfl,ps,_,rfl,.inl (SqL.of W.at_),_,_,rfl,rfl,(by show(0:Int)<((as.map V.ref).length:Int);rw[aa,W.len];omega),ps,_,_,V.ref bi,rfl,rfl,SqL.of W.at_,(by show atI (as.map V.ref) (((i:Int)+1)%((as.map V.ref).length:Int))=_;rw[am];exact kr (by rw[aj,g1];rfl)),bi,rfl,⟨_,SqL.of hb3⟩,gB (K:=K) (a:=bi) (xs:=(pp.getD ((i+1)%pp.length) []).map V.int) (λz σ G=>∃ (us:List V) (x8:Option V),σ = [some (.ref a),some (.ref ps),some (.int ws.sum),x3,some (.ref t),some (.int (i:Int)),some (.ref ai),some (.int o),x8]/\fg H G/\PcW G t ps as pp/\G t=some (.lst us)/\Ps K G (((List.range i).flatMap (nj pp)++((pp.getD i []).take j).flatMap λo=>(pp.getD ((i+1)%pp.length) []).map (yS o))++((pp.getD ((i+1)%pp.length) []).take z).map (yS o)) us/\us.length<=100*i+10*j+z)
      ⟨us,x8,rfl,S,W,ht,by simpa using D,by omega⟩ (λz σ G _ ⟨_,_,_,_,h,_⟩=>SqL.of (h.each _ bi _ g1 g2).2) ?_ ?_⟩
     ·rintro z y σ G4 N3 R3 B3 kN3 _ hz ⟨us,x8,rfl,S,W,ht,D,ul⟩
      rw[aj]at hz
      cases q2:(pp.getD ((i+1)%pp.length) [])[z]? with
      |none=>rw[q2]at hz;cases hz
      |some x=>
       rw[q2]at hz
       cases hz
       have zl:z<(pp.getD ((i+1)%pp.length) []).length:=(af.mp q2).1
       have tk2:(pp.getD ((i+1)%pp.length) []).take (z+1)=(pp.getD ((i+1)%pp.length) []).take z ++ [x]:=by rw[bD,q2];rfl
       refine⟨_,rfl,.inl ⟨rfl,_,SqL.of ht⟩,_,rfl,_,_,rfl,rfl,.inl ⟨by decide,by decide⟩,_,_,rfl,rfl,_,rfl,_,_,rfl,rfl,.inl ⟨by decide,by decide⟩,_,_,rfl,_,rfl,_,_,rfl,rfl,.inl ⟨by decide,by decide⟩,_,_,rfl,rfl,_,rfl,_,_,rfl,rfl,.inl ⟨by decide,by decide⟩,_,_,rfl,by show 2<=sizeLine;decide,λp2 np2=>?_⟩
       rw[tM,tN]
       have s5:=eV (o:=.tup [.int (min (2*o+1) (2*x)),.int (max (2*o+1) (2*x))]) np2
       have p9:pp.length<=9:=by omega
       refine⟨t,us,_,rfl,rfl,s5 _ _ ht,jw (by omega),?_⟩
       refine kN3 _ _ ⟨us ++ [.ref p2],_,rfl,fg.upd (S.trans s5) nt0,(W.same s5).upd,eW,?_,by rw[ah];show us.length+1<=_;omega⟩
       have:=Ps.push (o:=.lst (us ++ [V.ref p2])) (x:=yS o x) (D.same s5) (s5 _ _ ht) eW
       rw[tk2,aw,<-aN]
       exact this
     ·rintro σ G4 ⟨us,x8,rfl,S,W,ht,D,ul⟩
      rw[aa]at ul D
      rw[bA]at D
      refine kN2 _ _ ⟨us,_,_,rfl,S,W,ht,?_,by omega⟩
      rw[tk,dY,<-aN]
      simpa using D
   ·rintro σ G3 ⟨us,x7,x8,rfl,S,W,ht,D,ul⟩
    rw[aa]at ul D
    rw[bA]at D
    have e:(List.range (i+1)).flatMap (nj pp)=(List.range i).flatMap (nj pp)++nj pp i:=by rw[List.range_succ,dY];simp
    refine kN _ _ ⟨us,_,_,_,_,_,rfl,S,W,ht,by rw[e];exact D,?_⟩
    have dl:=D.len
    have dl:us.length=((List.range i).flatMap (nj pp)++nj pp i).length:=dl
    rw[e,<-dl]
    omega
  ·rintro σ G2 ⟨us,x3,x5,x6,x7,x8,rfl,S,W,ht,D,jl⟩
   rw[aa,L.len]at D
   refine⟨_,rfl,_,rfl,by show 2<=sizeLine;decide,λp np=>?_⟩
   have s3:=eV (o:=.tup [.int ws.sum,.ref t]) np
   exact k _ _ (S.trans s3) (iW eW ((D.same s3).da (s3 _ _ ht)))
end
structure DuA (H:Hp)(q:Addr)(as:List Addr)(ts:List (List Int)):Prop where
 at_:H q=some (.lst (as.map V.ref))
 len:as.length=ts.length
 each:∀ (i:Nat) a t,as[i]? = some a->ts[i]? = some t->H a=some (.lst (t.map V.int))
theorem DuA.same {H H':Hp}{q:Addr}{as:List Addr}{ts:List (List Int)}(h:DuA H q as ts)(s:fg H H'):DuA H' q as ts:=⟨s _ _ h.at_,h.len,λi a t h1 h2=>s _ _ (h.each i a t h1 h2)⟩
theorem LsW.du {H0 H:Hp}{q:Addr}{as:List Addr}{ts:List (List Int)}(h:LsW H0 H q as ts):DuA H q as ts:=⟨h.at_,h.len,λi a t h1 h2=>(h.each i a t h1 h2).2.2⟩
theorem LsW.push {H0 H:Hp}{q p:Addr}{as:List Addr}{ts:List (List Int)}{t:List Int}(h:LsW H0 H q as ts)(hp:H p=some (.lst (t.map V.int)))(np:H0 p=none)(pq:p≠q):LsW H0 (upd H q (.lst (as.map V.ref ++ [V.ref p]))) q (as ++ [p]) (ts ++ [t]):=by
 refine⟨by rw[eW,aw];rfl,by rw[ah,ah,h.len];rfl,λj b u h1 h2=>?_⟩
 by_cases c:j<as.length
 ·rw[ao c]at h1
  rw[ao (by rw[<-h.len];exact c)]at h2
  obtain⟨a1,a2,a3⟩:=h.each j b u h1 h2
  exact⟨a1,a2,by rw[fc a2];exact a3⟩
 ·rw[ar (by omega)]at h1
  rw[ar (by rw[<-h.len];omega),<-h.len]at h2
  cases hd:j-as.length with
  |zero=>
   rw[hd]at h1 h2
   cases h1
   cases h2
   exact⟨np,pq,by rw[fc pq];exact hp⟩
  |succ n=>rw[hd]at h1;simp at h1
theorem me {K:PySem.W.Frag}{H:Hp} :∀ {as:List Addr}{ts:List (List Int)},as.length=ts.length->(∀ (i:Nat) a t,as[i]? = some a->ts[i]? = some t->H a=some (.lst (t.map V.int)))->Das K H (ts.map dI) (as.map V.ref)
 |[],[],_,_=>fV.mpr rfl
 |a::as,t::ts,hl,h=>fN.mpr ⟨_,_,rfl,jo (h 0 a t rfl rfl),me (by simpa using hl) λi b u h1 h2=>h (i+1) b u h1 h2⟩
 |[],_::_,hl,_=>by simp at hl
 |_::_,[],hl,_=>by simp at hl
theorem DuA.da {K:PySem.W.Frag}{H:Hp}{q:Addr}{as:List Addr}{ts:List (List Int)}(h:DuA H q as ts):Da K H (dLI ts) (.ref q):=h7.mpr ⟨q,_,rfl,SqL.of h.at_,me h.len h.each⟩
structure GrA (H0 G:Hp)(gas:List Addr)(gs:List (List (List Int))):Prop where
 len:gas.length=gs.length
 each:∀ (i:Nat) g ts,gas[i]? = some g->gs[i]? = some ts->H0 g=none/\∃ as,LsW H0 G g as ts
theorem GrA.same {H0 G G':Hp}{gas:List Addr}{gs:List (List (List Int))}(h:GrA H0 G gas gs)(s:fg G G'):GrA H0 G' gas gs:=⟨h.len,λi g ts h1 h2=>by
 obtain⟨a,as,L⟩:=h.each i g ts h1 h2
 exact⟨a,as,L.same s⟩⟩
theorem GrA.push {H0 G:Hp}{gas as:List Addr}{gs:List (List (List Int))}{g:Addr}{ts:List (List Int)}(h:GrA H0 G gas gs)(n:H0 g=none)(L:LsW H0 G g as ts):GrA H0 G (gas ++ [g]) (gs ++ [ts]):=⟨by rw[ah,ah,h.len];rfl,λi b u h1 h2=>by
 by_cases c:i<gas.length
 ·rw[ao c]at h1
  rw[ao (by rw[<-h.len];exact c)]at h2
  exact h.each i b u h1 h2
 ·rw[ar (by omega)]at h1
  rw[ar (by rw[<-h.len];omega),<-h.len]at h2
  cases hd:i-gas.length with
  |zero=>
   rw[hd]at h1 h2
   cases h1
   cases h2
   exact⟨n,as,L⟩
  |succ n=>rw[hd]at h1;simp at h1⟩
theorem De {d q:Addr}{G:Hp}{o:HO} :lD d q (upd G d o)=lD d q G:=by show hid q (hid d (upd G d o))=_;rw[pR]
theorem Dd {d q:Addr}{G:Hp}{o:HO} :lD d q (upd G q o)=lD d q G:=by
 funext b
 by_cases e:b=q
 ·subst e;show hid b _ b=hid b _ b;rw[ig,ig]
 ·show hid q _ b=hid q _ b
  rw[gK e,gK e]
  by_cases c:b=d
  ·subst c;rw[ig,ig]
  ·rw[gK c,gK c,fc e]
theorem oS {d q:Addr}{G G':Hp}(s:fg G G'):fg (lD d q G) (lD d q G'):=iK (iK s)
theorem sj {d q:Addr}{G:Hp} :fg (lD d q G) G:=λb u h=>gF (p:=d) b u (gF (p:=q) b u h)
theorem AF {H0 G:Hp}{q p:Addr}{bs:List Addr}{ts:List (List Int)}{Z:List (V×List Int)}(FR:sL H0 G q bs ts)(np:G p=none)(zp:Z.Perm ((bs.map V.ref).zip ts)):∃ as,Z.map (·.1)=as.map V.ref/\LsW H0 (upd G p (.lst (Z.map (·.1)))) p as (Z.map (·.2)):=by
 have h:=ug (R:=λa t=>H0 a=none/\a≠p/\G a=some (.lst (t.map V.int))) FR.len λi a t h1 h2=>by
  obtain⟨a1,a2,a3⟩:=FR.each i a t h1 h2
  exact⟨a1,eZ a3 np,a3⟩
 obtain⟨as,e1,e2,e3⟩:=oF (R:=λa t=>H0 a=none/\a≠p/\G a=some (.lst (t.map V.int))) (Z:=Z) λz hz=>h z (zp.mem_iff.mp hz)
 refine⟨as,e1,⟨by rw[eW,e1],e2,λi a t h1 h2=>?_⟩⟩
 obtain⟨a1,a2,a3⟩:=e3 i a t h1 h2
 exact⟨a1,a2,by rw[fc a2];exact a3⟩
theorem LsW.pre {H0 H1 G:Hp}{p:Addr}{as:List Addr}{ts:List (List Int)}(h:LsW H1 G p as ts)(s:fg H0 H1):LsW H0 G p as ts:=⟨h.at_,h.len,λi a t h1 h2=>⟨fg.free s (h.each i a t h1 h2).1,(h.each i a t h1 h2).2⟩⟩
theorem LsW.hid {H0 G:Hp}{q p d:Addr}{as:List Addr}{ts:List (List Int)}(h:LsW H0 G p as ts)(pd:p≠d)(pq:p≠q)(ad:∀ a∈as,a≠d/\a≠q):LsW H0 (lD d q G) p as ts:=
 ⟨by rw[lC pd pq];exact h.at_,h.len,λi a t h1 h2=>by
  obtain⟨a1,a2,a3⟩:=h.each i a t h1 h2
  obtain⟨b1,b2⟩:=ad a (aA h1)
  exact⟨a1,a2,by rw[lC b1 b2];exact a3⟩⟩
def rM (K:PySem.W.Frag):Sp:=λvs H Q _=>∃ (v:V) (p:Addr) (l:Ln) (k:Nat) (as:List Addr),vs = [v,.ref p]/\Da K H (dL l) v/\gW l/\k<=5/\DuA H p as (fD l k)/\(fD l k).length<=300/\
 ∀ t q d gas kvs H',fg H H'->H' t=some (.tup [.ref q,.ref d])->H' q=some (.lst (gas.map V.ref))->GrA H H' gas (jG l k (fD l k))->H' d=some (.dT kvs)->rF kvs (jG l k (fD l k))->Q (.ref t) H'
abbrev nY:Stmt:=top 25
theorem jR:fM ["line","trains","numbers","found","train","group","standing"] ["line","trains"] (fi nY):=⟨rfl,rfl,rfl,by decide +kernel,rfl,by decide +kernel,by decide +kernel⟩
section
variable {P:Program}{w:World}{K:PySem.W.Frag}{mg:Str->Option Value}{base:Heap}{f:Addr}{fd:FuncData}
theorem ya {f1:Addr}{fd1:FuncData}(F:Fn K mg "parted" nY ["line","trains"] f fd)(B:Bm mg)(jZ:Fn K mg "come_to" mQ ["line","train"] f1 fd1)(o9:fG P w K mg base (CXr P w base) 5 f1 fd1 ["line","train"] (wN K)):
  fG P w K mg base (CXr P w base) 6 f fd ["line","trains"] (rM K):=by
 refine F.F.okX jR (λvs H Q E h=>?_) (λcdv A outer s H vs Q E hr h=>?_)
 ·obtain⟨v,p,l,k,as,rfl,_⟩:=h;rfl
 ·obtain⟨v,p,l,kk,as,rfl,hv,GL,k5,DU,D3,k⟩:=h
  have ok:=GL.jF
  refine⟨_,(eY (fv (i:=2) jR.nd rfl (Or.inl rfl) y4)
 (eY (fv (i:=3) jR.nd rfl (Or.inl rfl) (fS eX))
 (eY (gS dQ rfl (fU (pv 1)) (ft (i:=4) jR.nd rfl (Or.inl rfl))
 (fh (ie (gM (oN (nz hr) (gA gE rfl B.tuple dW (eU (pv 4) eX)) (pv 2)))
 (eY (fv (i:=5) jR.nd rfl (Or.inl rfl) (fx (nM hr.units) rfl B.sorted boot_sorted (eU (fo o9 (hr.mono (by decide)) rfl jZ.m jZ.F.kp jZ.b .nil mT (eU (pv 0) (eU (pv 4) eX))) eX)))
 (eY (gS dQ rfl (fU (pv 5)) (ft (i:=6) jR.nd rfl (Or.inl rfl))
 (fh (sZ (nz hr) (pv 2) (gA gE rfl B.tuple dW (eU (pv 6) eX)) (fx fR rfl B.len de (eU (pv 3) eX)) rfl)))
 (fh (gv (iV aF aR aQ gk (pv 3) (eU (pv 5) eX)))))) gg)))
 (fh (fP (gR (eU (pv 3) (eU (pv 2) eX)))))))),?_⟩
  refine λd nd=>?_
  have s1:=eV (o:=.dT []) nd
  refine⟨aM _,λq nq=>?_⟩
  have s2:=eV (o:=.lst []) nq
  have hd2:=s2 _ _ (eW (H:=H) (a:=d) (o:=.dT []))
  have hq2:=eW (H:=upd H d (.dT [])) (a:=q) (o:=.lst [])
  have S2:=s1.trans s2
  have nq0:=fg.free s1 nq
  have dq:d≠q:=eZ eW nq
  generalize upd (upd H d _) q _=H2 at hd2 hq2 S2 ⊢
  refine⟨_,rfl,p,rfl,⟨_,SqL.of (S2 _ _ DU.at_)⟩,gB (K:=K) (a:=p) (xs:=as.map V.ref) (λi σ G=>∃ (gas:List Addr) (kvs:List (List Key×V)) (x4 x5 x6:Option V),σ = [some v,some (.ref p),some (.ref d),some (.ref q),x4,x5,x6]/\fg H G/\G q=some (.lst (gas.map V.ref))/\G d=some (.dT kvs)/\
    GrA H (lD d q G) gas (((fD l kk).take i).foldl (pst l kk) [])/\kvs.length<=300*i/\gas.length<=i/\rF kvs (((fD l kk).take i).foldl (pst l kk) []))
   ⟨[],[],none,none,none,rfl,S2,hq2,hd2,⟨rfl,λi g ts h=>by simp at h⟩,aq _,aq _,rF.nil⟩ (λi σ G _ ⟨_,_,_,_,_,_,s,_⟩=>SqL.of (s _ _ DU.at_)) ?_ ?_⟩
  ·rintro i y σ G1 N R Bq kN _ hi ⟨gas,kvs,x4,x5,x6,rfl,S,hq,hd,GA,kl,gl,NK⟩
   have il:i<as.length:=by have:=(af.mp hi).1;rwa [aa]at this
   have il2:i<(fD l kk).length:=by rw[<-DU.len];exact il
   have ha:as[i]? = some as[i]:=ae il
   have ht:(fD l kk)[i]? = some (fD l kk)[i]:=ae il2
   have hta:=S _ _ (DU.each i _ _ ha ht)
   rw[aj,ha]at hi
   cases hi
   generalize as[i]=ta at ha hta
   generalize (fD l kk)[i]=t at ht hta
   have tm:=aA ht
   obtain⟨T,tl,tne⟩:=kd ok tm
   have stp:=yo (l:=l) (k:=kk) ht
   have FO:wz l kk (((fD l kk).take i).foldl (pst l kk) []):=tU _ (λu hu=>dR hu) [] λg hg=>by cases hg
   generalize ((fD l kk).take i).foldl (pst l kk) []=F at GA NK stp FO
   refine⟨_,rfl,ta,_,rfl,.inl ⟨SqL.of hta,λst nst=>?_⟩⟩
   have u1:=eV (o:=.tup (t.map V.int)) nst
   have hst:=eW (H:=G1) (a:=st) (o:=.tup (t.map V.int))
   have S:=S.trans u1
   have hq:=u1 _ _ hq
   have hd:=u1 _ _ hd
   have hta:=u1 _ _ hta
   have GA:=GA.same (oS u1)
   generalize upd G1 st _=G2 at hst S hq hd hta GA ⊢
   refine⟨_,rfl,d,_,rfl,pK.t (k:=kyI t) hd (by rw[kc];exact hst),_,rfl,?_⟩
   rw[NK.mem t]
   refine iE (λhn=>?_) (λhn=>?_)
   ·have hn:t∉F.flatten:=by simpa using hn
    have stp:((fD l kk).take (i+1)).foldl (pst l kk) []=F ++ [grp l kk t]:=by rw[stp];unfold pst;rw[ax hn]
    refine⟨_,rfl,_,rfl,_,_,l,t,rfl,Da.same S hv,jo hta,ok,tne,by omega,T,λi=>bF (wF GL tm i) D3,λwi cq bs G3 hw FR=>?_⟩
    have cl:=FR.len
    have wl:((fy l t wi).map (·.1)).length<=300:=by rw[aa];exact bF (wF GL tm wi) D3
    refine⟨cq,_,_,rfl,SqL.of FR.at_,me cl λi a t h1 h2=>(FR.each i a t h1 h2).2.2,λg Z ng zp zs=>?_⟩
    obtain⟨gs,e1,LG⟩:=AF FR ng zp
    have pe:=pU (by rw[aa];exact cl) zp
    have eg:=xm GL tm hw pe zs
    rw[eg]at LG
    rw[e1]at LG ⊢
    have gl2:(grp l kk t).length<=300:=by rw[<-eg,pe.length_eq];exact wl
    have ng0:=fg.free FR.same ng
    have u2:=FR.same.trans (eV (o:=.lst (gs.map V.ref)) ng)
    have gd:g≠d:=(eZ hd ng0).symm
    have gq:g≠q:=(eZ hq ng0).symm
    have ad:∀ a∈gs,a≠d/\a≠q:=λa ham=>by
     obtain⟨j,hj,rfl⟩:=bt.mp ham
     have hj2:j<(grp l kk t).length:=by rw[<-LG.len];exact hj
     have:=LG.each j _ _ (ae hj) (ae hj2)
     exact⟨(eZ hd this.1).symm,(eZ hq this.1).symm⟩
    have LGh:=(LG.pre S).hid gd gq ad
    have ng1:=fg.free S ng0
    have S:=S.trans u2
    have hq:=u2 _ _ hq
    have hd:=u2 _ _ hd
    have GA:=(GA.same (oS u2)).push ng1 LGh
    generalize upd G3 g _=G4 at S hq hd GA LG LGh ⊢
    have Fl:=GA.len
    rw[ah,ah]at Fl
    have Fl:gas.length+1=F.length+1:=Fl
    have gnd:=zV (k:=kk) GL t
    have dj:∀ u∈grp l kk t,u∉F.flatten:=λu hu=>Dj ok FO tm hn hu
    refine⟨_,rfl,g,rfl,⟨_,SqL.of LG.at_⟩,gB (K:=K) (a:=g) (xs:=gs.map V.ref) (λj σ G=>∃ (yg:List (List Key×V)) (x6:Option V),σ = [some v,some (.ref p),some (.ref d),some (.ref q),some (.ref ta),some (.ref g),x6]/\fg H G/\G q=some (.lst (gas.map V.ref))/\G d=some (.dT yg)/\fg (lD d q G4) G/\fg (lD d q G4) (lD d q G)/\yg.length<=300*i+j/\wy yg F ((grp l kk t).take j))
     ⟨kvs,x6,rfl,S,hq,hd,sj,fg.refl _,kl,NK.start⟩ (λj σ G _ ⟨_,_,_,_,_,_,sm,_⟩=>SqL.of (sm _ _ LGh.at_)) ?_ ?_⟩
    ·rintro j y σ G5 N2 R2 B2 kN2 _ hj ⟨yg,x6,rfl,S5,hq5,hd5,sm,sh,kl5,NJ⟩
     rw[aj]at hj
     cases q1:gs[j]? with
     |none=>rw[q1]at hj;cases hj
     |some b=>
      rw[q1]at hj
      cases hj
      have jl:j<(grp l kk t).length:=by rw[<-LG.len];exact(af.mp q1).1
      have h1:(grp l kk t)[j]? = some (grp l kk t)[j]:=ae jl
      have hb:=sm _ _ (LGh.each j b _ q1 h1).2.2
      have um:=aA h1
      have un:(grp l kk t)[j]∉(grp l kk t).take j:=λz=>by
       obtain⟨m,hm,e⟩:=List.mem_take_iff_getElem.mp z
       have:=(cU gnd).mp e
       omega
      have tk:(grp l kk t).take (j+1)=(grp l kk t).take j ++ [(grp l kk t)[j]]:=by rw[bD,h1];rfl
      generalize (grp l kk t)[j]=u at h1 hb um un tk
      refine⟨_,rfl,q,_,rfl,.inl (SqL.of hq5),_,rfl,_,rfl,b,_,rfl,.inl ⟨SqL.of hb,λst2 CA=>?_⟩⟩
      have u3:=eV (o:=.tup (u.map V.int)) CA
      have zL:=eW (H:=G5) (a:=st2) (o:=.tup (u.map V.int))
      have S6:=S5.trans u3
      have hq6:=u3 _ _ hq5
      have hd6:=u3 _ _ hd5
      have sm6:=sm.trans u3
      have sh6:=sh.trans (oS u3)
      generalize upd G5 st2 _=G6 at zL S6 hq6 hd6 sm6 sh6 ⊢
      obtain⟨NJ',kl'⟩:=NJ.put (dj u um) un
      refine⟨d,_,rfl,wC.t (k:=kyI u) hd6 (by rw[kc];exact zL) (ko (by omega)),?_⟩
      rw[aa,show gas.length=F.length by omega]
      refine kN2 _ _ ⟨_,_,rfl,fg.upd S6 nd,by rw[fc (bZ dq)];exact hq6,eW,?_,by rw[De];exact sh6,by rw[kl'];omega,by rw[tk];exact NJ'⟩
      exact λc o hc=>by rw[fc (λz=>by rw[z]at hc;unfold lD at hc;rw[gK dq,ig]at hc;cases hc)];exact sm6 c o hc
    ·rintro σ G5 ⟨yg,x6,rfl,S5,hq5,hd5,sm,sh,kl5,NJ⟩
     rw[aa]at kl5
     rw[aa,LG.len,bA]at NJ
     have lg:=LG.len
     refine⟨_,rfl,.inl ⟨rfl,_,SqL.of hq5⟩,_,rfl,q,_,_,rfl,rfl,hq5,ko (by rw[aa];omega),?_⟩
     refine kN _ _ ⟨gas ++ [g],yg,_,_,_,rfl,fg.upd S5 nq0,by rw[eW,aw];rfl,by rw[fc dq];exact hd5,?_,by omega,by rw[ah];show gas.length+1<=i+1;omega,by rw[stp];exact NJ.done dj⟩
     rw[stp,Dd]
     exact GA.same sh
   ·have hn:t∈F.flatten:=by simpa using hn
    have stp:((fD l kk).take (i+1)).foldl (pst l kk) []=F:=by rw[stp];unfold pst;rw[aH hn]
    exact kN _ _ ⟨gas,kvs,_,_,_,rfl,S,hq,hd,by rw[stp];exact GA,by omega,by omega,by rw[stp];exact NK⟩
  ·rintro σ G ⟨gas,kvs,x4,x5,x6,rfl,S,hq,hd,GA,_,_,NK⟩
   rw[aa,DU.len,bA,TL.fold_all]at GA NK
   refine⟨_,rfl,_,rfl,by show 2<=sizeLine;decide,λtp ntp=>?_⟩
   have u:=eV (o:=.tup [.ref q,.ref d]) ntp
   exact k tp q d gas kvs _ (S.trans u) eW (u _ _ hq) ((GA.same sj).same u) (u _ _ hd) NK
end
def Gt1 (H0:Hp)(gs:List (List (List Int)))(G:Hp)(ts:List (List Int))(v:V):Prop:=∃ a g as,v = .ref a/\G a=some (.tup [.ref g,.int (twn gs ts)])/\H0 g=none/\LsW H0 G g as ts
theorem Gt1.mono {H0:Hp}{gs:List (List (List Int))}{G G':Hp}(ts:List (List Int))(v:V)(s:fg G G')(h:Gt1 H0 gs G ts v):Gt1 H0 gs G' ts v:=by
 obtain⟨a,g,as,h1,h2,h3,h4⟩:=h
 exact⟨a,g,as,h1,s _ _ h2,h3,h4.same s⟩
structure GtA (H0 G:Hp)(p:Addr)(ps:List Addr)(gs:List (List (List Int))):Prop where
 at_:G p=some (.lst (ps.map V.ref))
 len:ps.length=gs.length
 each:∀ (i:Nat) a ts,ps[i]? = some a->gs[i]? = some ts->∃ g as,g≠p/\G a=some (.tup [.ref g,.int (twn gs ts)])/\H0 g=none/\LsW H0 G g as ts
theorem GtA.same {H0 G G':Hp}{p:Addr}{ps:List Addr}{gs:List (List (List Int))}(h:GtA H0 G p ps gs)(s:fg G G'):GtA H0 G' p ps gs:=⟨s _ _ h.at_,h.len,λi a ts h1 h2=>by
 obtain⟨g,as,b0,b1,b2,b3⟩:=h.each i a ts h1 h2
 exact⟨g,as,b0,s _ _ b1,b2,b3.same s⟩⟩
theorem BH {H0 G:Hp}{gs0:List (List (List Int))} :∀ {gs:List (List (List Int))}{vs:List V},Pw (Gt1 H0 gs0 G) gs vs->∃ ps:List Addr,vs=ps.map V.ref/\ps.length=gs.length/\∀ (i:Nat) a ts,ps[i]? = some a->gs[i]? = some ts->∃ g as,G a=some (.tup [.ref g,.int (twn gs0 ts)])/\H0 g=none/\LsW H0 G g as ts
 |[],[],_=>⟨[],rfl,rfl,λi a t h=>by simp at h⟩
 |t::ts,v::vs,h=>by
  obtain⟨a,g,as,rfl,h2,h3,h4⟩:=h.1
  obtain⟨ps,rfl,hl,hb⟩:=BH h.2
  refine⟨a::ps,rfl,by rw[aX,aX,hl],λi b u h1 h2'=>?_⟩
  cases i with
  |zero=>cases h1;cases h2';exact⟨g,as,h2,h3,h4⟩
  |succ n=>exact hb n b u (by simpa using h1) (by simpa using h2')
theorem Ag {K:PySem.W.Frag}{H0 G:Hp}{gs0:List (List (List Int))} :∀ {gs:List (List (List Int))}{ps:List Addr},ps.length=gs.length->(∀ (i:Nat) a ts,ps[i]? = some a->gs[i]? = some ts->∃ g as,G a=some (.tup [.ref g,.int (twn gs0 ts)])/\H0 g=none/\LsW H0 G g as ts)->Das K G (gs.map (dGe gs0)) (ps.map V.ref)
 |[],[],_,_=>fV.mpr rfl
 |ts::gs,a::ps,hl,h=>by
  obtain⟨g,as,h1,h2,h3⟩:=h 0 a ts rfl rfl
  exact fN.mpr ⟨_,_,rfl,hG.mpr ⟨a,_,rfl,.inl (.inl h1),fN.mpr ⟨_,_,rfl,LsW.du h3 |>.da,fN.mpr ⟨_,_,rfl,iq.mpr rfl,fV.mpr rfl⟩⟩⟩,Ag (by simpa using hl) λi b u h1 h2=>h (i+1) b u h1 h2⟩
 |[],_::_,hl,_=>by simp at hl
 |_::_,[],hl,_=>by simp at hl
theorem GtA.da {K:PySem.W.Frag}{H0 G:Hp}{p:Addr}{ps:List Addr}{gs:List (List (List Int))}(h:GtA H0 G p ps gs):Da K G (dG gs) (.ref p):=h7.mpr ⟨p,_,rfl,SqL.of h.at_,Ag h.len λi a ts h1 h2=>by obtain⟨g,as,_,b⟩:=h.each i a ts h1 h2;exact⟨g,as,b⟩⟩
def rN (K:PySem.W.Frag)(C:Addr):Sp:=λvs H Q E=>∃ (v:V) (l:Ln) (n:Nat),vs = [v,.int (n:Int)]/\Da K H (dL l) v/\gW l/\1<=n/\n<=6/\
 ((fD l (n-1)).length<=300->∀ p ps H',fg H H'->H p=none->GtA H H' p ps (jG l (n-1) (fD l (n-1)))->Q (.ref p) H')/\
 (300<(fD l (n-1)).length->∀ H',fg H H'->∀ e,H' e=none->E (.ref C) (some e) H')
abbrev lQ:Stmt:=top 26
theorem oM:fM ["line","length","found","numbers"] ["line","length"] (fi lQ):=⟨rfl,rfl,rfl,by decide +kernel,rfl,by decide +kernel,by decide +kernel⟩
theorem pB:gG (fi lQ) ["line","length","found","numbers"] {kind:=.function,names:=[(Str.ofString ".0",.local),(Str.ofString "group",.local),(Str.ofString "tuple",.globalImplicit),(Str.ofString "turned",.globalImplicit),(Str.ofString "numbers",.free)],isGenerator:=false,isCoroutine:=false,more:=[]} ["group","numbers"] 1 [none,some 3]:=⟨rfl,by decide +kernel,by decide +kernel,by decide +kernel,rfl,by decide +kernel,rfl,by decide +kernel⟩
section
variable {P:Program}{w:World}{K:PySem.W.Frag}{mg:Str->Option Value}{base:Heap}{f:Addr}{fd:FuncData}{c5:Addr}{tk:Tok}
theorem yc {f1 f2 f3:Addr}{fd1 fd2 fd3:FuncData}(F:Fn K mg "groups" lQ ["line","length"] f fd)(B:Bm mg)(kU:Fn K mg "parted" nY ["line","trains"] f1 fd1)(rh:fG P w K mg base (CXr P w base) 6 f1 fd1 ["line","trains"] (rM K))
  (iY:Fn K mg "trains_of" iT ["line","length"] f2 fd2) (mE:fG P w K mg base (CXr P w base) 3 f2 fd2 ["line","length"] (rL K c5))
  (kT:Fn K mg "turned" lP ["train"] f3 fd3) (rb:fG P w K mg base CX0 2 f3 fd3 ["train"] (nV K)):fG P w K mg base (CXr P w base) 7 f fd ["line","length"] (rN K c5):=by
 refine F.F.okX oM (λvs H Q E h=>?_) (λcdv A outer s H vs Q E hr h=>?_)
 ·obtain⟨v,l,n,rfl,_⟩:=h;rfl
 ·obtain⟨v,l,n,rfl,hv,GL,n1,n6,kq,ke⟩:=h
  have ok:=GL.jF
  refine⟨_,(eY (yX (fo rh (hr.mono (by decide)) rfl kU.m kU.F.kp kU.b .nil mT (eU (pv 0) (eU (fo mE (hr.mono (by decide)) rfl iY.m iY.F.kp iY.b .nil mT (eU (pv 0) (eU (pv 1) eX))) eX))) (jE (n:=2) rfl (fQ (ft (i:=2) oM.nd rfl (Or.inl rfl)) (fQ (ft (i:=3) oM.nd rfl (Or.inr rfl)) iL))))
 (fh (fP (lR (fU (pv 2)) rfl pB (.name (by decide)) (λ_ _ _ _=>(ft (i:=0) pB.nd rfl (Or.inl rfl))) (λ_ _ _ _=>iB) (λ_ _ _ _=>(gR (eU (pv 0) (eU (wZ (nz hr) (pv 1) (gA (qX (K:=K) rfl) rfl B.tuple dW (eU (fo rb (hr.mono (by decide)) rfl kT.m kT.F.kp kT.b .nil fK (eU (gz (lY (K:=K) rfl) (pv 0) fb (λ_ _=>rfl)) eX)) eX)) (λ_ _=>rfl)) eX)))))))),?_⟩
  refine⟨_,rfl,_,rfl,_,rfl,_,l,n,rfl,hv,ok,n1,n6,λh3 p as H1 s1 np L=>?_,ke⟩
  refine⟨_,p,l,n-1,as,rfl,Da.same s1 hv,GL,by omega,L.du,h3,λt q d gas kvs H2 s2 ht hq GA hd NK=>?_⟩
  refine⟨t,_,rfl,.inl (.inl ht),rfl,_,_,rfl,_,_,rfl,rfl,?_⟩
  have S2:=s1.trans s2
  have gok:=wj l (n-1)
  have Dn:∀ u∈fD l (n-1),u∈(jG l (n-1) (fD l (n-1))).flatten:=λu hu=>zU ok hu
  have gl:(jG l (n-1) (fD l (n-1))).length<=300:=bF (qN _ _) h3
  generalize jG l (n-1) (fD l (n-1))=gs at *
  have hgl:=GA.len
  have ql:(gas.map V.ref).length=gs.length:=by rw[aa];exact hgl
  refine⟨_,rfl,q,rfl,⟨_,SqL.of hq⟩,λr nr=>xf gs.length gs (Gt1 H gs) (λt v=>Gt1.mono t v) nr rfl (ko (by omega)) (λi G s hi=>(mY (SqL.of (K:=K) hq)).go i G s (by omega)) (λG s=>by have:=(mY (SqL.of (K:=K) hq)).stop G s;rw[ql]at this;exact this) ?_ ?_⟩
  ·rintro i x ts G G' sG ⟨us',hus⟩ y hd' P1 P0 k1
   have hi:i<gs.length:=(af.mp hd').1
   obtain⟨rfl,hx⟩:=(mY (SqL.of (K:=K) hq)).yld i G x G' sG (by omega) y
   rw[aj]at hx
   cases q1:gas[i]? with
   |none=>rw[q1]at hx;cases hx
   |some g=>
    rw[q1]at hx
    cases hx
    obtain⟨ng,as',LG⟩:=GA.each i g ts q1 hd'
    have ng:=fg.free s1 ng
    have LG:=LG.pre s1
    have tm:=aA hd'
    obtain⟨u,r',e1,um,hh,e2⟩:=wg ok gok tm
    have ul:=(kd ok um).2.1
    have tl:=ur ok um
    have L0:=LG.same sG
    have hh0:as'[0]? = some (as'[0]'(by rw[LG.len,e1];simp)):=ae _
    obtain⟨_,_,hu⟩:=L0.each 0 _ u hh0 (by rw[e1];rfl)
    generalize as'[0]'(by rw[LG.len,e1];simp)=ua at hh0 hu
    refine iD ?_
    refine⟨_,rfl,_,rfl,_,rfl,g,_,_,_,rfl,rfl,SqL.of L0.at_,kf (v:=V.ref ua) (by decide) (by rw[aj];show(as'[0]?).map V.ref=_;rw[hh0];rfl),_,u,rfl,jo hu,by omega,λpt G3 s3 npt hpt=>?_⟩
    refine⟨pt,_,rfl,.inl ⟨SqL.of hpt,λst nst=>?_⟩⟩
    have s4:=eV (o:=.tup ((u.reverse.map oth).map V.int)) nst
    have hst:=eW (H:=G3) (a:=st) (o:=.tup ((u.reverse.map oth).map V.int))
    have S4:=s3.trans s4
    generalize upd G3 st _=G4 at s4 hst S4 ⊢
    have hd4:=(sG.trans S4) _ _ hd
    have Ii:i8 kvs (kyI (u.reverse.map oth))=some (V.int (twn gs ts)):=by
     rw[NK,aH (Dn _ tl)];unfold twn;rw[hh]
    refine⟨d,.int (twn gs ts),rfl,by rw[<-Ii];exact pK.t (k:=kyI (u.reverse.map oth)) hd4 (by rw[kc];exact hst),by show 2<=sizeLine;decide,λtp ntp=>?_⟩
    have s5:=eV (o:=.tup [.ref g,.int (twn gs ts)]) ntp
    have tr:tp≠r:=(eZ (S4 _ _ hus) ntp).symm
    refine k1 _ _ (S4.trans s5) ⟨tp,g,as',rfl,by rw[gK tr];exact eW,ng,LG.same (zQ (sG.trans (S4.trans s5)) nr)⟩
  ·intro vs H3 s3 hr3 PW
   obtain⟨ps,rfl,hl,he⟩:=BH PW
   exact kq h3 r ps H3 (S2.trans s3) (fg.free S2 nr) ⟨hr3,hl,λi a ts h1 h2=>by
    obtain⟨g,as,b1,b2,b3⟩:=he i a ts h1 h2
    exact⟨g,as,(λz=>by have:=b3.at_;rw[z,ig]at this;cases this),gF _ _ b1,b2,b3.same gF⟩⟩
end
def yO (K:PySem.W.Frag):Sp:=λvs H Q _=>∃ (v:V) (l:Ln) (n:Nat),vs = [v,.int (n:Int)]/\Da K H (dL l) v/\gW l/\1<=n/\n<=6/\∀ q as H',fg H H'->H q=none->DuA H' q as (fD l (n-1))->Q (.ref q) H'
theorem wO {H:Hp}{q:Addr}{as:List Addr}{ts:List (List Int)}{Z:List (V×List Int)}(hl:as.length=ts.length)(he:∀ (i:Nat) a t,as[i]? = some a->ts[i]? = some t->H a=some (.lst (t.map V.int)))(nq:H q=none)(zp:Z.Perm ((as.map V.ref).zip ts)):∃ bs,DuA (upd H q (.lst (Z.map (·.1)))) q bs (Z.map (·.2)):=by
 have h:=ug (R:=λa t=>a≠q/\H a=some (.lst (t.map V.int))) hl λi a t h1 h2=>⟨eZ (he i a t h1 h2) nq,he i a t h1 h2⟩
 obtain⟨bs,e1,e2,e3⟩:=oF (R:=λa t=>a≠q/\H a=some (.lst (t.map V.int))) (Z:=Z) λz hz=>h z (zp.mem_iff.mp hz)
 refine⟨bs,⟨by rw[eW,e1],e2,λi a t h1 h2=>?_⟩⟩
 obtain⟨a2,a3⟩:=e3 i a t h1 h2
 rw[fc a2];exact a3
abbrev jT:Stmt:=top 40
theorem iw:fM ["_law_line_here","_law_length","_law_end","_law_found","_law_again","_law_told_here","_law_train","_law_pieces"] ["_law_line_here","_law_length"] (fi jT):=⟨rfl,rfl,rfl,by decide +kernel,rfl,by decide +kernel,by decide +kernel⟩
theorem oB:gG (fi jT) ["_law_line_here","_law_length","_law_end","_law_found","_law_again","_law_told_here","_law_train","_law_pieces"] {kind:=.function,names:=[(Str.ofString ".0",.local),(Str.ofString "_law_end",.local)],isGenerator:=false,isCoroutine:=false,more:=[]} ["_law_end"] 1 [none]:=⟨rfl,by decide +kernel,by decide +kernel,by decide +kernel,rfl,by decide +kernel,rfl,by decide +kernel⟩
theorem oA:gG (fi jT) ["_law_line_here","_law_length","_law_end","_law_found","_law_again","_law_told_here","_law_train","_law_pieces"] {kind:=.function,names:=[(Str.ofString ".0",.local),(Str.ofString "_law_end",.local)],isGenerator:=false,isCoroutine:=false,more:=[]} ["_law_end"] 1 [none]:=⟨rfl,by decide +kernel,by decide +kernel,by decide +kernel,rfl,by decide +kernel,rfl,by decide +kernel⟩
section
variable {P:Program}{w:World}{K:PySem.W.Frag}{mg:Str->Option Value}{base:Heap}{f:Addr}{fd:FuncData}
theorem vU {f1 f2:Addr}{fd1 fd2:FuncData}(F:Fn K mg "_law_all" jT ["_law_line_here","_law_length"] f fd)(B:Bm mg)(fw:Fn K mg "_law_other" iz ["_law_end"] f1 fd1)
  (fO:Fn K mg "_law_joined" hX ["_law_line_here","_law_end"] f2 fd2):fG P w K mg base CX0 2 f fd ["_law_line_here","_law_length"] (yO K):=by
 have hV:fG P w K mg base CX0 1 f1 fd1 ["_law_end"] i9:=jO fw
 have jQ:fG P w K mg base CX0 1 f2 fd2 ["_law_line_here","_law_end"] (kG K):=nk fO B.toBl
 refine F.F.ok iw (λvs H Q E h=>?_) (λcdv A outer s H vs Q E hr h=>?_)
 ·obtain⟨v,l,n,rfl,_⟩:=h;rfl
 ·obtain⟨v,l,n,rfl,hv,GL,n1,n6,k⟩:=h
  have ok:=GL.jF
  have o1:1<=l.1:=ok.one
  have o14:l.1<=14:=GL.most
  obtain⟨al,bl,rfl,hlt,us,hll,hlq⟩:=mZ hv
  have ol:(lT l.1).length=(2*l.1).toNat:=by unfold lT;rw[aa,j8]
  refine⟨_,(eY (qk (i:=3) iw.nd rfl rfl (jk rfl B.range (eU (fq iC fb (gz kD (pv 0) fb (λ_ _=>rfl))) eX)) rfl oB (.name (by decide)) (λ_ _ _ _=>(ft (i:=0) oB.nd rfl (Or.inl rfl))) (λ_ _ _ _=>iB) (λ_ _ _ _=>(fS (eU (pv 0) eX))))
 (eY (gS bh rfl (xX rfl B.range (eU fb (eU (pv 1) eX))) (ft (i:=4) iw.nd rfl (Or.inl rfl))
 (eY (fv (i:=5) iw.nd rfl (Or.inl rfl) (fS eX))
 (eY (gS bh rfl (fU (pv 3)) (ft (i:=6) iw.nd rfl (Or.inl rfl))
 (eY (qk (i:=7) iw.nd rfl rfl (fU (pv 6)) rfl oA (.name (by decide)) (λ_ _ _ _=>(ft (i:=0) oA.nd rfl (Or.inl rfl))) (λ_ _ _ _=>iB) (λ_ _ _ _=>(fq iM (pv 0) fb)))
 (fh (gS bh rfl (fU (fo jQ (hr.mono (by decide)) rfl fO.m fO.F.kp fO.b .nil fK (eU (pv 0) (eU (fo hV (hr.mono (by decide)) rfl fw.m fw.F.kp fw.b .nil fK (eU (gz gh (pv 6) (qp nC fb) (λ_ _=>rfl)) eX)) eX)))) (ft (i:=2) iw.nd rfl (Or.inl rfl))
 (fh (ie (iu (kJ hr.units) (fq iM (pv 2) fb) (pv 7) (by with_unfolding_all rfl))
 (fh (gv (iV aF aR aQ gk (pv 5) (eU (fq kz (pv 6) (fS (eU (pv 2) eX))) eX)))) gg))))))
 (fh (fv (i:=3) iw.nd rfl (Or.inl rfl) (pv 5))))))
 (fh (fP (fx (nM hr.units) rfl B.sorted boot_sorted (eU (pv 3) eX)))))),?_⟩
  refine⟨_,rfl,al,_,_,_,rfl,rfl,hlt,rfl,_,_,rfl,rfl,.inl ⟨by decide,by decide⟩,_,rfl,by show -(2 ^ 62)<=2*l.1;omega,by show 2*l.1<2 ^ 62;omega,λpd npd=>?_⟩
  refine xf (2*l.1).toNat (lT l.1) (rG H pd pd) (λt v=>rG.mono t v) npd ol.symm (jw (by omega)) (λi G s hi=>hi) (λG s=>aq _) ?_ ?_
  ·rintro i x d G G' sG ⟨us',hus⟩ ⟨rfl,rfl⟩ hd P1 P0 k1
   have hi:i<(2*l.1).toNat:=by have:=(af.mp hd).1;rwa [ol]at this
   have ed:d = [(0:Int)+(i:Int)]:=by
    unfold lT at hd
    rw[aj,qh hi]at hd
    have hd:[(0:Int)+(i:Int)]=d:=by simpa using hd
    exact hd.symm
   refine iD ?_
   refine⟨_,rfl,by show 1<=sizeLine;decide,λp np=>?_⟩
   have ppd:p≠pd:=(eZ hus np).symm
   refine k1 _ _ (eV np) ⟨p,rfl,fg.free sG np,ppd,ppd,?_⟩
   rw[gK ppd,eW,ed];rfl
  intro vs H1 s1 hpd PW
  obtain⟨as0,rfl,BW⟩:=t9 PW
  have BW:=BW.same gF
  have D0:DuA H1 pd as0 (fD l 0):=⟨hpd,BW.1,λi a t h1 h2=>(BW.2 i a t h1 h2).2.2.2⟩
  dsimp only[kL]
  refine⟨_,rfl,1,n,rfl,⟨by decide,by decide,by omega,by omega⟩,nJ (λi σ G=>∃ (p:Addr) (as:List Addr) (x2 x4 x5 x6 x7:Option V),σ = [some (.ref al),some (.int n),x2,some (.ref p),x4,x5,x6,x7]/\fg H G/\DuA G p as (fD l i))
   ⟨pd,as0,none,none,none,none,none,rfl,s1,D0⟩ ?_ ?_⟩
  ·rintro kk σ H2 N' R' Bq' kN' kR' hk ⟨p,as,x2,x4,x5,x6,x7,rfl,S2,DU⟩
   have hk:kk<((n:Int)-1).toNat:=hk
   have dl:=Bg GL (k:=kk+1) (by omega)
   refine⟨aM _,λq nq=>?_⟩
   have s3:=eV (o:=.lst []) nq
   have hq:=eW (H:=H2) (a:=q) (o:=.lst [])
   have DU3:=DU.same s3
   have nqq:=nq
   generalize e3:upd H2 q (.lst [])=H3 at s3 hq DU3 ⊢
   have hv:=Da.same S2 hv
   refine⟨_,rfl,p,rfl,⟨_,SqL.of (s3 _ _ DU.at_)⟩,gB (K:=K) (a:=p) (xs:=as.map V.ref) (λi σ G=>∃ (as':List Addr) (x2 x6 x7:Option V),σ = [some (.ref al),some (.int n),x2,some (.ref p),some (.int (1+(kk:Nat))),some (.ref q),x6,x7]/\fg H2 G/\LsW H2 G q as' (((fD l kk).take i).flatMap (gr l)))
    ⟨[],x2,x6,x7,rfl,s3,⟨hq,rfl,λi b t h=>by simp at h⟩⟩ (λi σ G _ ⟨_,_,_,_,_,s,_⟩=>SqL.of (s _ _ DU.at_)) ?_ ?_⟩
   ·rintro i y σ G1 N R Bq kN _ hi ⟨as',x2,x6,x7,rfl,S,L⟩
    have il:i<as.length:=by have:=(af.mp hi).1;rwa [aa]at this
    have il2:i<(fD l kk).length:=by rw[<-DU.len];exact il
    have ha:as[i]? = some as[i]:=ae il
    have ht:(fD l kk)[i]? = some (fD l kk)[i]:=ae il2
    have hta:=S _ _ (DU.each i _ _ ha ht)
    have tok:=md ok kk _ (aA ht)
    rw[aj,ha]at hi
    cases hi
    generalize as[i]=ta at ha hta
    generalize (fD l kk)[i]=t at ht hta tok
    obtain⟨T,tl⟩:=tok
    have tne:t≠ []:=λz=>by rw[z]at tl;cases tl
    have fp:=vg (gr l) ht
    have tk:(fD l kk).take (i+1)=(fD l kk).take i ++ [t]:=by rw[bD,ht];rfl
    refine⟨_,rfl,ta,rfl,⟨_,SqL.of hta⟩,λpc npc=>jP t (λ_=>true) (λe=>V.int (e/2)) npc (SqL.of hta) (by rw[aa]) (by rw[aa];exact jw (by omega)) ?_ ?_⟩
    ·intro j x d H' hx hd sm P1 P0 k1 k0
     rw[aj,hd]at hx
     cases hx
     refine iD ?_
     exact⟨_,rfl,_,_,rfl,rfl,⟨by decide,by decide⟩,k1 rfl⟩
    rw[kM]
    have e1:(t.map λe=>V.int (e/2))=(t.map (· / 2)).map V.int:=by rw[bP];rfl
    rw[e1]
    have s2:=eV (o:=.lst ((t.map (· / 2)).map V.int)) npc
    have qpc:q≠pc:=eZ L.at_ npc
    have qta:ta≠q:=λz=>by rw[z]at ha;have:=DU.each i q t ha ht;rw[nq]at this;cases this
    have hpc:=eW (H:=G1) (a:=pc) (o:=.lst ((t.map (· / 2)).map V.int))
    have hta:=s2 _ _ hta
    have L:=L.same s2
    have S:=S.trans s2
    generalize upd G1 pc _=G2 at s2 hpc hta L S ⊢
    dsimp only[kL]
    refine⟨_,rfl,_,rfl,_,rfl,ta,_,_,_,rfl,rfl,SqL.of hta,pT tne,_,rfl,_,l,_,rfl,Da.same S hv,ok,λpj G3 s3 npj hpj=>?_⟩
    have qpj:q≠pj:=eZ L.at_ npj
    have jl:=tS ok (oth (t.getLastD 0))
    have L:=L.same s3
    have S:=S.trans s3
    have hta:=s3 _ _ hta
    have hpc:=s3 _ _ hpc
    refine⟨pj,rfl,⟨_,SqL.of hpj⟩,gB (K:=K) (a:=pj) (xs:=(jn l.2 (oth (t.getLastD 0))).map V.int) (λj σ G=>∃ (as':List Addr) (x4:Option V),σ = [some (.ref al),some (.int n),x4,some (.ref p),some (.int (1+(kk:Nat))),some (.ref q),some (.ref ta),some (.ref pc)]/\fg H2 G/\G pj=some (.lst ((jn l.2 (oth (t.getLastD 0))).map V.int))/\G ta=some (.lst (t.map V.int))/\G pc=some (.lst ((t.map (· / 2)).map V.int))/\LsW H2 G q as' (((fD l kk).take i).flatMap (gr l)++(((jn l.2 (oth (t.getLastD 0))).take j).filter λe=> !decide (e/2∈t.map (· / 2))).map λe=>t ++ [e]))
     ⟨as',x2,rfl,S,hpj,hta,hpc,by simpa using L⟩ (λj σ G _ ⟨_,_,_,_,h,_⟩=>SqL.of h) ?_ ?_⟩
    ·rintro j y σ G4 N2 R2 B2 kN2 _ hj ⟨as',x4,rfl,S,hpj,hta,hpc,L⟩
     rw[aj]at hj
     cases q1:(jn l.2 (oth (t.getLastD 0)))[j]? with
     |none=>rw[q1]at hj;cases hj
     |some e=>
      rw[q1]at hj
      cases hj
      have tk2:(jn l.2 (oth (t.getLastD 0))).take (j+1)=(jn l.2 (oth (t.getLastD 0))).take j ++ [e]:=by rw[bD,q1];rfl
      refine⟨_,rfl,_,_,rfl,rfl,⟨by decide,by decide⟩,_,rfl,_,.int (e/2),jo hpc,iq.mpr rfl,tK _,pP _,_,rfl,?_⟩
      rw[xu]
      have stp:((jn l.2 (oth (t.getLastD 0))).take (j+1)).filter (λe=> !decide (e/2∈t.map (· / 2)))=((jn l.2 (oth (t.getLastD 0))).take j).filter (λe=> !decide (e/2∈t.map (· / 2)))++(if(!decide (e/2∈t.map (· / 2)))=true then[e]else[]):=by
       rw[tk2,List.filter_append]
       congr 1
       rw[bW];rfl
      refine iE (λh=>?_) (λh=>?_)
      ·have h:(!decide (e/2∈t.map (· / 2)))=true:=h
       rw[aH h]at stp
       refine⟨_,rfl,.inl ⟨rfl,_,SqL.of L.at_⟩,_,rfl,_,rfl,by show 1<=sizeLine;decide,λp1 np1=>?_⟩
       have s5:=eV (o:=.lst [V.int e]) np1
       refine⟨ta,p1,_,_,rfl,rfl,s5 _ _ hta,eW,b9 (jw (by rw[aa];show t.length+1<=1000;omega)),λp2 np2=>?_⟩
       have s6:=s5.trans (eV (o:=.lst (t.map V.int ++ [V.int e])) np2)
       have hp2:=eW (H:=upd G4 p1 (.lst [V.int e])) (a:=p2) (o:=.lst (t.map V.int ++ [V.int e]))
       have El:G4 p2=none:=fg.free s5 np2
       generalize upd (upd G4 p1 _) p2 _=G5 at s6 hp2 ⊢
       have L6:=L.same s6
       have p2q:p2≠q:=(eZ L.at_ El).symm
       have cl:as'.length+1<=(fD l (kk+1)).length:=by
        have h1:as'.length=_:=L.len
        have h2:((((jn l.2 (oth (t.getLastD 0))).take (j+1)).filter λe=> !decide (e/2∈t.map (· / 2))).map λe=>t ++ [e]).length<=(gr l t).length:=by
         unfold gr fr
         rw[aa,aa]
         exact((List.take_sublist (j+1) _).filter _).length_le
        rw[stp,aw,ah]at h2
        have h2:_+1<=(gr l t).length:=h2
        rw[h1,ah]
        show _<=((fD l kk).flatMap (gr l)).length
        omega
       refine⟨q,_,_,rfl,rfl,L6.at_,ko (by rw[aa];omega),?_⟩
       refine kN2 _ _ ⟨as' ++ [p2],_,rfl,fg.upd (S.trans s6) nq,by rw[fc (bZ qpj)];exact s6 _ _ hpj,by rw[fc qta];exact s6 _ _ hta,by rw[fc (bZ qpc)];exact s6 _ _ hpc,?_⟩
       rw[stp,aw,<-aN]
       exact L6.push (t:=t ++ [e]) (by rw[aw];exact hp2) (fg.free S El) p2q
      ·have h:¬(!decide (e/2∈t.map (· / 2)))=true:=h
       rw[ax h,bO]at stp
       exact kN2 _ _ ⟨as',_,rfl,S,hpj,hta,hpc,by rw[stp];exact L⟩
    ·rintro σ G4 ⟨as',x4,rfl,S,hpj,hta,hpc,L⟩
     rw[aa,bA]at L
     refine kN _ _ ⟨as',_,_,_,rfl,S,?_⟩
     rw[tk,dY,List.flatMap_singleton]
     exact L
   ·rintro σ G1 ⟨as',x2,x6,x7,rfl,S,L⟩
    rw[aa,DU.len,bA]at L
    exact⟨_,rfl,kN' _ _ ⟨q,as',_,_,_,_,_,rfl,S2.trans S,L.du⟩⟩
  ·rintro σ G ⟨p,as,x2,x4,x5,x6,x7,rfl,S,D⟩
   have D:DuA G p as (fD l (n-1)):=by
    have e:((n:Int)-1).toNat=n-1:=by omega
    rw[<-e];exact D
   refine⟨_,rfl,p,_,fD l (n-1),rfl,SqL.of D.at_,me D.len D.each,λq Z nq zp zs=>?_⟩
   obtain⟨bs,DB⟩:=wO D.len D.each nq zp
   have pe:=pU (by rw[aa];exact D.len) zp
   rw[kY pe zs (cA (λ{a b} h=>qI h) (tZ GL (n-1)))]at DB
   exact k q bs _ (S.trans (eV nq)) (fg.free S nq) DB
end
structure GdA (G:Hp)(gas:List Addr)(gs:List (List (List Int))):Prop where
 len:gas.length=gs.length
 each:∀ (i:Nat) g ts,gas[i]? = some g->gs[i]? = some ts->∃ as,DuA G g as ts
theorem GdA.same {G G':Hp}{gas:List Addr}{gs:List (List (List Int))}(h:GdA G gas gs)(s:fg G G'):GdA G' gas gs:=⟨h.len,λi g ts h1 h2=>by
 obtain⟨as,L⟩:=h.each i g ts h1 h2
 exact⟨as,L.same s⟩⟩
theorem GdA.push {G:Hp}{gas as:List Addr}{gs:List (List (List Int))}{g:Addr}{ts:List (List Int)}(h:GdA G gas gs)(L:DuA G g as ts):GdA G (gas ++ [g]) (gs ++ [ts]):=⟨by rw[ah,ah,h.len];rfl,λi b u h1 h2=>by
 by_cases c:i<gas.length
 ·rw[ao c]at h1
  rw[ao (by rw[<-h.len];exact c)]at h2
  exact h.each i b u h1 h2
 ·rw[ar (by omega)]at h1
  rw[ar (by rw[<-h.len];omega),<-h.len]at h2
  cases hd:i-gas.length with
  |zero=>
   rw[hd]at h1 h2
   cases h1
   cases h2
   exact⟨as,L⟩
  |succ n=>rw[hd]at h1;simp at h1⟩
theorem DuA.hid {G:Hp}{q f:Addr}{as fs:List Addr}{ts:List (List Int)}(h:DuA G q as ts)(qf:q≠f)(hf:G f=some (.lst (fs.map V.ref)))(hne:∀ t∈ts,t≠ []):DuA (hid f G) q as ts:=
 ⟨by rw[gK qf];exact h.at_,h.len,λi a t h1 h2=>by
  have h3:=h.each i a t h1 h2
  rw[gK (λz=>by rw[z,hf]at h3;cases((jV (hne t (aA h2))) (aZ h3.symm)))]
  exact h3⟩
def yN (K:PySem.W.Frag):Sp:=λvs H Q _=>∃ (v:V) (l:Ln) (n:Nat),vs = [v,.int (n:Int)]/\Da K H (dL l) v/\gW l/\1<=n/\n<=6/\
 ((fD l (n-1)).length<=300->∀ v' H',fg H H'->Da K H' (dG (jG l (n-1) (fD l (n-1)))) v'->Q v' H')/\
 (300<(fD l (n-1)).length->∀ H',fg H H'->Q (.str "many") H')
abbrev jj:Stmt:=top 41
theorem iO:fM ["_law_line_here","_law_length","_law_found","_law_left","_law_some","_law_twins"] ["_law_line_here","_law_length"] (fi jj):=⟨rfl,rfl,rfl,by decide +kernel,rfl,by decide +kernel,by decide +kernel⟩
theorem oz:gG (fi jj) ["_law_line_here","_law_length","_law_found","_law_left","_law_some","_law_twins"] {kind:=.function,names:=[(Str.ofString ".0",.local),(Str.ofString "_law_train",.local),(Str.ofString "_law_some",.free)],isGenerator:=false,isCoroutine:=false,more:=[]} ["_law_train","_law_some"] 1 [none,some 4]:=⟨rfl,by decide +kernel,by decide +kernel,by decide +kernel,rfl,by decide +kernel,rfl,by decide +kernel⟩
theorem oy:gG (fi jj) ["_law_line_here","_law_length","_law_found","_law_left","_law_some","_law_twins"] {kind:=.function,names:=[(Str.ofString ".0",.local),(Str.ofString "_law_k",.local),(Str.ofString "_law_round",.globalImplicit),(Str.ofString "_law_found",.free),(Str.ofString "_law_some",.free)],isGenerator:=false,isCoroutine:=false,more:=[]} ["_law_k","_law_found","_law_some"] 1 [none,some 2,some 4]:=⟨rfl,by decide +kernel,by decide +kernel,by decide +kernel,rfl,by decide +kernel,rfl,by decide +kernel⟩
theorem ox:gG (fi jj) ["_law_line_here","_law_length","_law_found","_law_left","_law_some","_law_twins"] {kind:=.function,names:=[(Str.ofString ".0",.local),(Str.ofString "_law_k",.local),(Str.ofString "_law_found",.free),(Str.ofString "_law_twins",.free)],isGenerator:=false,isCoroutine:=false,more:=[]} ["_law_k","_law_found","_law_twins"] 1 [none,some 2,some 5]:=⟨rfl,by decide +kernel,by decide +kernel,by decide +kernel,rfl,by decide +kernel,rfl,by decide +kernel⟩
section
variable {P:Program}{w:World}{K:PySem.W.Frag}{mg:Str->Option Value}{base:Heap}{f:Addr}{fd:FuncData}
theorem vT {f1 f2 f3:Addr}{fd1 fd2 fd3:FuncData}(F:Fn K mg "_law_due" jj ["_law_line_here","_law_length"] f fd)(B:Bm mg)
  (jY:Fn K mg "_law_all" jT ["_law_line_here","_law_length"] f1 fd1) (o8:fG P w K mg base CX0 2 f1 fd1 ["_law_line_here","_law_length"] (yO K))
  (jX:Fn K mg "_law_web" mP ["_law_line_here","_law_train"] f2 fd2) (o5:fG P w K mg base CX0 3 f2 fd2 ["_law_line_here","_law_train"] (yL K))
  (i6:Fn K mg "_law_round" jA ["_law_train"] f3 fd3) (mG:fG P w K mg base CX0 2 f3 fd3 ["_law_train"] (nV K)):fG P w K mg base CX0 4 f fd ["_law_line_here","_law_length"] (yN K):=by
 refine F.F.ok iO (λvs H Q E h=>?_) (λcdv A outer s H vs Q E hr h=>?_)
 ·obtain⟨v,l,n,rfl,_⟩:=h;rfl
 ·obtain⟨v,l,n,rfl,hv,GL,n1,n6,kq,ke⟩:=h
  have ok:=GL.jF
  refine⟨_,(eY (fv (i:=2) iO.nd rfl (Or.inr rfl) (fS eX))
 (eY (fv (i:=3) iO.nd rfl (Or.inl rfl) (fo o8 (hr.mono (by decide)) rfl jY.m jY.F.kp jY.b .nil fK (eU (pv 0) (eU (pv 1) eX))))
 (eY (ie (gM (Ee (fx fR rfl B.len de (eU (pv 3) eX)) fb))
 (fh (fP iP)) gg)
 (eY (nZ bh (iu (qy hr.units) (pv 3) (fS eX) (kA _))
 (eY (fv (i:=4) iO.nd rfl (Or.inr rfl) (fx (nM hr.units) rfl B.sorted boot_sorted (eU (gz kD (fo o5 (hr.mono (by decide)) rfl jX.m jX.F.kp jX.b .nil fK (eU (pv 0) (eU (gz gh (pv 3) fb (λ_ _=>rfl)) eX))) fb (λ_ _=>rfl)) eX)))
 (eY (gv (iV aF aR aQ gk (pv 2) (eU (pv 4) eX)))
 (fh (qk (i:=3) iO.nd rfl rfl (fU (pv 3)) rfl oz (.name (by decide)) (λ_ _ _ _=>(ft (i:=0) oz.nd rfl (Or.inl rfl))) (λ_ _ _ _=>(j9 (iu (qw (K:=K) rfl hr.units) (pv 0) (pv 1) (by with_unfolding_all rfl)))) (λ_ _ _ _=>(pv 0)))))))
 (eY (fv (i:=5) iO.nd rfl (Or.inr rfl) (fS eX))
 (eY (gS bh rfl (fU (pv 2)) (ft (i:=4) iO.nd rfl (Or.inr rfl))
 (fh (gv (iV aF aR aQ gk (pv 5) (eU (gz gh (lR (jk rfl B.range (eU (fx fR rfl B.len de (eU (pv 2) eX)) eX)) rfl oy (.name (by decide)) (λ_ _ _ _=>(ft (i:=0) oy.nd rfl (Or.inl rfl))) (λ_ _ _ _=>(j9 (iu (AV (K:=K) rfl hr.units) (fo mG (hr.mono (by decide)) rfl i6.m i6.F.kp i6.b .nil fK (eU (gz (lY (K:=K) rfl) (pv 2) fb (λ_ _=>rfl)) eX)) (gz (lY (K:=K) rfl) (pv 1) (pv 0) (λ_ _=>rfl)) (by with_unfolding_all rfl)))) (λ_ _ _ _=>(pv 0))) fb (λ_ _=>rfl)) eX)))))
 (fh (fP (lR (jk rfl B.range (eU (fx fR rfl B.len de (eU (pv 2) eX)) eX)) rfl ox (.name (by decide)) (λ_ _ _ _=>(ft (i:=0) ox.nd rfl (Or.inl rfl))) (λ_ _ _ _=>iB) (λ_ _ _ _=>(gR (eU (gz (lY (K:=K) rfl) (pv 1) (pv 0) (λ_ _=>rfl)) (eU (gz (lY (K:=K) rfl) (pv 2) (pv 0) (λ_ _=>rfl)) eX))))))))))))),?_⟩
  refine⟨aM _,λfa nfa=>?_⟩
  have s1:=eV (o:=.lst []) nfa
  have hf1:=eW (H:=H) (a:=fa) (o:=.lst [])
  generalize upd H fa _=H1 at s1 hf1 ⊢
  refine⟨_,rfl,_,rfl,_,l,n,rfl,Da.same s1 hv,GL,n1,n6,λla las H2 s2 nla DU=>?_⟩
  have S2:=s1.trans s2
  refine⟨_,rfl,la,_,rfl,.inl (SqL.of DU.at_),_,_,rfl,rfl,_,rfl,iE (λc=>?_) (λc=>?_)⟩
  ·have c:(300:Int)<((las.map V.ref).length:Int):=by simpa using c
   rw[aa,DU.len]at c
   exact ke (by omega) H2 S2
  have c:¬(300:Int)<((las.map V.ref).length:Int):=by simpa using c
  rw[aa,DU.len]at c
  have h3:(fD l (n-1)).length<=300:=by omega
  have gl:=bF (qN l (n-1)) h3
  have tne:∀ t∈fD l (n-1),t≠ []:=λt ht=>(kd ok ht).2.2
  have laf:la≠fa:=(eZ hf1 nla).symm
  have hf2:=s2 _ _ hf1
  have gok:=wj l (n-1)
  have Dn:∀ u∈fD l (n-1),u∈(jG l (n-1) (fD l (n-1))).flatten:=λu hu=>zU ok hu
  generalize hgs:jG l (n-1) (fD l (n-1))=gs at *
  show oI _ _ _ _ _
  refine uh (λm σ G=>∃ (fas las:List Addr) (la:Addr) (F:List (List (List Int))) (ts:List (List Int)) (x4:Option V),σ = [some v,some (.int (n:Int)),some (.ref fa),some (.ref la),x4,none]/\fg H G/\G fa=some (.lst (fas.map V.ref))/\GdA (hid fa G) fas F/\DuA (hid fa G) la las ts/\F++jG l (n-1) ts=gs/\(∀ t∈ts,t∈fD l (n-1))/\ts.length<=300/\m=ts.length)
   ⟨[],las,la,[],fD l (n-1),none,rfl,S2,hf2,⟨rfl,λi g ts h=>by simp at h⟩,DU.hid (fs:=[]) laf hf2 tne,by rw[<-hgs];rfl,λt h=>h,h3,rfl⟩ ?_ ?_
  ·rintro m σ G N R Bq kN kR kB ⟨fas,las,la,F,ts,x4,rfl,S,hf,GA,DL,EQ,sub,t3,rfl⟩
   refine⟨_,rfl,aM _,λe ne=>?_⟩
   have u1:=eV (o:=.lst []) ne
   have he:=eW (H:=G) (a:=e) (o:=.lst [])
   have S:=S.trans u1
   have hf:=u1 _ _ hf
   have GA:=GA.same (iK u1)
   have DL:=DL.same (iK u1)
   generalize upd G e _=G1 at he S hf GA DL ⊢
   have DL1:=DL.same gF
   refine⟨dLI ts,.list [],DL1.da,h7.mpr ⟨e,[],rfl,SqL.of he,fV.mpr rfl⟩,tL _,AW,_,rfl,?_⟩
   cases ts with
   |nil=>
    have e0:(!PyData.eqv (dLI []) (.list []))=false:=by show(!PyData.eqv (dLI []) (dLI []))=false;rw[jf (tL _)];rfl
    rw[e0]
    refine iE (λz=>absurd z (by decide)) (λ_=>kB _ _ ?_)
    have EQ:F=gs:=by rw[<-EQ,vc,bO]
    subst EQ
    have GA:=GA.same gF
    have fal:fas.length=F.length:=GA.len
    refine⟨aM _,λwa nwa=>?_⟩
    have u2:=eV (o:=.lst []) nwa
    have hw2:=eW (H:=G1) (a:=wa) (o:=.lst [])
    generalize upd G1 wa _=G2 at u2 hw2 ⊢
    refine⟨_,rfl,fa,rfl,⟨_,SqL.of (u2 _ _ hf)⟩,gB (K:=K) (a:=fa) (xs:=fas.map V.ref) (λi σ G=>∃ (x4:Option V),σ = [some v,some (.int (n:Int)),some (.ref fa),some (.ref la),x4,some (.ref wa)]/\fg G1 G/\G wa=some (.lst ((F.take i).map λts=>V.int (twn F ts))))
     ⟨x4,rfl,u2,hw2⟩ (λi σ G _ ⟨_,_,s,_⟩=>SqL.of (s _ _ hf)) ?_ ?_⟩
    ·rintro i y σ G3 N R Bq kN _ hi ⟨x4,rfl,u3,hw3⟩
     rw[aj]at hi
     cases q1:fas[i]? with
     |none=>rw[q1]at hi;cases hi
     |some g=>
      rw[q1]at hi
      cases hi
      have il:i<F.length:=by rw[<-fal];exact(af.mp q1).1
      have hts:F[i]? = some F[i]:=ae il
      have tk:F.take (i+1)=F.take i ++ [F[i]]:=by rw[bD,hts];rfl
      generalize F[i]=ts at hts tk
      obtain⟨gas,DG⟩:=GA.each i g ts q1 hts
      obtain⟨u,r',e1,um,hh,_⟩:=wg ok gok (aA hts)
      have ul:=(kd ok um).2.1
      have hh0:gas[0]? = some (gas[0]'(by rw[DG.len,e1];simp)):=ae _
      have hu:=DG.each 0 _ u hh0 (by rw[e1];rfl)
      generalize gas[0]'(by rw[DG.len,e1];simp)=ua at hh0 hu
      have fm:(fas.map V.ref).length=F.length:=by rw[aa];exact fal
      refine⟨_,rfl,.inl ⟨rfl,_,SqL.of hw3⟩,_,rfl,fa,_,rfl,.inl (SqL.of (u3 _ _ hf)),_,rfl,by rw[fm];omega,by rw[fm];omega,λr nr=>xg F.length (List.range F.length) (λk=>decide (u.reverse.map oth∈F.getD k [])) (λk=>V.int (k:Int)) nr (by simp) (ko (by omega)) (λj Gx s hj=>by show j<(((fas.map V.ref).length:Nat):Int).toNat;rw[fm];omega) (λGx s=>by show(((fas.map V.ref).length:Nat):Int).toNat<=_;rw[fm];omega) ?_ ?_⟩
      ·rintro j x d Gx Gy sx ⟨rfl,rfl⟩ hd P1 P0 k1 k0
       have hj:j<F.length:=by have:=(af.mp hd).1;rwa [List.length_range]at this
       rw[List.getElem?_range hj]at hd
       cases hd
       have sG:=u3.trans sx
       have fj:fas[j]? = some (fas[j]'(by omega)):=ae _
       have tj:F[j]? = some F[j]:=ae hj
       have gj:F.getD j []=F[j]:=by rw[aP,tj];rfl
       obtain⟨jas,DJ⟩:=GA.each j _ _ fj tj
       refine⟨_,rfl,g,_,_,_,rfl,rfl,SqL.of (sG _ _ DG.at_),kf (v:=V.ref ua) (by decide) (by rw[aj];show(gas[0]?).map V.ref=_;rw[hh0];rfl),_,u,rfl,jo (sG _ _ hu),by omega,λpr Gz sz npr hpr=>?_⟩
       have sH:=sG.trans sz
       refine⟨_,rfl,_,rfl,fa,_,_,V.ref (fas[j]'(by omega)),rfl,rfl,SqL.of (sH _ _ hf),kf (by omega) (by rw[aj,show((0:Int)+(j:Nat)).toNat=j by omega,fj];rfl),_,dI (u.reverse.map oth),(DJ.same sH).da,jo hpr,w6 _,oj _,_,rfl,?_⟩
       rw[Ak]
       refine iE (λh=>?_) (λh=>?_)
       ·refine⟨_,rfl,?_⟩
        have e0:(0:Int)+(j:Nat)=(j:Int):=by omega
        rw[e0]
        exact k1 _ (by rw[gj];exact h) sz
       ·exact k0 _ (by rw[gj];simpa using h) sz
      ·intro G4 u4 hr4
       have ih:=zK (Dn _ (ur ok um))
       have tw:(qL F (u.reverse.map oth):Int)=twn F ts:=by unfold twn;rw[hh]
       refine⟨r,_,_,V.int (twn F ts),rfl,rfl,SqL.of hr4,kf (by decide) (by rw[aj];show(((List.range F.length).filter _)[0]?).map _=_;rw[ih,<-tw];rfl),?_⟩
       have tkl:=List.length_take_le i F
       refine⟨wa,_,_,rfl,rfl,u4 _ _ hw3,ko (by rw[aa];omega),?_⟩
       refine kN _ _ ⟨_,rfl,fg.upd (u3.trans u4) nwa,?_⟩
       rw[eW,tk,aw];rfl
    ·rintro σ G3 ⟨x4,rfl,u3,hw3⟩
     rw[aa,fal,bA]at hw3
     have fm:(fas.map V.ref).length=F.length:=by rw[aa];exact fal
     refine⟨_,rfl,fa,_,rfl,.inl (SqL.of (u3 _ _ hf)),_,rfl,by rw[fm];omega,by rw[fm];omega,λr nr=>A0 (K:=K) F.length F (dGe F) nr rfl (ko (by omega)) (λj Gx s hj=>by show j<(((fas.map V.ref).length:Nat):Int).toNat;rw[fm];omega) (λGx s=>by show(((fas.map V.ref).length:Nat):Int).toNat<=_;rw[fm];omega) ?_ ?_⟩
     ·rintro j x ts Gx Gy sx ⟨us',hus⟩ ⟨rfl,rfl⟩ hd P1 P0 k1
      have hj:j<F.length:=(af.mp hd).1
      have fj:fas[j]? = some (fas[j]'(by omega)):=ae _
      obtain⟨jas,DJ⟩:=GA.each j _ _ fj hd
      have sH:=u3.trans sx
      have e0:((0:Int)+(j:Nat)).toNat=j:=by omega
      refine iD ?_
      refine⟨_,rfl,_,rfl,fa,_,_,V.ref (fas[j]'(by omega)),rfl,rfl,SqL.of (sH _ _ hf),kf (by omega) (by rw[aj,e0,fj];rfl),_,rfl,_,rfl,wa,_,_,V.int (twn F ts),rfl,rfl,SqL.of (sx _ _ hw3),kf (by omega) (by rw[aj,e0,hd];rfl),by show 2<=sizeLine;decide,λtp ntp=>?_⟩
      have tr:tp≠r:=(eZ hus ntp).symm
      have s5:=eV (o:=.tup [.ref (fas[j]'(by omega)),.int (twn F ts)]) ntp
      refine k1 _ _ s5 (hG.mpr ⟨tp,_,rfl,.inl (.inl (by rw[gK tr];exact eW)),fN.mpr ⟨_,_,rfl,(DJ.same (zQ (sH.trans s5) (fg.free u3 nr))).da,fN.mpr ⟨_,_,rfl,iq.mpr rfl,fV.mpr rfl⟩⟩⟩)
     ·intro vs G4 u4 hr4 DS
      exact kq h3 _ G4 (S.trans (u3.trans u4)) (h7.mpr ⟨r,vs,rfl,SqL.of hr4,Das.same gF DS⟩)
   |cons t ts=>
    rw[Bf]
    refine iE (λ_=>?_) (λz=>absurd rfl z)
    have tm:=sub t aC
    obtain⟨T,tl,tn⟩:=kd ok tm
    have hl0:=DL1.len
    have la0:las[0]? = some (las[0]'(by rw[hl0];simp)):=ae _
    have hta:=DL1.each 0 _ t la0 rfl
    generalize las[0]'(by rw[hl0];simp)=ta at la0 hta
    refine⟨_,rfl,_,rfl,la,_,_,_,rfl,rfl,SqL.of DL1.at_,kf (v:=V.ref ta) (by decide) (by rw[aj];show(las[0]?).map V.ref=_;rw[la0];rfl),_,ta,l,t,rfl,Da.same S hv,hta,ok,tn,by omega,T,λwi wt wp wd was G2 hw u2 hwt OL _=>?_⟩
    refine⟨wt,_,_,_,rfl,rfl,.inl (.inl hwt),rfl,?_⟩
    have oe:∀ (i:Nat) a t',was[i]? = some a->((fy l t wi).map (·.1))[i]? = some t'->G2 a=some (.lst (t'.map V.int)):=λi a t' h1 h2=>by
     rw[aj]at h2
     cases q:(fy l t wi)[i]? with
     |none=>rw[q]at h2;cases h2
     |some e=>rw[q]at h2;cases h2;exact(OL.each i a e h1 q).2
    have ol:was.length=((fy l t wi).map (·.1)).length:=by rw[aa];exact OL.len
    refine⟨wp,_,_,rfl,SqL.of OL.at_,me ol oe,λg Z ng zp zs=>?_⟩
    obtain⟨gs',DG⟩:=wO ol oe ng zp
    rw[xm GL tm hw (pU (by rw[aa];exact ol) zp) zs]at DG
    have u3:=u2.trans (eV (o:=.lst (Z.map (·.1))) ng)
    have ng1:=fg.free u2 ng
    have S:=S.trans u3
    have gf:g≠fa:=(eZ hf ng1).symm
    have hf:=u3 _ _ hf
    have GA:=GA.same (iK u3)
    have DL:=DL.same (iK u3)
    generalize upd G2 g _=G3 at DG u3 S hf GA DL ⊢
    have DGh:=DG.hid gf hf λt' ht'=>tne t' (tV ht')
    have GA:=GA.push DGh
    have fl:=GA.len
    rw[ah,ah]at fl
    have fl:fas.length+1=F.length+1:=fl
    have Fl:F.length<=300:=by rw[<-EQ,ah]at gl;omega
    refine⟨_,rfl,.inl ⟨rfl,_,SqL.of hf⟩,_,rfl,fa,_,_,rfl,rfl,hf,ko (by rw[aa];omega),?_⟩
    have S:=fg.upd (o:=.lst (fas.map V.ref ++ [V.ref g])) S nfa
    have hf:=eW (H:=G3) (a:=fa) (o:=.lst (fas.map V.ref ++ [V.ref g]))
    rw[<-pR (p:=fa) (H:=G3) (o:=.lst (fas.map V.ref ++ [V.ref g]))]at GA DL DGh
    generalize upd G3 fa _=G4 at S hf GA DL DGh ⊢
    have DL4:=DL.same gF
    have DG4:=DGh.same gF
    have zl:(las.map V.ref).length=(las.zip (t::ts)).length:=by rw[aa,bI,hl0,Nat.min_self]
    refine⟨_,rfl,la,rfl,⟨_,SqL.of DL4.at_⟩,λlb nlb=>xg (las.map V.ref).length (las.zip (t::ts)) (λz=>decide (z.2∉grp l (n-1) t)) (λz=>V.ref z.1) nlb zl (ko (by rw[aa];omega)) (λj Gx s hj=>(mY (SqL.of (K:=K) DL4.at_)).go j Gx s hj) (λGx s=>(mY (SqL.of (K:=K) DL4.at_)).stop Gx s) ?_ ?_⟩
    ·intro j x d Gx Gy sx y hd P1 P0 k1 k0
     have hj:j<(las.map V.ref).length:=by rw[zl];exact(af.mp hd).1
     obtain⟨rfl,hx⟩:=(mY (SqL.of (K:=K) DL4.at_)).yld j Gx x Gy sx hj y
     have dz:=(eE (l₁:=las) (l₂:=t::ts) (i:=j) (z:=d)).mp hd
     obtain⟨d1,d2⟩:=dz
     rw[aj,d1]at hx
     cases hx
     have ha:=sx _ _ (DL4.each j _ _ d1 d2)
     refine⟨_,rfl,_,rfl,_,dI d.2,(DG4.same sx).da,jo ha,w6 _,oj _,_,rfl,?_⟩
     rw[Ak]
     refine iE (λh=>?_) (λh=>?_)
     ·exact⟨_,rfl,k1 _ (by simpa using h) (fg.refl _)⟩
     ·exact k0 _ (by simpa using h) (fg.refl _)
    ·intro G5 u5 hlb
     have lbf:lb≠fa:=(eZ hf nlb).symm
     have zf:=pV (λu=>decide (u∉grp l (n-1) t)) hl0
     have tf:(t::ts).filter (λu=>decide (u∉grp l (n-1) t))=ts.filter λu=>decide (u∉grp l (n-1) t):=by
      rw[bW,ax (by simpa using lZ ok tm)]
     rw[tf]at zf
     have DN:DuA (hid fa G5) lb (((las.zip (t::ts)).filter λz=>decide (z.2∉grp l (n-1) t)).map (·.1)) (ts.filter λu=>decide (u∉grp l (n-1) t)):=by
      refine⟨by rw[gK lbf,hlb,bP];rfl,by rw[<-zf,aa,aa],λi a u h1 h2=>?_⟩
      rw[<-zf]at h2
      rw[aj]at h1 h2
      cases q:((las.zip (t::ts)).filter λz=>decide (z.2∉grp l (n-1) t))[i]? with
      |none=>rw[q]at h1;cases h1
      |some z=>
       rw[q]at h1 h2
       cases h1
       cases h2
       obtain⟨j,hj,e⟩:=bt.mp (ba.mp (aA q)).1
       obtain⟨d1,d2⟩:=(eE (l₁:=las) (l₂:=t::ts) (i:=j) (z:=z)).mp (by rw[<-e];exact ae hj)
       exact iK u5 _ _ (DL.each j _ _ d1 d2)
     have fe:=bH (λu=>decide (u∉grp l (n-1) t)) ts
     refine kN (ts.filter λu=>decide (u∉grp l (n-1) t)).length _ _ (by show _<ts.length+1;omega) ⟨fas ++ [g],_,lb,F ++ [grp l (n-1) t],_,_,rfl,S.trans u5,by rw[aw];exact u5 _ _ hf,GA.same (iK u5),DN,?_,λu hu=>sub u (aE _ (ba.mp hu).1),by have:ts.length+1<=300:=t3;omega,rfl⟩
     rw[aN,<-EQ,sq];rfl
  ·rintro σ G Q1 Q2 hq ⟨x,e1,z,f⟩
   refine⟨x,e1,z,λe ne=>?_⟩
   obtain⟨d,e',h1,h2,h3,h4,b,h5,h6⟩:=f e ne
   exact⟨d,e',h1,h2,h3,h4,b,h5,hq _ _ h6⟩
end
def words:List Str:=["line","train","move","piece","many","text","row"]
def wL (cs:List Addr):Sp:=λvs H Q _=>∃ (e c:Addr) (j:Nat) (x:Str),vs = [.ref e]/\H e=some (wo e c)/\cs[j]? = some c/\words[j]? = some x/\∀ H',fg H H'->Q (.str x) H'
def wJ (K:PySem.W.Frag):Sp:=λvs H Q _=>∃ (v:V) (l:Ln) (n:Nat),vs = [v,.int (n:Int)]/\Da K H (dL l) v/\gW l/\1<=n/\n<=6/\
 ((fD l (n-1)).length<=300->∀ p ps H',fg H H'->H p=none->GtA H H' p ps (jG l (n-1) (fD l (n-1)))->Q (.ref p) H')/\
 (300<(fD l (n-1)).length->∀ H',fg H H'->Q (.str "many") H')
abbrev lr:Stmt:=top 39
theorem lO:fM ["_law_kept_here","_law_found"] ["_law_kept_here"] (fi lr):=⟨rfl,rfl,rfl,by decide +kernel,rfl,by decide +kernel,by decide +kernel⟩
abbrev lj:Stmt:=top 42
theorem iS:fM ["_law_line_here","_law_length","_law_kept_here","_law_found","e"] ["_law_line_here","_law_length"] (fi lj):=⟨rfl,rfl,rfl,by decide +kernel,rfl,by decide +kernel,by decide +kernel⟩
section
variable {P:Program}{w:World}{K:PySem.W.Frag}{mg:Str->Option Value}{base:Heap}{f:Addr}{fd:FuncData}{D c1 c2 c3 c4 c5 c6 c7:Addr}
theorem Dq (XS:Xs K mg D c1 c2 c3 c4 c5 c6 c7):∀ c∈ [c1,c2,c3,c4,c5,c6,c7],ExC K c:=λc hc=>by
 simp only[aO,dH,or_false]at hc
 rcases hc with rfl |rfl |rfl |rfl |rfl |rfl |rfl
 ·exact XS.Ao.e
 ·exact XS.xx.e
 ·exact XS.An.e
 ·exact XS.xy.e
 ·exact XS.kx.e
 ·exact XS.Am.e
 ·exact XS.BQ.e
theorem bits {cs:List Addr}(nd:cs.Nodup){c:Addr}{j:Nat}(hj:cs[j]? = some c):cs.map (λd=>decide (c=d))=(List.range cs.length).map λi=>decide (i=j):=by
 refine eL λi=>?_
 rw[aj,aj]
 by_cases hi:i<cs.length
 ·rw[List.getElem?_range hi,ae hi]
  obtain⟨hl,e⟩:=af.mp hj
  show some (decide (c=cs[i]))=some (decide (i=j))
  congr 1
  by_cases h:i=j
  ·subst h;simp[e]
  ·have:c≠cs[i]:=λz=>h ((cU nd).mp (z.symm.trans e.symm))
   simp[h,this]
 ·rw[bV (by omega),bV (by simpa using hi)];rfl
theorem bit_count:∀ j,j<7->((List.range 7).map λi=>decide (i=j)).count true=1:=by decide
theorem Dv:∀ j,j<7->((List.range 7).map λi=>decide (i=j))[j]? = some true:=by decide
theorem Du:∀ j,j<7->∀ m,m<j->((List.range 7).map λi=>decide (i=j))[m]? = some false:=by decide
theorem uS (F:Fn K mg "_law_kept" lr ["_law_kept_here"] f fd)(XS:Xs K mg D c1 c2 c3 c4 c5 c6 c7)(B:Bl mg):fG P w K mg base CX0 1 f fd ["_law_kept_here"] (wL [c1,c2,c3,c4,c5,c6,c7]):=by
 refine F.F.ok lO (λvs H Q E h=>?_) (λcdv A outer s H vs Q E hr h=>?_)
 ·obtain⟨e,c,j,x,rfl,_⟩:=h;rfl
 ·obtain⟨e,c,j,x,rfl,he,hc,hx,q⟩:=h
  have hm:c∈ [c1,c2,c3,c4,c5,c6,c7]:=aA hc
  have hj:j<7:=(af.mp hc).1
  have hE:=Dq XS c hm
  have k1:=XS.eq c hm
  have hb:=bits XS.nd hc
  refine⟨_,(eY (ie (vN (sY (fx gU rfl B.isinstance cf (eU (pv 0) (eU (pO (v:=.ty "ValueError") rfl XS.VE pH rfl) eX)))))
 (fh (fP iP)) gg)
 (eY (fv (i:=1) lO.nd rfl (Or.inl rfl) (fS (eU (fx gU rfl B.isinstance cf (eU (pv 0) (eU (jN (v:=.ref _) rfl XS.Ao.m rfl) eX))) (eU (fx gU rfl B.isinstance cf (eU (pv 0) (eU (jN (v:=.ref _) rfl XS.xx.m rfl) eX))) (eU (fx gU rfl B.isinstance cf (eU (pv 0) (eU (jN (v:=.ref _) rfl XS.An.m rfl) eX))) (eU (fx gU rfl B.isinstance cf (eU (pv 0) (eU (jN (v:=.ref _) rfl XS.xy.m rfl) eX))) eX))))))
 (eY (fv (i:=1) lO.nd rfl (Or.inl rfl) (fq kz (pv 1) (fS (eU (fx gU rfl B.isinstance cf (eU (pv 0) (eU (jN (v:=.ref _) rfl XS.kx.m rfl) eX))) (eU (fx gU rfl B.isinstance cf (eU (pv 0) (eU (jN (v:=.ref _) rfl XS.Am.m rfl) eX))) (eU (fx gU rfl B.isinstance cf (eU (pv 0) (eU (jN (v:=.ref _) rfl XS.BQ.m rfl) eX))) eX))))))
 (eY (ie (iu Eg (iV aF PySem.F.slot_list_count PySem.F.type_list_count zB (pv 1) (eU uL eX)) fb (kA _))
 (fh (fP iP)) gg)
 (fh (fP (gz gh (fS (eU iP (eU iP (eU iP (eU iP (eU iP (eU iP (eU iP eX)))))))) (iV aF PySem.F.slot_list_index PySem.F.type_list_index zA (pv 1) (eU uL eX)) (λ_ _=>rfl)))))))),?_⟩
  refine⟨_,rfl,e,c,_,_,true,rfl,he,hE,rfl,λ_ h=>h,XS.val c hm,_,rfl,?_⟩
  refine oQ ?_
  refine⟨_,rfl,e,c,_,_,_,rfl,he,hE,rfl,λ_ h=>h,k1 c1 (by simp),_,rfl,e,c,_,_,_,rfl,he,hE,rfl,λ_ h=>h,k1 c2 (by simp),_,rfl,e,c,_,_,_,rfl,he,hE,rfl,λ_ h=>h,k1 c3 (by simp),
   _,rfl,e,c,_,_,_,rfl,he,hE,rfl,λ_ h=>h,k1 c4 (by simp),by show 4<=sizeLine;decide,λp1 n1=>?_⟩
  have s1:=eV (o:=.lst [.bl (decide (c=c1)),.bl (decide (c=c2)),.bl (decide (c=c3)),.bl (decide (c=c4))]) n1
  refine⟨_,rfl,_,rfl,e,c,_,_,_,rfl,s1 _ _ he,hE,rfl,λ_ h=>h,k1 c5 (by simp),_,rfl,e,c,_,_,_,rfl,s1 _ _ he,hE,rfl,λ_ h=>h,k1 c6 (by simp),_,rfl,e,c,_,_,_,rfl,s1 _ _ he,hE,rfl,λ_ h=>h,k1 c7 (by simp),
   by show 3<=sizeLine;decide,λp2 n2=>?_⟩
  have s2:=eV (o:=.lst [.bl (decide (c=c5)),.bl (decide (c=c6)),.bl (decide (c=c7))]) n2
  refine⟨p1,p2,_,_,rfl,rfl,s2 _ _ eW,eW,by show 7<=sizeLine;decide,λp3 n3=>?_⟩
  have S12:=s1.trans s2
  generalize upd (upd H p1 _) p2 _=G at n3 S12 ⊢
  have s3:=eV (o:=.lst (([c1,c2,c3,c4,c5,c6,c7].map λd=>decide (c=d)).map V.bl)) n3
  have hp3:upd G p3 (.lst (([c1,c2,c3,c4,c5,c6,c7].map λd=>decide (c=d)).map V.bl)) p3=some (.lst (((List.range 7).map λi=>decide (i=j)).map V.bl)):=by
   rw[eW,hb];rfl
  have S:=S12.trans s3
  refine⟨_,rfl,.inl ⟨rfl,_,SqL.of hp3⟩,p3,_,true,rfl,rfl,hp3,rfl,_,rfl,iE (λz=>?_) (λ_=>?_)⟩
  ·have IC:=bit_count j hj
   exact absurd z (by
    show ¬((!decide (V.int (((((List.range 7).map λi=>decide (i=j)).count true:Nat)):Int)=V.int 1))=true)
    rw[IC];simp)
  refine⟨by show 7<=sizeLine;decide,λp4 n4=>?_⟩
  have s4:=eV (o:=.lst [.str "line",.str "train",.str "move",.str "piece",.str "many",.str "text",.str "row"]) n4
  refine⟨_,rfl,.inl ⟨rfl,_,SqL.of (s4 _ _ hp3)⟩,p3,_,true,j,rfl,rfl,s4 _ _ hp3,Dv j hj,Du j hj,?_⟩
  refine⟨p4,_,_,_,rfl,rfl,SqL.of eW,?_,q _ (S.trans s4)⟩
  have e:[V.str "line",.str "train",.str "move",.str "piece",.str "many",.str "text",.str "row"][j]? = some (V.str x):=by
   have e:[V.str "line",.str "train",.str "move",.str "piece",.str "many",.str "text",.str "row"]=words.map V.str:=rfl
   rw[e,aj,hx];rfl
  exact kr e
theorem uQ {f1 f2:Addr}{fd1 fd2:FuncData}(F:Fn K mg "_law_told" lj ["_law_line_here","_law_length"] f fd)(XS:Xs K mg D c1 c2 c3 c4 c5 c6 c7)(B:Bm mg)(kX:Fn K mg "groups" lQ ["line","length"] f1 fd1)(rk:fG P w K mg base (CXr P w base) 7 f1 fd1 ["line","length"] (rN K c5))
  (jv:Fn K mg "_law_kept" lr ["_law_kept_here"] f2 fd2):fG P w K mg base CX0 8 f fd ["_law_line_here","_law_length"] (wJ K):=by
 have wB:fG P w K mg base CX0 1 f2 fd2 ["_law_kept_here"] (wL [c1,c2,c3,c4,c5,c6,c7]):=uS jv XS B.toBl
 refine F.F.ok iS (λvs H Q E h=>?_) (λcdv A outer s H vs Q E hr h=>?_)
 ·obtain⟨v,l,n,rfl,_⟩:=h;rfl
 ·obtain⟨v,l,n,rfl,hv,ok,n1,n6,k1,k2⟩:=h
  refine⟨_,(eY (fv (i:=2) iS.nd rfl (Or.inl rfl) vO)
 (eY (fv (i:=3) iS.nd rfl (Or.inl rfl) vO)
 (eY (Ck (j:=4) rfl rfl rfl iS.nd rfl rfl rfl XS.yA.m (λpn W E hW=>(fh (fv (i:=3) iS.nd rfl (Or.inl rfl) (zc rk (hr.mono (by decide)) rfl kX.m kX.F.kp kX.b .nil hW (eU (pv 0) (eU (pv 1) eX)))))) (λe=>(fh (fv (i:=2) iS.nd rfl (Or.inl rfl) (pv 4)))))
 (eY (ie (gM (AS (pv 2)))
 (fh (fP (fo wB (hr.mono (by decide)) rfl jv.m jv.F.kp jv.b .nil fK (eU (pv 2) eX)))) gg)
 (fh (fP (pv 3))))))),?_⟩
  refine⟨_,rfl,_,rfl,_,l,n,rfl,hv,ok,n1,n6,λh3 p as H' s' np L=>?_,λh3 H' s' e he=>?_⟩
  ·exact⟨_,rfl,_,rfl,oQ ⟨_,rfl,k1 h3 p as H' s' np L⟩⟩
  ·refine⟨e,c5,rfl,rfl,XS.cat c5 (by simp),?_⟩
   refine⟨_,rfl,?_⟩
   refine⟨_,rfl,_,rfl,A2 ?_⟩
   exact⟨_,rfl,e,c5,4,_,rfl,eW,rfl,rfl,λH2 s2=>k2 h3 H2 (s'.trans ((eV he).trans s2))⟩
end
def sO (K:PySem.W.Frag):Sp:=λvs H Q _=>∃ (a:Addr) (ns:List Int),vs = [.ref a]/\SqL K H a (ns.map V.int)/\∀ H',Q (.bl true) H'
theorem yR:gW ([1,2,3,1,5].sum,uD (lS 0 [1,2,3,1,5])):=⟨by decide,by decide,by decide +kernel,by unfold okJ;decide +kernel,by decide +kernel⟩
theorem yQ:gW ([1,1,2,1,3,1,5].sum,uD (lS 0 [1,1,2,1,3,1,5])):=⟨by decide,by decide,by decide +kernel,by unfold okJ;decide +kernel,by decide +kernel⟩
theorem zj:gW (1,[]):=gl_none (by decide) (by decide)
theorem w5:(fD (1,[]) (1-1)).length<=300:=by decide +kernel
theorem qB {x:Str}(h:PyData.strOk x=true):OkD (.str x):=⟨h,by simp[PyData.depth]⟩
theorem B7 (gs:List (List (List Int))):PyData.eqv (dG gs) (.str "many")=false:=by simp[dG,PyData.eqv]
theorem GtA.mut {l:Ln}{k:Nat}(ok:fz l)(k5:k<=5){H0 G:Hp}{p:Addr}{ps:List Addr}(h:GtA H0 G p ps (jG l k (fD l k))):∃ gas uas:List Addr,gas.length=ps.length/\uas.length=ps.length/\gas.Nodup/\(∀ g∈gas,g≠p/\H0 g=none)/\(∀ u∈uas,H0 u=none)/\Aq G p ps gas uas 0:=by
 have gok:=wj l k
 have gnd:=Ba (l:=l) (k:=k) ok
 generalize jG l k (fD l k)=gs at *
 have hl:=h.len
 obtain⟨gas,g1,g2⟩:=mh (R:=λi g=>∀ a ts,ps[i]? = some a->gs[i]? = some ts->∃ as,g≠p/\G a=some (.tup [.ref g,.int (twn gs ts)])/\H0 g=none/\LsW H0 G g as ts) ps.length λi hi=>by
  have e1:ps[i]? = some ps[i]:=ae hi
  have e2:gs[i]? = some (gs[i]'(by omega)):=ae _
  obtain⟨g,as,b⟩:=h.each i _ _ e1 e2
  exact⟨g,λa ts h1 h2=>by rw[e1]at h1;rw[e2]at h2;cases h1;cases h2;exact⟨as,b⟩⟩
 have got:∀ (i:Nat) g,gas[i]? = some g->∃ a ts as u r,ps[i]? = some a/\gs[i]? = some ts/\g≠p/\G a=some (.tup [.ref g,.int (twn gs ts)])/\H0 g=none/\LsW H0 G g as ts/\ts=u::r/\u∈fD l k:=λi g hg=>by
  have hi:i<ps.length:=by rw[<-g1];exact(af.mp hg).1
  have e1:ps[i]? = some ps[i]:=ae hi
  have e2:gs[i]? = some (gs[i]'(by omega)):=ae _
  obtain⟨as,b1,b2,b3,b4⟩:=g2 i g hg _ _ e1 e2
  obtain⟨u,r,c1,c2,_⟩:=wg ok gok (aA e2)
  exact⟨_,_,as,u,r,e1,e2,b1,b2,b3,b4,c1,c2⟩
 obtain⟨uas,u1,u2⟩:=mh (R:=λi u=>∀ g,gas[i]? = some g->H0 u=none/\(∃ as:List Addr,G g=some (.lst ((u::as).map V.ref)))/\∃ ns:List Int,G u=some (.lst (ns.map V.int))/\ns≠ []/\ns.length<=10) ps.length λi hi=>by
  have e0:gas[i]? = some (gas[i]'(by omega)):=ae _
  obtain⟨a,ts,as,u,r,_,_,_,_,_,L,rfl,um⟩:=got i _ e0
  obtain⟨_,ul,un⟩:=kd ok um
  have ll:=L.len
  cases as with
  |nil=>simp at ll
  |cons ua as=>
   obtain⟨c1,_,c3⟩:=L.each 0 ua u rfl rfl
   exact⟨ua,λg hg=>by rw[e0]at hg;cases hg;exact⟨c1,⟨as,L.at_⟩,u,c3,un,by omega⟩⟩
 have gof:∀ u∈uas,∃ (i:Nat) (g:Addr),uas[i]? = some u/\gas[i]? = some g:=λu hu=>by
  obtain⟨i,hi,rfl⟩:=bt.mp hu
  exact⟨i,gas[i]'(by omega),ae hi,ae _⟩
 refine⟨gas,uas,g1,u1,?_,λg hg=>?_,λu hu=>?_,⟨h.at_,λi a g h1 h2=>?_,λi g u _ h1 h2=>?_,λu hu=>?_⟩⟩
 ·refine bR.mpr λi j hi hj hij e=>?_
  have e1:gas[i]? = some gas[i]:=ae hi
  obtain⟨_,ts,as,_,_,_,t1,_,_,_,L1,_⟩:=got i _ e1
  obtain⟨_,ts',as',_,_,_,t2,_,_,_,L2,_⟩:=got j gas[i] (by rw[e];exact ae hj)
  have ea:=L1.at_.symm.trans L2.at_
  have ea:as=as':=by
   have:as.map V.ref=as'.map V.ref:=by injection ea with ea;injection ea
   exact(List.map_inj_right (λx y h=>by injection h)).mp this
  subst ea
  have et:ts=ts':=eL λm=>by
   by_cases c:m<as.length
   ·have c1:as[m]? = some as[m]:=ae c
    have c2:ts[m]? = some (ts[m]'(by rw[<-L1.len];exact c)):=ae _
    have c3:ts'[m]? = some (ts'[m]'(by rw[<-L2.len];exact c)):=ae _
    have d1:=(L1.each m _ _ c1 c2).2.2
    rw[(L2.each m _ _ c1 c3).2.2]at d1
    rw[c2,c3]
    congr 1
    have:(ts'[m]'(by rw[<-L2.len];exact c)).map V.int=(ts[m]'(by rw[<-L1.len];exact c)).map V.int:=by injection d1 with d1;injection d1
    exact((List.map_inj_right (λx y h=>by injection h)).mp this).symm
   ·rw[bV (by rw[<-L1.len];omega),bV (by rw[<-L2.len];omega)]
  subst et
  obtain⟨l1,e3⟩:=af.mp t1
  obtain⟨l2,e4⟩:=af.mp t2
  have:=(cU gnd).mp (e3.trans e4.symm)
  omega
 ·obtain⟨i,hi,rfl⟩:=bt.mp hg
  obtain⟨_,_,_,_,_,_,_,b1,_,b2,_⟩:=got i _ (ae hi)
  exact⟨b1,b2⟩
 ·obtain⟨i,g,h1,h2⟩:=gof u hu
  exact(u2 i u h1 g h2).1
 ·obtain⟨a',ts,_,_,_,c1,_,_,c2,_⟩:=got i g h2
  rw[h1]at c1
  cases c1
  exact⟨_,c2⟩
 ·exact(u2 i u h2 g h1).2.1
 ·obtain⟨i,g,h1,h2⟩:=gof u hu
  exact(u2 i u h1 g h2).2.2
abbrev rP:Stmt:=top 43
theorem jD:fM ["_law_script","_law_line_here","_law_number","_law_rungs_here","_law_length","_law_handed","_law_due_here","_law_found","_law_lot","_law_twin"] ["_law_script"] (fi rP):=⟨rfl,rfl,rfl,by decide +kernel,rfl,by decide +kernel,by decide +kernel⟩
section
variable {P:Program}{w:World}{K:PySem.W.Frag}{mg:Str->Option Value}{base:Heap}{f:Addr}{fd:FuncData}
set_option maxHeartbeats 16000000 in
theorem Cy {f1 f2 f3 f4 f5 f6 f7:Addr}{fd1 fd2 fd3 fd4 fd5 fd6 fd7:FuncData}(F:Fn K mg "law" rP ["_law_script"] f fd)(B:Bm mg)
  (ju:Fn K mg "_law_line" lq ["_law_script"] f1 fd1) (nP:fG P w K mg base CX0 3 f1 fd1 ["_law_script"] (wK K))
  (fu:Fn K mg "_law_cell_at" iJ ["_law_script","_law_k"] f2 fd2) (fk:Fn K mg "_law_mix" jS ["_law_cell","_law_k"] f3 fd3)
  (iZ:Fn K mg "_law_rungs" km ["_law_rungs_here"] f4 fd4) (mF:fG P w K mg base CX0 1 f4 fd4 ["_law_rungs_here"] (uz K))
  (fZ:Fn K mg "_law_renamed" iI ["_law_line_here","_law_cell"] f5 fd5) (ik:fG P w K mg base CX0 2 f5 fd5 ["_law_line_here","_law_cell"] (nG K))
  (gc:Fn K mg "_law_told" lj ["_law_line_here","_law_length"] f6 fd6) (jq:fG P w K mg base CX0 8 f6 fd6 ["_law_line_here","_law_length"] (wJ K))
  (iH:Fn K mg "_law_due" jj ["_law_line_here","_law_length"] f7 fd7) (m9:fG P w K mg base CX0 4 f7 fd7 ["_law_line_here","_law_length"] (yN K)):
  fG P w K mg base CX0 9 f fd ["_law_script"] (sO K):=by
 have gP:fG P w K mg base CX0 1 f3 fd3 ["_law_cell","_law_k"] sN:=nH fk B.toBl
 have gX:fG P w K mg base CX0 1 f2 fd2 ["_law_script","_law_k"] (sQ K):=lU fu B.toBl
 refine F.F.ok jD (λvs H Q E h=>?_) (λcdv A outer s H vs Q E hr h=>?_)
 ·obtain⟨a,ns,rfl,_⟩:=h;rfl
 ·obtain⟨a,ns,rfl,hS,k⟩:=h
  refine⟨_,(@eY _ _ _ _ _ (@fv _ _ (1) _ _ _ _ jD.nd rfl (Or.inl rfl) (@fo _ _ _ _ _ _ _ _ _ _ _ _ _ _ _ _ nP (hr.mono (by decide)) rfl ju.m ju.F.kp ju.b .nil (@fK _) (@eU _ _ _ _ _ (@pv _ 0 _ _ (by rfl) (by first |exact Or.inl rfl |exact Or.inr (Or.inl rfl)|exact Or.inr (Or.inr rfl)) (by decide) (by decide)) (@eX _) (by rfl)) (by decide) (by rfl) (by rfl)) (by rfl) (by first |exact .inl rfl |exact .inr rfl |assumption)) (@eY _ _ _ _ _ (@fv _ _ (2) _ _ _ _ jD.nd rfl (Or.inl rfl) (@fo _ _ _ _ _ _ _ _ _ _ _ _ _ _ _ _ gP (hr.mono (by decide)) rfl fk.m fk.F.kp fk.b .nil (@fK _) (@eU _ _ _ _ _ (@fo _ _ _ _ _ _ _ _ _ _ _ _ _ _ _ _ gX (hr.mono (by decide)) rfl fu.m fu.F.kp fu.b .nil (@fK _) (@eU _ _ _ _ _ (@pv _ 0 _ _ (by rfl) (by first |exact Or.inl rfl |exact Or.inr (Or.inl rfl)|exact Or.inr (Or.inr rfl)) (by decide) (by decide)) (@eU _ _ _ _ _ (@fb _ _ _ _) (@eX _) (by rfl)) (by rfl)) (by decide) (by rfl) (by rfl)) (@eU _ _ _ _ _ (@fb _ _ _ _) (@eX _) (by rfl)) (by rfl)) (by decide) (by rfl) (by rfl)) (by rfl) (by first |exact .inl rfl |exact .inr rfl |assumption)) (@eY _ _ _ _ _ (@ie _ _ _ _ _ _ _ _ (gM (@qq _ _ _ _ _ (@fq _ _ _ _ _ _ _ _ (@gI _) (@pv _ 2 _ _ (by rfl) (by first |exact Or.inl rfl |exact Or.inr (Or.inl rfl)|exact Or.inr (Or.inr rfl)) (by decide) (by decide)) (@fb _ _ _ _)) (@fb _ _ _ _))) (@eY _ _ _ _ _ (@fv _ _ (3) _ _ _ _ jD.nd rfl (Or.inl rfl) (@gz _ _ _ _ _ _ _ (@gh _) (@fS _ _ _ _ (@eU _ _ _ _ _ (@fS _ _ _ _ (@eU _ _ _ _ _ (@fb _ _ _ _) (@eU _ _ _ _ _ (@fb _ _ _ _) (@eU _ _ _ _ _ (@fb _ _ _ _) (@eU _ _ _ _ _ (@fb _ _ _ _) (@eU _ _ _ _ _ (@fb _ _ _ _) (@eX _) (by rfl)) (by rfl)) (by rfl)) (by rfl)) (by rfl))) (@eU _ _ _ _ _ (@fS _ _ _ _ (@eU _ _ _ _ _ (@fb _ _ _ _) (@eU _ _ _ _ _ (@fb _ _ _ _) (@eU _ _ _ _ _ (@fb _ _ _ _) (@eU _ _ _ _ _ (@fb _ _ _ _) (@eU _ _ _ _ _ (@fb _ _ _ _) (@eU _ _ _ _ _ (@fb _ _ _ _) (@eU _ _ _ _ _ (@fb _ _ _ _) (@eX _) (by rfl)) (by rfl)) (by rfl)) (by rfl)) (by rfl)) (by rfl)) (by rfl))) (@eX _) (by rfl)) (by rfl))) (@fq _ _ _ _ _ _ _ _ (@gI _) (@pv _ 2 _ _ (by rfl) (by first |exact Or.inl rfl |exact Or.inr (Or.inl rfl)|exact Or.inr (Or.inr rfl)) (by decide) (by decide)) (@fb _ _ _ _)) (λ_ _=>rfl)) (by rfl) (by first |exact .inl rfl |exact .inr rfl |assumption)) (@fh _ _ _ (@fv _ _ (1) _ _ _ _ jD.nd rfl (Or.inl rfl) (@fo _ _ _ _ _ _ _ _ _ _ _ _ _ _ _ _ ik (hr.mono (by decide)) rfl fZ.m fZ.F.kp fZ.b .nil (@fK _) (@eU _ _ _ _ _ (@fo _ _ _ _ _ _ _ _ _ _ _ _ _ _ _ _ mF (hr.mono (by decide)) rfl iZ.m iZ.F.kp iZ.b .nil (@fK _) (@eU _ _ _ _ _ (@pv _ 3 _ _ (by rfl) (by first |exact Or.inl rfl |exact Or.inr (Or.inl rfl)|exact Or.inr (Or.inr rfl)) (by decide) (by decide)) (@eX _) (by rfl)) (by decide) (by rfl) (by rfl)) (@eU _ _ _ _ _ (@fo _ _ _ _ _ _ _ _ _ _ _ _ _ _ _ _ gX (hr.mono (by decide)) rfl fu.m fu.F.kp fu.b .nil (@fK _) (@eU _ _ _ _ _ (@pv _ 0 _ _ (by rfl) (by first |exact Or.inl rfl |exact Or.inr (Or.inl rfl)|exact Or.inr (Or.inr rfl)) (by decide) (by decide)) (@eU _ _ _ _ _ (@fb _ _ _ _) (@eX _) (by rfl)) (by rfl)) (by decide) (by rfl) (by rfl)) (@eX _) (by rfl)) (by rfl)) (by decide) (by rfl) (by rfl)) (by rfl) (by first |exact .inl rfl |exact .inr rfl |assumption)))) (@gg _)) (@eY _ _ _ _ _ (@fv _ _ (4) _ _ _ _ jD.nd rfl (Or.inl rfl) (@fq _ _ _ _ _ _ _ _ (@gJ _) (@fb _ _ _ _) (@fq _ _ _ _ _ _ _ _ (@gI _) (@fo _ _ _ _ _ _ _ _ _ _ _ _ _ _ _ _ gP (hr.mono (by decide)) rfl fk.m fk.F.kp fk.b .nil (@fK _) (@eU _ _ _ _ _ (@fo _ _ _ _ _ _ _ _ _ _ _ _ _ _ _ _ gX (hr.mono (by decide)) rfl fu.m fu.F.kp fu.b .nil (@fK _) (@eU _ _ _ _ _ (@pv _ 0 _ _ (by rfl) (by first |exact Or.inl rfl |exact Or.inr (Or.inl rfl)|exact Or.inr (Or.inr rfl)) (by decide) (by decide)) (@eU _ _ _ _ _ (@fb _ _ _ _) (@eX _) (by rfl)) (by rfl)) (by decide) (by rfl) (by rfl)) (@eU _ _ _ _ _ (@fb _ _ _ _) (@eX _) (by rfl)) (by rfl)) (by decide) (by rfl) (by rfl)) (@fb _ _ _ _))) (by rfl) (by first |exact .inl rfl |exact .inr rfl |assumption)) (@eY _ _ _ _ _ (@ie _ _ _ _ _ _ _ _ (gM (@qq _ _ _ _ _ (@fq _ _ _ _ _ _ _ _ (@gI _) (@pv _ 2 _ _ (by rfl) (by first |exact Or.inl rfl |exact Or.inr (Or.inl rfl)|exact Or.inr (Or.inr rfl)) (by decide) (by decide)) (@fb _ _ _ _)) (@fb _ _ _ _))) (@fh _ _ _ (@fv _ _ (4) _ _ _ _ jD.nd rfl (Or.inl rfl) (@fq _ _ _ _ _ _ _ _ (@gJ _) (@fb _ _ _ _) (@fq _ _ _ _ _ _ _ _ (@gI _) (@pv _ 2 _ _ (by rfl) (by first |exact Or.inl rfl |exact Or.inr (Or.inl rfl)|exact Or.inr (Or.inr rfl)) (by decide) (by decide)) (@fb _ _ _ _))) (by rfl) (by first |exact .inl rfl |exact .inr rfl |assumption))) (@gg _)) (@eY _ _ _ _ _ (@fv _ _ (5) _ _ _ _ jD.nd rfl (Or.inl rfl) (@gR _ _ _ _ _ (@eU _ _ _ _ _ (@gz _ _ _ _ _ _ _ (@kD _) (@pv _ 1 _ _ (by rfl) (by first |exact Or.inl rfl |exact Or.inr (Or.inl rfl)|exact Or.inr (Or.inr rfl)) (by decide) (by decide)) (@fb _ _ _ _) (λ_ _=>rfl)) (@eU _ _ _ _ _ (@gA _ _ _ _ _ _ _ _ _ (@lG _) rfl B.list boot_list (@eU _ _ _ _ _ (@gz _ _ _ _ _ _ _ (@kD _) (@pv _ 1 _ _ (by rfl) (by first |exact Or.inl rfl |exact Or.inr (Or.inl rfl)|exact Or.inr (Or.inr rfl)) (by decide) (by decide)) (@fb _ _ _ _) (λ_ _=>rfl)) (@eX _) (by rfl)) (by decide) (by decide) (by rfl) (by rfl)) (@eX _) (by rfl)) (by rfl))) (by rfl) (by first |exact .inl rfl |exact .inr rfl |assumption)) (@eY _ _ _ _ _ (@fv _ _ (6) _ _ _ _ jD.nd rfl (Or.inl rfl) (@fo _ _ _ _ _ _ _ _ _ _ _ _ _ _ _ _ m9 (hr.mono (by decide)) rfl iH.m iH.F.kp iH.b .nil (@fK _) (@eU _ _ _ _ _ (@pv _ 1 _ _ (by rfl) (by first |exact Or.inl rfl |exact Or.inr (Or.inl rfl)|exact Or.inr (Or.inr rfl)) (by decide) (by decide)) (@eU _ _ _ _ _ (@pv _ 4 _ _ (by rfl) (by first |exact Or.inl rfl |exact Or.inr (Or.inl rfl)|exact Or.inr (Or.inr rfl)) (by decide) (by decide)) (@eX _) (by rfl)) (by rfl)) (by decide) (by rfl) (by rfl)) (by rfl) (by first |exact .inl rfl |exact .inr rfl |assumption)) (@eY _ _ _ _ _ (@fv _ _ (7) _ _ _ _ jD.nd rfl (Or.inl rfl) (@fo _ _ _ _ _ _ _ _ _ _ _ _ _ _ _ _ jq (hr.mono (by decide)) rfl gc.m gc.F.kp gc.b .nil (@fK _) (@eU _ _ _ _ _ (@pv _ 5 _ _ (by rfl) (by first |exact Or.inl rfl |exact Or.inr (Or.inl rfl)|exact Or.inr (Or.inr rfl)) (by decide) (by decide)) (@eU _ _ _ _ _ (@pv _ 4 _ _ (by rfl) (by first |exact Or.inl rfl |exact Or.inr (Or.inl rfl)|exact Or.inr (Or.inr rfl)) (by decide) (by decide)) (@eX _) (by rfl)) (by rfl)) (by decide) (by rfl) (by rfl)) (by rfl) (by first |exact .inl rfl |exact .inr rfl |assumption)) (@eY _ _ _ _ _ (@gv _ _ _ _ (@fo _ _ _ _ _ _ _ _ _ _ _ _ _ _ _ _ jq (hr.mono (by decide)) rfl gc.m gc.F.kp gc.b .nil (@fK _) (@eU _ _ _ _ _ (@gR _ _ _ _ _ (@eU _ _ _ _ _ (@fb _ _ _ _) (@eU _ _ _ _ _ (@fS _ _ _ _ (@eX _)) (@eX _) (by rfl)) (by rfl))) (@eU _ _ _ _ _ (@fb _ _ _ _) (@eX _) (by rfl)) (by rfl)) (by decide) (by rfl) (by rfl)) (by rfl)) (@eY _ _ _ _ _ (@ie _ _ _ _ _ _ _ _ (PW.pt (@wU _ _ _ _ _ _ _ (@iu _ _ _ _ _ _ _ _ (@tE _ hr.units) (@pv _ 6 _ _ (by rfl) (by first |exact Or.inl rfl |exact Or.inr (Or.inl rfl)|exact Or.inr (Or.inr rfl)) (by decide) (by decide)) (@iP _ _ _ _) (@kA _ _ (by decide) (by decide))) (@sX _ _ _ _ (@vN _ _ _ _ (@sY _ _ _ (@fx _ _ _ _ _ _ _ _ _ (@t8 _) rfl B.isinstance cf (@eU _ _ _ _ _ (@pv _ 7 _ _ (by rfl) (by first |exact Or.inl rfl |exact Or.inr (Or.inl rfl)|exact Or.inr (Or.inr rfl)) (by decide) (by decide)) (@eU _ _ _ _ _ (@pO _ _ (.ty "list") _ _ rfl B.list boot_list rfl (by decide) (by decide)) (@eX _) (by rfl)) (by rfl)) (by decide) (by decide) (by rfl) (by rfl)) (by intros;rfl)))))) (@fh _ _ _ (@fP _ _ _ _ (@Cs _ _ _ _ _ _ _ (@tq _ _ _ _ _ _ _ _ (@tE _ hr.units) (@pv _ 7 _ _ (by rfl) (by first |exact Or.inl rfl |exact Or.inr (Or.inl rfl)|exact Or.inr (Or.inr rfl)) (by decide) (by decide)) (@pv _ 6 _ _ (by rfl) (by first |exact Or.inl rfl |exact Or.inr (Or.inl rfl)|exact Or.inr (Or.inr rfl)) (by decide) (by decide)) (@kA _ _ (by decide) (by decide))) (@Cq _ _ _ _ _ (@tq _ _ _ _ _ _ _ _ (@tE _ hr.units) (@pv _ 5 _ _ (by rfl) (by first |exact Or.inl rfl |exact Or.inr (Or.inl rfl)|exact Or.inr (Or.inr rfl)) (by decide) (by decide)) (@pv _ 1 _ _ (by rfl) (by first |exact Or.inl rfl |exact Or.inr (Or.inl rfl)|exact Or.inr (Or.inr rfl)) (by decide) (by decide)) (@kA _ _ (by decide) (by decide))))))) (@gg _)) (@eY _ _ _ _ _ (@ie _ _ _ _ _ _ _ _ (PW.pt (@wU _ _ _ _ _ _ _ (@iu _ _ _ _ _ _ _ _ (@qy _ hr.units) (@pv _ 7 _ _ (by rfl) (by first |exact Or.inl rfl |exact Or.inr (Or.inl rfl)|exact Or.inr (Or.inr rfl)) (by decide) (by decide)) (@pv _ 6 _ _ (by rfl) (by first |exact Or.inl rfl |exact Or.inr (Or.inl rfl)|exact Or.inr (Or.inr rfl)) (by decide) (by decide)) (@kA _ _ (by decide) (by decide))) (@sX _ _ _ _ (@iu _ _ _ _ _ _ _ _ (@qy _ hr.units) (@pv _ 5 _ _ (by rfl) (by first |exact Or.inl rfl |exact Or.inr (Or.inl rfl)|exact Or.inr (Or.inr rfl)) (by decide) (by decide)) (@pv _ 1 _ _ (by rfl) (by first |exact Or.inl rfl |exact Or.inr (Or.inl rfl)|exact Or.inr (Or.inr rfl)) (by decide) (by decide)) (@kA _ _ (by decide) (by decide)))))) (@fh _ _ _ (@fP _ _ _ _ (@uL _ _ _ _))) (@gg _)) (@eY _ _ _ _ _ (@gS _ _ _ _ _ _ _ _ bh rfl (@fU _ _ _ _ (@pv _ 7 _ _ (by rfl) (by first |exact Or.inl rfl |exact Or.inr (Or.inl rfl)|exact Or.inr (Or.inr rfl)) (by decide) (by decide))) (@jE _ _ _ _ _ (2) rfl (@fQ _ _ _ _ _ (@ft _ _ (8) _ jD.nd rfl (Or.inl rfl) (by first |exact .inl rfl |exact .inr rfl |assumption)) (@fQ _ _ _ _ _ (@ft _ _ (9) _ jD.nd rfl (Or.inl rfl) (by first |exact .inl rfl |exact .inr rfl |assumption)) (@iL _) (by rfl)) (by rfl)) (by rfl) (by rfl)) (@eY _ _ _ _ _ (@ie _ _ _ _ _ _ _ _ (PW.pt (@wU _ _ _ _ _ _ _ (@vN _ _ _ _ (@sY _ _ _ (@fx _ _ _ _ _ _ _ _ _ (@pC _) rfl B.isinstance cf (@eU _ _ _ _ _ (@pv _ 9 _ _ (by rfl) (by first |exact Or.inl rfl |exact Or.inr (Or.inl rfl)|exact Or.inr (Or.inr rfl)) (by decide) (by decide)) (@eU _ _ _ _ _ (@pO _ _ (.ty "int") _ _ rfl B.int boot_int rfl (by decide) (by decide)) (@eX _) (by rfl)) (by rfl)) (by decide) (by decide) (by rfl) (by rfl)) (by intros;rfl))) (@sX _ _ _ _ (@sY _ _ _ (@fx _ _ _ _ _ _ _ _ _ (@pC _) rfl B.isinstance cf (@eU _ _ _ _ _ (@pv _ 9 _ _ (by rfl) (by first |exact Or.inl rfl |exact Or.inr (Or.inl rfl)|exact Or.inr (Or.inr rfl)) (by decide) (by decide)) (@eU _ _ _ _ _ (@pO _ _ (.ty "bool") _ _ rfl B.bool boot_bool rfl (by decide) (by decide)) (@eX _) (by rfl)) (by rfl)) (by decide) (by decide) (by rfl) (by rfl)) (by intros;rfl))))) (@fh _ _ _ (@fP _ _ _ _ (@uL _ _ _ _))) (@gg _)) (@eY _ _ _ _ _ (@gv _ _ _ _ (@iV _ _ _ _ _ _ _ _ _ _ _ _ aF aR aQ (@gk _) (@gz _ _ _ _ _ _ _ (@gh _) (@pv _ 8 _ _ (by rfl) (by first |exact Or.inl rfl |exact Or.inr (Or.inl rfl)|exact Or.inr (Or.inr rfl)) (by decide) (by decide)) (@fb _ _ _ _) (λ_ _=>rfl)) (@eU _ _ _ _ _ (@fb _ _ _ _) (@eX _) (by rfl)) (by rfl) (by rfl) (by rfl) (by rfl) (by rfl)) (by rfl)) (@fh _ _ _ (@gv _ _ _ _ (@tu _ _ _ _ _ _ _ _ _ aF eR eQ (@qD _) (@pv _ 8 _ _ (by rfl) (by first |exact Or.inl rfl |exact Or.inr (Or.inl rfl)|exact Or.inr (Or.inr rfl)) (by decide) (by decide)) (by rfl) (by rfl)) (by rfl))))) (by intros;rfl)) (@eY _ _ _ _ _ (@gv _ _ _ _ (@tu _ _ _ _ _ _ _ _ _ aF eR eQ (@qD _) (@pv _ 7 _ _ (by rfl) (by first |exact Or.inl rfl |exact Or.inr (Or.inl rfl)|exact Or.inr (Or.inr rfl)) (by decide) (by decide)) (by rfl) (by rfl)) (by rfl)) (@eY _ _ _ _ _ (@ie _ _ _ _ _ _ _ _ (PW.pt (@wU _ _ _ _ _ _ _ (@iu _ _ _ _ _ _ _ _ (@qy _ hr.units) (@fo _ _ _ _ _ _ _ _ _ _ _ _ _ _ _ _ jq (hr.mono (by decide)) rfl gc.m gc.F.kp gc.b .nil (@fK _) (@eU _ _ _ _ _ (@pv _ 5 _ _ (by rfl) (by first |exact Or.inl rfl |exact Or.inr (Or.inl rfl)|exact Or.inr (Or.inr rfl)) (by decide) (by decide)) (@eU _ _ _ _ _ (@pv _ 4 _ _ (by rfl) (by first |exact Or.inl rfl |exact Or.inr (Or.inl rfl)|exact Or.inr (Or.inr rfl)) (by decide) (by decide)) (@eX _) (by rfl)) (by rfl)) (by decide) (by rfl) (by rfl)) (@pv _ 6 _ _ (by rfl) (by first |exact Or.inl rfl |exact Or.inr (Or.inl rfl)|exact Or.inr (Or.inr rfl)) (by decide) (by decide)) (@kA _ _ (by decide) (by decide))) (@sX _ _ _ _ (@iu _ _ _ _ _ _ _ _ (@qy _ hr.units) (@pv _ 5 _ _ (by rfl) (by first |exact Or.inl rfl |exact Or.inr (Or.inl rfl)|exact Or.inr (Or.inr rfl)) (by decide) (by decide)) (@pv _ 1 _ _ (by rfl) (by first |exact Or.inl rfl |exact Or.inr (Or.inl rfl)|exact Or.inr (Or.inr rfl)) (by decide) (by decide)) (@kA _ _ (by decide) (by decide)))))) (@fh _ _ _ (@fP _ _ _ _ (@uL _ _ _ _))) (@gg _)) (@eY _ _ _ _ _ (@gv _ _ _ _ (@tu _ _ _ _ _ _ _ _ _ aF eR eQ (@qD _) (@gz _ _ _ _ _ _ _ (@kD _) (@pv _ 5 _ _ (by rfl) (by first |exact Or.inl rfl |exact Or.inr (Or.inl rfl)|exact Or.inr (Or.inr rfl)) (by decide) (by decide)) (@fb _ _ _ _) (λ_ _=>rfl)) (by rfl) (by rfl)) (by rfl)) (@fh _ _ _ (@fP _ _ _ _ (@tq _ _ _ _ _ _ _ _ (@tE _ hr.units) (@fo _ _ _ _ _ _ _ _ _ _ _ _ _ _ _ _ jq (hr.mono (by decide)) rfl gc.m gc.F.kp gc.b .nil (@fK _) (@eU _ _ _ _ _ (@pv _ 5 _ _ (by rfl) (by first |exact Or.inl rfl |exact Or.inr (Or.inl rfl)|exact Or.inr (Or.inr rfl)) (by decide) (by decide)) (@eU _ _ _ _ _ (@pv _ 4 _ _ (by rfl) (by first |exact Or.inl rfl |exact Or.inr (Or.inl rfl)|exact Or.inr (Or.inr rfl)) (by decide) (by decide)) (@eX _) (by rfl)) (by rfl)) (by decide) (by rfl) (by rfl)) (@fo _ _ _ _ _ _ _ _ _ _ _ _ _ _ _ _ m9 (hr.mono (by decide)) rfl iH.m iH.F.kp iH.b .nil (@fK _) (@eU _ _ _ _ _ (@gR _ _ _ _ _ (@eU _ _ _ _ _ (@gz _ _ _ _ _ _ _ (@kD _) (@pv _ 1 _ _ (by rfl) (by first |exact Or.inl rfl |exact Or.inr (Or.inl rfl)|exact Or.inr (Or.inr rfl)) (by decide) (by decide)) (@fb _ _ _ _) (λ_ _=>rfl)) (@eU _ _ _ _ _ (@fS _ _ _ _ (@eX _)) (@eX _) (by rfl)) (by rfl))) (@eU _ _ _ _ _ (@pv _ 4 _ _ (by rfl) (by first |exact Or.inl rfl |exact Or.inr (Or.inl rfl)|exact Or.inr (Or.inr rfl)) (by decide) (by decide)) (@eX _) (by rfl)) (by rfl)) (by decide) (by rfl) (by rfl)) (@kA _ _ (by decide) (by decide)))))))))))))))))))),?_⟩
  refine⟨_,rfl,a,ns,rfl,hS,λv l H1 s1 hv GL=>?_⟩
  refine⟨_,rfl,a,ns,20,rfl,s1.seq hS,by decide,λc20=>⟨c20,0,rfl,by decide,by decide,λn0 h00 h01=>?_⟩⟩
  dsimp only[kL]
  refine cut (λσ G=>∃ (v:V) (l:Ln) (x3:Option V),σ = [some (.ref a),some v,some (.int n0),x3,none,none,none,none,none,none]/\fg H G/\Da K G (dL l) v/\gW l) (λN R B2 C2 kN _=>?_) ?_
  ·refine⟨_,rfl,_,_,rfl,rfl,(by show(0:Int)<16;decide),_,_,rfl,rfl,_,rfl,iE (λc=>?_) (λ_=>kN _ _ ⟨v,l,none,rfl,s1,hv,GL⟩)⟩
   have c:n0%16<2:=by simpa using c
   refine⟨by show 5<=sizeLine;decide,λr1 nr1=>⟨by show 7<=sizeLine;decide,λr2 nr2=>⟨by show 2<=sizeLine;decide,λr3 nr3=>?_⟩⟩⟩
   have u1:=eV (o:=.lst [V.int 1,V.int 2,V.int 3,V.int 1,V.int 5]) nr1
   have u2:=eV (o:=.lst [V.int 1,V.int 1,V.int 2,V.int 1,V.int 3,V.int 1,V.int 5]) nr2
   have u3:=eV (o:=.lst [V.ref r1,V.ref r2]) nr3
   have g3:=eW (H:=upd (upd H1 r1 (.lst [V.int 1,V.int 2,V.int 3,V.int 1,V.int 5])) r2 (.lst [V.int 1,V.int 1,V.int 2,V.int 1,V.int 3,V.int 1,V.int 5])) (a:=r3) (o:=.lst [V.ref r1,V.ref r2])
   have g2:=u3 _ _ (eW (H:=upd H1 r1 (.lst [V.int 1,V.int 2,V.int 3,V.int 1,V.int 5])) (a:=r2) (o:=.lst [V.int 1,V.int 1,V.int 2,V.int 1,V.int 3,V.int 1,V.int 5]))
   have g1:=(u2.trans u3) _ _ (eW (H:=H1) (a:=r1) (o:=.lst [V.int 1,V.int 2,V.int 3,V.int 1,V.int 5]))
   have U:=s1.trans (u1.trans (u2.trans u3))
   generalize upd (upd (upd H1 r1 _) r2 _) r3 _=H2 at U g1 g2 g3 ⊢
   obtain⟨r,ws,hr',hw,wne,w9,wb,GW⟩:∃ (r:Addr) (ws:List Int),atI [V.ref r1,V.ref r2] (n0%16)=some (V.ref r)/\H2 r=some (.lst (ws.map V.int))/\ws≠ []/\ws.length<=9/\(∀ w∈ws,0<=w/\w<=9)/\gW (ws.sum,uD (lS 0 ws)):=by
    have c2:n0%16=0\/n0%16=1:=by omega
    rcases c2 with e |e
    ·rw[e];exact⟨r1,[1,2,3,1,5],kr (j:=0) rfl,g1,by decide,by decide,by decide,yR⟩
    ·rw[e];exact⟨r2,[1,1,2,1,3,1,5],kr (j:=1) rfl,g2,by decide,by decide,by decide,yQ⟩
   refine⟨_,rfl,_,_,rfl,rfl,(by show(0:Int)<16;decide),r3,_,_,V.ref r,rfl,rfl,SqL.of g3,hr',?_⟩
   refine⟨_,rfl,r,ws,rfl,SqL.of hw,wne,w9,wb,λv1 H3 s3 d3=>?_⟩
   refine⟨_,rfl,a,ns,1,rfl,(U.trans s3).seq hS,by decide,λc1=>?_⟩
   refine⟨v1,(ws.sum,uD (lS 0 ws)),c1,rfl,d3,GW,λv' js' nm es H4 s4 d4 R4 pm=>?_⟩
   exact kN _ _ ⟨v',(ws.sum,js'),_,rfl,U.trans (s3.trans s4),d4,R4.line GW pm⟩
  clear hv GL s1
  rintro σ H1 ⟨v,l,x3,rfl,s1,hv,GL⟩
  have ok:=GL.jF
  have o1:1<=l.1:=ok.one
  have o14:l.1<=14:=GL.most
  obtain⟨al,bl,rfl,hlt,us,hll,hlq⟩:=mZ hv
  refine⟨_,rfl,a,ns,10,rfl,s1.seq hS,by decide,λc10=>⟨c10,0,rfl,by decide,by decide,λm1 h10 h11=>?_⟩⟩
  refine⟨_,_,rfl,rfl,(by show(0:Int)<6;decide),_,_,rfl,rfl,?_⟩
  dsimp only[kL]
  refine cut (λσ G=>∃ n:Nat,σ = [some (.ref a),some (.ref al),some (.int n0),x3,some (.int (n:Int)),none,none,none,none,none]/\H1=G/\1<=n/\n<=6) (λN R B2 C2 kN _=>?_) ?_
  ·refine⟨_,rfl,_,_,rfl,rfl,(by show(0:Int)<16;decide),_,_,rfl,rfl,_,rfl,iE (λc=>?_) (λ_=>?_)⟩
   ·have c:n0%16<2:=by simpa using c
    have e:(((5+n0%16).toNat:Nat):Int)=5+n0%16:=by omega
    exact⟨_,rfl,_,_,rfl,rfl,(by show(0:Int)<16;decide),_,_,rfl,rfl,kN _ _ ⟨(5+n0%16).toNat,by rw[e];rfl,rfl,by omega,by omega⟩⟩
   ·have e:(((1+m1%6).toNat:Nat):Int)=1+m1%6:=by omega
    exact kN _ _ ⟨(1+m1%6).toNat,by rw[e];rfl,rfl,by omega,by omega⟩
  rintro σ _ ⟨n,rfl,rfl,n1,n6⟩
  refine⟨_,rfl,al,_,_,_,rfl,rfl,hlt,rfl,_,rfl,al,_,_,_,rfl,rfl,hlt,rfl,bl,us,rfl,.inl hll,λq1 nq1=>⟨by show 2<=sizeLine;decide,λq2 nq2=>?_⟩⟩
  have u1:=eV (o:=.lst us) nq1
  have u2:=eV (o:=.tup [.int l.1,.ref q1]) nq2
  have s2:=u1.trans u2
  have hq1:=u2 _ _ (eW (H:=H1) (a:=q1) (o:=.lst us))
  have hq2:=eW (H:=upd H1 q1 (.lst us)) (a:=q2) (o:=.tup [.int l.1,.ref q1])
  have q21:q2≠q1:=(eZ eW nq2).symm
  have dk:Da K (upd (upd H1 q1 (.lst us)) q2 (.tup [.int l.1,.ref q1])) (dL l) (.ref q2):=iW eW (h7.mpr ⟨q1,us,rfl,SqL.of (u2 _ _ eW),Das.same s2 hlq⟩)
  generalize upd (upd H1 q1 (.lst us)) q2 _=H2 at s2 dk hq1 hq2 ⊢
  clear u1 u2
  have dl2:=Da.same s2 hv
  have Iv:=fX s2 hlt
  clear hv hlt hll hlq s2 s1
  have os:PyData.strOk (Str.ofString "many")=true:=by decide +kernel
  have many:(n-1)<=5:=by omega
  refine⟨_,rfl,_,rfl,_,l,n,rfl,dl2,GL,n1,n6,λh3 vd H3 s3 dd=>?_,λh3 H3 s3=>?_⟩
  ·refine⟨_,rfl,_,rfl,_,l,n,rfl,Da.same s3 dk,GL,n1,n6,λ_ fp ps H4 s4 nfp GT=>?_,λz=>absurd z (by omega)⟩
   refine⟨aM _,λe1 ne1=>⟨by show 2<=sizeLine;decide,λe2 ne2=>?_⟩⟩
   have t1:=(eV (o:=.lst []) ne1).trans (eV (o:=.tup [.int 1,.ref e1]) ne2)
   have t2:Da K (upd (upd H4 e1 (.lst [])) e2 (.tup [.int 1,.ref e1])) (dL (1,[])) (.ref e2):=iW (l:=(1,[])) eW (h7.mpr ⟨e1,[],rfl,SqL.of ((eV (o:=.tup [.int 1,.ref e1]) ne2) _ _ eW),fV.mpr rfl⟩)
   refine⟨_,(1,[]),1,rfl,t2,zj,by decide,by decide,λ_ p0 ps0 H5 s5 _ _=>?_,λz=>absurd z (by have:=w5;omega)⟩
   have GT:=GT.same (t1.trans s5)
   have S5:=s4.trans (t1.trans s5)
   clear t1 t2 s5 s4
   refine⟨_,rfl,dG _,.str "many",Da.same S5 dd,nL.mpr rfl,nu _,qB os,_,rfl,?_⟩
   rw[B7]
   refine oQ ?_
   refine⟨_,rfl,fp,_,_,true,rfl,SqL.of GT.at_,uW,_,rfl,oQ ?_⟩
   refine⟨_,rfl,_,rfl,dG _,dG _,GT.da,Da.same S5 dd,nu _,nu _,_,rfl,?_⟩
   rw[jf (nu _)]
   refine oQ ?_
   refine⟨_,rfl,_,rfl,dL l,dL l,Da.same (s3.trans S5) dk,Da.same (s3.trans S5) dl2,om _,om _,_,rfl,?_⟩
   rw[jf (om _)]
   refine oQ ?_
   obtain⟨gas,uas,gl,ul,gnd,gp,up,M⟩:=GT.mut ok many
   have pl:ps.length<=300:=by rw[GT.len];exact bF (qN _ _) h3
   refine⟨_,rfl,fp,rfl,⟨_,SqL.of GT.at_⟩,gB (K:=K) (a:=fp) (xs:=ps.map V.ref) (λj σ G=>∃ x8 x9:Option V,σ = [some (.ref a),some (.ref al),some (.int n0),x3,some (.int (n:Int)),some (.ref q2),some vd,some (.ref fp),x8,x9]/\fg H3 G/\Aq G fp ps gas uas j)
    ⟨none,none,rfl,S5,M⟩ (λj σ G _ ⟨_,_,_,_,M⟩=>SqL.of M.at_) ?_ ?_⟩
   ·rintro j y σ G N R B2 kN kR hj ⟨x8,x9,rfl,S,M⟩
    rw[aj]at hj
    cases w1:ps[j]? with
    |none=>rw[w1]at hj;cases hj
    |some a'=>
     rw[w1]at hj
     cases hj
     have jl:j<ps.length:=(af.mp w1).1
     have w2:gas[j]? = some (gas[j]'(by omega)):=ae _
     have w3:uas[j]? = some (uas[j]'(by omega)):=ae _
     generalize gas[j]'(by omega)=g at w2
     generalize uas[j]'(by omega)=u at w3
     obtain⟨t,ht⟩:=M.tup j a' g w1 w2
     obtain⟨as',hg⟩:=M.grp j g u (aq _) w2 w3
     have um:=aA w3
     obtain⟨ms,hu,une,mul⟩:=M.std u um
     have gu:g≠u:=λz=>by rw[z,hu]at hg;exact jV une (aZ hg)
     have gm:=gp g (aA w2)
     refine⟨a',_,rfl,.inl (.inl ht),rfl,_,_,rfl,_,_,rfl,rfl,?_⟩
     refine⟨_,rfl,_,_,_,true,rfl,.int _,uW,_,rfl,oQ ?_⟩
     refine⟨_,rfl,_,_,_,false,rfl,.int _,tR,_,rfl,oQ ?_⟩
     refine⟨_,rfl,g,_,_,_,rfl,rfl,SqL.of hg,kf (v:=V.ref u) (by decide) rfl,.inl ⟨rfl,_,SqL.of hu⟩,u,_,_,rfl,rfl,hu,jw (by rw[aa];omega),?_⟩
     have hg':upd G u (.lst (ms.map V.int ++ [V.int 0])) g=some (.lst ((u::as').map V.ref)):=by rw[fc gu];exact hg
     refine⟨_,rfl,.inl ⟨rfl,_,SqL.of hg'⟩,g,_,rfl,rfl,hg',?_⟩
     exact kN _ _ ⟨_,_,rfl,fg.upd (fg.upd S (up u um)) gm.2,M.step gnd (λg' hg'=>(gp g' hg').1) w2 w3 hu une mul⟩
   ·rintro σ G6 ⟨x8,x9,rfl,S,M⟩
    refine⟨_,rfl,.inl ⟨rfl,_,SqL.of M.at_⟩,fp,_,rfl,rfl,M.at_,?_⟩
    have S:=fg.upd (o:=.lst []) S nfp
    generalize upd G6 fp _=G7 at S ⊢
    refine⟨_,rfl,_,rfl,_,l,n,rfl,Da.same (s3.trans S) dk,GL,n1,n6,λ_ fp' ps' G8 s8 _ GT8=>?_,λz=>absurd z (by omega)⟩
    have S8:=S.trans s8
    have T8:=s3.trans S8
    refine⟨_,rfl,dG _,dG _,GT8.da,Da.same S8 dd,nu _,nu _,_,rfl,?_⟩
    rw[jf (nu _)]
    refine oQ ?_
    refine⟨_,rfl,_,rfl,dL l,dL l,Da.same T8 dk,Da.same T8 dl2,om _,om _,_,rfl,?_⟩
    rw[jf (om _)]
    refine oQ ?_
    have CW:=T8 _ _ hq1
    have EH:=T8 _ _ hq2
    refine⟨_,rfl,q2,_,_,_,rfl,rfl,SqT.of EH,rfl,.inl ⟨rfl,_,SqL.of CW⟩,q1,_,rfl,rfl,CW,?_⟩
    have d9:Da K (upd G8 q1 (.lst [])) (dL (l.1,[])) (.ref q2):=iW (l:=(l.1,[])) (by rw[fc q21];exact EH) (h7.mpr ⟨q1,[],rfl,SqL.of eW,fV.mpr rfl⟩)
    have EK:SqT K (upd G8 q1 (.lst [])) al [.int l.1,.ref bl]:=fX (B9 (d:=q1) gF) (xj CW (fX T8 Iv))
    generalize upd G8 q1 _=G9 at d9 EK ⊢
    have few:=Ad l.1 (n-1)
    refine⟨_,rfl,_,rfl,_,(l.1,[]),n,rfl,d9,gl_none o1 o14,n1,n6,λ_ fp9 ps9 G10 s10 _ Ki=>?_,λz=>absurd z (by omega)⟩
    refine⟨_,rfl,al,_,_,_,rfl,rfl,fX s10 EK,rfl,aM _,λe3 ne3=>⟨by show 2<=sizeLine;decide,λe4 ne4=>?_⟩⟩
    have t1:=(eV (o:=.lst []) ne3).trans (eV (o:=.tup [.int l.1,.ref e3]) ne4)
    have t2:Da K (upd (upd G10 e3 (.lst [])) e4 (.tup [.int l.1,.ref e3])) (dL (l.1,[])) (.ref e4):=iW (l:=(l.1,[])) eW (h7.mpr ⟨e3,[],rfl,SqL.of ((eV (o:=.tup [.int l.1,.ref e3]) ne4) _ _ eW),fV.mpr rfl⟩)
    refine⟨_,rfl,_,(l.1,[]),n,rfl,t2,gl_none o1 o14,n1,n6,λ_ v12 G12 s12 IG=>?_,λz=>absurd z (by omega)⟩
    refine⟨dG _,dG _,(Ki.same (t1.trans s12)).da,IG,nu _,nu _,?_⟩
    rw[jf (nu _)]
    exact k _
  ·refine⟨_,rfl,_,rfl,_,l,n,rfl,Da.same s3 dk,GL,n1,n6,λz=>absurd z (by omega),λ_ H4 s4=>?_⟩
   refine⟨aM _,λe1 ne1=>⟨by show 2<=sizeLine;decide,λe2 ne2=>?_⟩⟩
   have t1:=(eV (o:=.lst []) ne1).trans (eV (o:=.tup [.int 1,.ref e1]) ne2)
   have t2:Da K (upd (upd H4 e1 (.lst [])) e2 (.tup [.int 1,.ref e1])) (dL (1,[])) (.ref e2):=iW (l:=(1,[])) eW (h7.mpr ⟨e1,[],rfl,SqL.of ((eV (o:=.tup [.int 1,.ref e1]) ne2) _ _ eW),fV.mpr rfl⟩)
   refine⟨_,(1,[]),1,rfl,t2,zj,by decide,by decide,λ_ p0 ps0 H5 s5 _ _=>?_,λz=>absurd z (by have:=w5;omega)⟩
   have S5:=s3.trans (s4.trans (t1.trans s5))
   refine⟨_,rfl,.str "many",.str "many",nL.mpr rfl,nL.mpr rfl,qB os,qB os,_,rfl,?_⟩
   rw[jf (qB os)]
   refine A2 ?_
   refine⟨_,rfl,_,rfl,.str "many",.str "many",nL.mpr rfl,nL.mpr rfl,qB os,qB os,?_⟩
   rw[jf (qB os)]
   refine⟨_,rfl,A2 ?_⟩
   refine⟨_,rfl,_,rfl,dL l,dL l,Da.same S5 dk,Da.same S5 dl2,om _,om _,?_⟩
   rw[jf (om _)]
   exact k _
end
structure En (K:PySem.W.Frag)(x:Str)(st:Stmt)(f:Addr)(oc:Value)(od:Option Addr)(osl:Array (Option Value))(kV doc pm:Value)(an:Option Addr)(cdv ct:Value):Prop where
 a:PySem.W.nsIn K mainGlobals x=some (some (.ref f))
 l:K.lookup f=some ⟨oc,od,.func (PySem.W.fnOf x x (kn st) (jy st) (fi st) .none kV doc pm an cdv ct),osl⟩
 c:PySem.W.codeIn K cdv x=true
 k:PySem.W.keepIn K (.ref f)=true
theorem gY {K:PySem.W.Frag}{h:Heap}{mg:Str->Option Value}{x:Str}{st:Stmt}{ps:List Str}{f:Addr}{oc:Value}{od an:Option Addr}{osl:Array (Option Value)}{kV doc pm cdv ct:Value}(X:K.In h)(G:h.Ns mainGlobals mg)(e:En K x st f oc od osl kV doc pm an cdv ct)
  (hb:∀ (kV doc pm:Value) (an:Option Addr) (cdv ct:Value) (us:List Value),us.length=ps.length->bindArgs (PySem.W.fnOf x x (kn st) (jy st) (fi st) .none kV doc pm an cdv ct) ⟨us,[]⟩=pure (ps.zip us)):
  Fn K mg x st ps f (PySem.W.fnOf x x (kn st) (jy st) (fi st) .none kV doc pm an cdv ct):=⟨zX (st:=st) e.l e.c e.k,PySem.W.mg_of X G e.a,(zX (st:=st) e.l e.c e.k).binds (ps:=ps) hb⟩
theorem bn1 {F:FuncData}{p:List Str}(k:∀ a0,bindArgs F ⟨[a0],[]⟩=pure (p.zip [a0]))(us:List Value)(h:us.length=1):bindArgs F ⟨us,[]⟩=pure (p.zip us):=match us,h with |[a0],_=>k a0
theorem bn2 {F:FuncData}{p:List Str}(k:∀ a0 a1,bindArgs F ⟨[a0,a1],[]⟩=pure (p.zip [a0,a1]))(us:List Value)(h:us.length=2):bindArgs F ⟨us,[]⟩=pure (p.zip us):=match us,h with |[a0,a1],_=>k a0 a1
theorem bn3 {F:FuncData}{p:List Str}(k:∀ a0 a1 a2,bindArgs F ⟨[a0,a1,a2],[]⟩=pure (p.zip [a0,a1,a2]))(us:List Value)(h:us.length=3):bindArgs F ⟨us,[]⟩=pure (p.zip us):=match us,h with |[a0,a1,a2],_=>k a0 a1 a2
theorem all_mk {l:PySem.W.OpenLaw}{w:World}{K:PySem.W.Frag}{h:Heap}{mg:Str->Option Value}{fa f1 f2 f3 f4 f5 f6 f7 f8 f9 f10 f11 f12 f13 f14 f15 f16 f17 f18 f19 f20 f21 f22 f23 f24 f25 f26 f27 f28:Addr}(X:K.In h)(G:h.Ns mainGlobals mg)(hfa:mg "law" = some (.ref fa))
  {od1 an1 od2 an2 od3 an3 od4 an4 od5 an5 od6 an6 od7 an7 od8 an8 od9 an9 Hd Kb Hc J9 Hb J8 Ha J7 G0 J6 GZ J5 GY J4 GX J0 GV JZ GU JY GS JX GR JW GQ JV GP JU GO JT GN JQ GK JP GJ JO GI Fg:Option Addr}{sl1 sl2 sl3 sl4 sl5 sl6 sl7 sl8 sl9 F5 F4 F2 F1 F0 FZ FY FX FW FV FU FT FQ FP FN FL FK FJ FI:Array (Option Value)}{oc1 kV1 dc1 pm1 cd1 ct1 oc2 kV2 dc2 pm2 cd2 ct2 oc3 kV3 dc3 pm3 cd3 ct3 oc4 kV4 dc4 pm4 cd4 ct4 oc5 kV5 dc5 pm5 cd5 ct5 oc6 kV6 dc6 pm6 cd6 ct6 oc7 kV7 dc7 pm7 cd7 ct7 oc8 kV8 dc8 pm8 cd8 ct8 oc9 kV9 dc9 pm9 cd9 ct9 Hx Ic Ja GG JL Jt Hw Ib I0 GF JK Js Hv Ia IZ GD JJ Jr Hu HZ IY GC JI Jq Ht HY IX GB JH Jp Hs HX IW Gw JG Jo Hr HW IV Gv JF Jn Hq HV IU Gu JE Jm Ho HU IT Gs JD Jl Hn HS IS Gr JC Jk Hm HR IQ Gq JB Jj Hl HQ IP Gp JA Ji Hk HP IM Gn Jz Jh Hj HN IL Gm Jy Jg Hi HM IK Gk Jx Jf Hh HL IJ Gj Jw Je Hg HK II Gh Jv Jd Hf HJ IH Gg Ju Jc He Eu E8 Ed Fc E9:Value}
  (e1:En K "other_end" iU f1 oc1 od1 sl1 kV1 dc1 pm1 an1 cd1 ct1)
  (e2:En K "piece_of" kZ f2 oc2 od2 sl2 kV2 dc2 pm2 an2 cd2 ct2)
  (e3:En K "joined" kH f3 oc3 od3 sl3 kV3 dc3 pm3 an3 cd3 ct3)
  (e4:En K "turned" lP f4 oc4 od4 sl4 kV4 dc4 pm4 an4 cd4 ct4)
  (e5:En K "free_ends" iA f5 oc5 od5 sl5 kV5 dc5 pm5 an5 cd5 ct5)
  (e6:En K "moves_of" lh f6 oc6 od6 sl6 kV6 dc6 pm6 an6 cd6 ct6)
  (e7:En K "first_steps" jx f7 oc7 od7 sl7 kV7 dc7 pm7 an7 cd7 ct7)
  (e8:En K "lists_of" j7 f8 oc8 od8 sl8 kV8 dc8 pm8 an8 cd8 ct8)
  (e9:En K "come_to" mQ f9 oc9 od9 sl9 kV9 dc9 pm9 an9 cd9 ct9)
  (e10:En K "trains_of" iT f10 Hx Hd F5 Ic Ja GG Kb JL Jt)
  (e11:En K "parted" nY f11 Hw Hc F4 Ib I0 GF J9 JK Js)
  (e12:En K "groups" lQ f12 Hv Hb F2 Ia IZ GD J8 JJ Jr)
  (e13:En K "_law_cell_at" iJ f13 Hu Ha F1 HZ IY GC J7 JI Jq)
  (e14:En K "_law_mix" jS f14 Ht G0 F0 HY IX GB J6 JH Jp)
  (e15:En K "_law_turned_row" iG f15 Hs GZ FZ HX IW Gw J5 JG Jo)
  (e16:En K "_law_other" iz f16 Hr GY FY HW IV Gv J4 JF Jn)
  (e17:En K "_law_joined" hX f17 Hq GX FX HV IU Gu J0 JE Jm)
  (e18:En K "_law_line" lq f18 Ho GV FW HU IT Gs JZ JD Jl)
  (e19:En K "_law_rungs" km f19 Hn GU FV HS IS Gr JY JC Jk)
  (e20:En K "_law_renamed" iI f20 Hm GS FU HR IQ Gq JX JB Jj)
  (e21:En K "_law_round" jA f21 Hl GR FT HQ IP Gp JW JA Ji)
  (e22:En K "_law_moves" jB f22 Hk GQ FQ HP IM Gn JV Jz Jh)
  (e23:En K "_law_web" mP f23 Hj GP FP HN IL Gm JU Jy Jg)
  (e24:En K "_law_kept" lr f24 Hi GO FN HM IK Gk JT Jx Jf)
  (e25:En K "_law_all" jT f25 Hh GN FL HL IJ Gj JQ Jw Je)
  (e26:En K "_law_due" jj f26 Hg GK FK HK II Gh JP Jv Jd)
  (e27:En K "_law_told" lj f27 Hf GJ FJ HJ IH Gg JO Ju Jc)
  (e28:En K "law" rP f28 He GI FI Eu E8 Ed Fg Fc E9)
  (z1:PySem.W.nsIn K mainGlobals "len" = some none) (z2:PySem.W.nsIn K mainGlobals "range" = some none) (z3:PySem.W.nsIn K mainGlobals "sorted" = some none) (z4:PySem.W.nsIn K mainGlobals "enumerate" = some none) (z5:PySem.W.nsIn K mainGlobals "reversed" = some none) (z6:PySem.W.nsIn K mainGlobals "min" = some none) (z7:PySem.W.nsIn K mainGlobals "max" = some none) (z8:PySem.W.nsIn K mainGlobals "list" = some none) (z9:PySem.W.nsIn K mainGlobals "int" = some none) (z10:PySem.W.nsIn K mainGlobals "isinstance" = some none) (z11:PySem.W.nsIn K mainGlobals "zip" = some none) (z12:PySem.W.nsIn K mainGlobals "sum" = some none) (z13:PySem.W.nsIn K mainGlobals "all" = some none) (z14:PySem.W.nsIn K mainGlobals "set" = some none) (z15:PySem.W.nsIn K mainGlobals "tuple" = some none) (z16:PySem.W.nsIn K mainGlobals "abs" = some none) (z17:PySem.W.nsIn K mainGlobals "bool" = some none) (z18:PySem.W.nsIn K mainGlobals "dict" = some none) (z19:PySem.W.nsIn K mainGlobals "str" = some none)
  {C0 C1 C2 C3 C4 C5 C6 C7:Addr} (ve:PySem.W.nsIn K mainGlobals "ValueError" = some none) (xb0:kg K "TurnError" C0) (xb1:kg K "NoLine" C1) (xb2:kg K "NoTrain" C2) (xb3:kg K "NoMove" C3) (xb4:kg K "NoPiece" C4) (xb5:kg K "TooMany" C5) (xb6:kg K "NoText" C6) (xb7:kg K "NoRow" C7) (xd1:nN K C0 C1) (xd2:nN K C0 C2) (xd3:nN K C0 C3) (xd4:nN K C0 C4) (xd5:nN K C0 C5) (xd6:nN K C0 C6) (xd7:nN K C0 C7) (xe1:oE K C1 C2 C3 C4 C5 C6 C7) (xe2:oE K C2 C1 C3 C4 C5 C6 C7) (xe3:oE K C3 C1 C2 C4 C5 C6 C7) (xe4:oE K C4 C1 C2 C3 C5 C6 C7) (xe5:oE K C5 C1 C2 C3 C4 C6 C7) (xe6:oE K C6 C1 C2 C3 C4 C5 C7) (xe7:oE K C7 C1 C2 C3 C4 C5 C6) (nd:[C1,C2,C3,C4,C5,C6,C7].Nodup)
  {tk0:Tok} (ck0:PySem.W.nsIn K mainGlobals "MOST_STANDINGS" = some (some (.int 300 tk0)))
  {tk1:Tok} (ck1:PySem.W.nsIn K mainGlobals "MOST_TRAINS" = some (some (.int 300 tk1))):
  ∃ fd:FuncData,(∀ (s:Shared) (v:Value),BindsTo s fd ⟨[v],[]⟩ [("_law_script",v)])/\∀ base:Heap,K.In base->base.Ns mainGlobals mg->fG l.prog w K mg base CX0 9 fa fd ["_law_script"] (sO K):=by
 have e:=hfa.symm.trans (PySem.W.mg_of X G e28.a)
 cases e
 have B:Bm mg:=⟨⟨aT X G z1,aT X G z2,aT X G z3,aT X G z4,aT X G z5,aT X G z6,aT X G z7,aT X G z8,aT X G z9,aT X G z10⟩,aT X G z11,aT X G z12,aT X G z13,aT X G z14,aT X G z15,aT X G z16,aT X G z17,aT X G z18,aT X G z19⟩
 have XS:=DD X G ve xb0 xb1 xb2 xb3 xb4 xb5 xb6 xb7 xd1 xd2 xd3 xd4 xd5 xd6 xd7 xe1 xe2 xe3 xe4 xe5 xe6 xe7 nd
 have C:Cm mg tk0:=⟨PySem.W.mg_of X G ck0⟩
 have C2:Cn mg tk1:=⟨PySem.W.mg_of X G ck1⟩
 have fE:=gY (ps:=["end"]) X G e1 λ_ _ _ _ _ _=>bn1 (λ_=>rfl)
 have ic:=gY (ps:=["end"]) X G e2 λ_ _ _ _ _ _=>bn1 (λ_=>rfl)
 have kW:=gY (ps:=["line","end"]) X G e3 λ_ _ _ _ _ _=>bn2 (λ_ _=>rfl)
 have kT:=gY (ps:=["train"]) X G e4 λ_ _ _ _ _ _=>bn1 (λ_=>rfl)
 have fW:=gY (ps:=["line","train","end"]) X G e5 λ_ _ _ _ _ _=>bn3 (λ_ _ _=>rfl)
 have jr:=gY (ps:=["line","train"]) X G e6 λ_ _ _ _ _ _=>bn2 (λ_ _=>rfl)
 have ip:=gY (ps:=["line","train"]) X G e7 λ_ _ _ _ _ _=>bn2 (λ_ _=>rfl)
 have jt:=gY (ps:=["standings"]) X G e8 λ_ _ _ _ _ _=>bn1 (λ_=>rfl)
 have jZ:=gY (ps:=["line","train"]) X G e9 λ_ _ _ _ _ _=>bn2 (λ_ _=>rfl)
 have iY:=gY (ps:=["line","length"]) X G e10 λ_ _ _ _ _ _=>bn2 (λ_ _=>rfl)
 have kU:=gY (ps:=["line","trains"]) X G e11 λ_ _ _ _ _ _=>bn2 (λ_ _=>rfl)
 have kX:=gY (ps:=["line","length"]) X G e12 λ_ _ _ _ _ _=>bn2 (λ_ _=>rfl)
 have fu:=gY (ps:=["_law_script","_law_k"]) X G e13 λ_ _ _ _ _ _=>bn2 (λ_ _=>rfl)
 have fk:=gY (ps:=["_law_cell","_law_k"]) X G e14 λ_ _ _ _ _ _=>bn2 (λ_ _=>rfl)
 have gQ:=gY (ps:=["_law_number","_law_many"]) X G e15 λ_ _ _ _ _ _=>bn2 (λ_ _=>rfl)
 have fw:=gY (ps:=["_law_end"]) X G e16 λ_ _ _ _ _ _=>bn1 (λ_=>rfl)
 have fO:=gY (ps:=["_law_line_here","_law_end"]) X G e17 λ_ _ _ _ _ _=>bn2 (λ_ _=>rfl)
 have ju:=gY (ps:=["_law_script"]) X G e18 λ_ _ _ _ _ _=>bn1 (λ_=>rfl)
 have iZ:=gY (ps:=["_law_rungs_here"]) X G e19 λ_ _ _ _ _ _=>bn1 (λ_=>rfl)
 have fZ:=gY (ps:=["_law_line_here","_law_cell"]) X G e20 λ_ _ _ _ _ _=>bn2 (λ_ _=>rfl)
 have i6:=gY (ps:=["_law_train"]) X G e21 λ_ _ _ _ _ _=>bn1 (λ_=>rfl)
 have i7:=gY (ps:=["_law_line_here","_law_train"]) X G e22 λ_ _ _ _ _ _=>bn2 (λ_ _=>rfl)
 have jX:=gY (ps:=["_law_line_here","_law_train"]) X G e23 λ_ _ _ _ _ _=>bn2 (λ_ _=>rfl)
 have jv:=gY (ps:=["_law_kept_here"]) X G e24 λ_ _ _ _ _ _=>bn1 (λ_=>rfl)
 have jY:=gY (ps:=["_law_line_here","_law_length"]) X G e25 λ_ _ _ _ _ _=>bn2 (λ_ _=>rfl)
 have iH:=gY (ps:=["_law_line_here","_law_length"]) X G e26 λ_ _ _ _ _ _=>bn2 (λ_ _=>rfl)
 have gc:=gY (ps:=["_law_line_here","_law_length"]) X G e27 λ_ _ _ _ _ _=>bn2 (λ_ _=>rfl)
 have Fj:=gY (ps:=["_law_script"]) X G e28 λ_ _ _ _ _ _=>bn1 (λ_=>rfl)
 refine⟨PySem.W.fnOf "law" "law" (kn rP) (jy rP) (fi rP) .none Eu E8 Ed Fg Fc E9,λs v=>.of_eq rfl,λbase _ _=>?_⟩
 have XT:Xt K mg _:=⟨XS.kx⟩
 have ik:fG l.prog w K mg base CX0 2 _ _ _ _:=qz fZ fk gQ B.toBl
 have nP:fG l.prog w K mg base CX0 3 _ _ _ _:=uR ju fk fu fw fZ ik B.toBl
 have iF:fG l.prog w K mg base CX0 2 _ _ _ _:=tJ fW B.toBl ic kW
 have nO:fG l.prog w K mg base CX0 3 _ _ _ _:=uO jr fE fW iF
 have mH:fG l.prog w K mg base CX0 2 _ _ _ _:=tI i7 fw fO B.toBl
 have rb:fG l.prog w K mg base CX0 2 _ _ _ _:=xZ kT B.toBl fE
 have kE:fG l.prog w K mg base (CXr l.prog w base) 4 _ _ _ _:=qA ip B C XT jr nO
 have o9:fG l.prog w K mg base (CXr l.prog w base) 5 _ _ _ _:=vV jZ B ip kE jt
 have o5:fG l.prog w K mg base CX0 3 _ _ _ _:=vS jX B i7 mH
 have mE:fG l.prog w K mg base (CXr l.prog w base) 3 _ _ _ _:=tF iY B C2 XT fW iF fE
 have rh:fG l.prog w K mg base (CXr l.prog w base) 6 _ _ _ _:=ya kU B jZ o9
 have rk:fG l.prog w K mg base (CXr l.prog w base) 7 _ _ _ _:=yc kX B kU rh iY mE kT rb
 have mF:fG l.prog w K mg base CX0 1 _ _ _ _:=tG iZ B
 have mG:fG l.prog w K mg base CX0 2 _ _ _ _:=tH i6 fw
 have o8:fG l.prog w K mg base CX0 2 _ _ _ _:=vU jY B fw fO
 have m9:fG l.prog w K mg base CX0 4 _ _ _ _:=vT iH B jY o8 jX o5 i6 mG
 have jq:fG l.prog w K mg base CX0 8 _ _ _ _:=uQ gc XS B kX rk jv
 exact Cy Fj B ju nP fu fk iZ mF fZ ik gc jq iH m9
theorem walk {l:PySem.W.OpenLaw}{q:Program}{loose:List Str}{XP:(Str->Option Value)->Heap->Prop}{YP:World->Heap->Prop}{d:DefRec}{K:Params->PySem.W.Frag}(hn:l.most=some 63)(hdf:d.params.defaults = [])
  (hY:∀ (w:World) (h:Heap),YP w h->(K w.params).In h)
  (F:∀ (w:World) (mg:Str->Option Value) (fa:Addr) (h:Heap),(K w.params).In h->h.Ns mainGlobals mg->mg d.name=some (.ref fa)->
   ∃ fd:FuncData,(∀ (s:Shared) (u:Value),BindsTo s fd ⟨[u],[]⟩ [("_law_script",u)])/\∀ base:Heap,(K w.params).In base->base.Ns mainGlobals mg->fG l.prog w (K w.params) mg base CX0 9 fa fd ["_law_script"] (sO (K w.params))):
  PySem.W.WalkO q loose XP YP l.row.toRowW d [] (λf vs=>PySem.call f vs):=
 L2.Aw (n:=63) (k:=9) (x:= "_law_script") (CX:=λ_=>CX0) (sp:=λw=>sO (K w.params)) hn (by decide) hdf ⟨rfl,by decide,by decide⟩ hY F (λ_ _ a ns hl _ hS=>⟨a,ns,rfl,hS,λ_=>rfl⟩) λ_ _ _ _ _ z=>z
end K42
namespace PySem.W.Fast
def tw10268339090304006541:=0
def tw10280145023603666978:=0
def tw10296553327882588780:=0
def tw10369713849983902808:=0
def tw10489727697003008904:=0
def tw1053615909307881946:=0
def tw10720919422970949491:=0
def tw10742311573275247308:=0
def tw10766101497916475181:=0
def tw10798883218121569801:=0
def tw10803803931207730876:=0
def tw10821518520312860673:=0
def tw10939008837832109761:=0
def tw10991549929864765695:=0
def tw1099304677330936938:=0
def tw11001791755205264548:=0
def tw11193633820097109313:=0
def tw11219483855325045998:=0
def tw11258881082470900193:=0
def tw1127347157374337044:=0
def tw11326836606961399505:=0
def tw11327492977673120076:=0
def tw11376523780525082016:=0
def tw11416371670468079662:=0
def tw11416575038237589215:=0
def tw11456731668029110081:=0
def tw11588408762370500238:=0
def tw11601396504513831387:=0
def tw11637791550531173251:=0
def tw11804169293048505097:=0
def tw11966598538633670140:=0
def tw11978856427839607983:=0
def tw12002926393960017807:=0
def tw12186860271217830402:=0
def tw12291163639921338692:=0
def tw12380293714822932283:=0
def tw12419749185467983534:=0
def tw12462297968328196737:=0
def tw12506708558106805914:=0
def tw12719278713261926777:=0
def tw12865979862326967065:=0
def tw12953476353523792422:=0
def tw12982793574392050805:=0
def tw13082721718077177760:=0
def tw13115454979046174415:=0
def tw13256451568004797594:=0
def tw13376770175627598996:=0
def tw13386611755575945201:=0
def tw1354449669882928157:=0
def tw13566712827827407886:=0
def tw1360630564668877957:=0
def tw13628347286232574702:=0
def tw13644140360955722449:=0
def tw13710447541745716169:=0
def tw13727907480759447869:=0
def tw13741747365152062951:=0
def tw13744735221435767718:=0
def tw13746057268651696044:=0
def tw13765894468513784950:=0
def tw13770536850624420586:=0
def tw13905281648779534942:=0
def tw13926443843670253166:=0
def tw13938302008620181858:=0
def tw13947240009196077730:=0
def tw13987351737273000337:=0
def tw14012037060183850567:=0
def tw14017512191209572069:=0
def tw14066652813764029787:=0
def tw14069170534402461407:=0
def tw1409181786526410116:=0
def tw14139103776805656811:=0
def tw14191817799358897854:=0
def tw14294559850774802844:=0
def tw14340511827538008077:=0
def tw14383195220139974753:=0
def tw14598082187743741685:=0
def tw14628926463802520123:=0
def tw14669238425114791797:=0
def tw14740704711992668902:=0
def tw14874897264636588181:=0
def tw14904929353417751996:=0
def tw14938484110604334130:=0
def tw15103102096949810819:=0
def tw15172000207821593250:=0
def tw15189693645808306662:=0
def tw15293398970539634134:=0
def tw15316491260486558311:=0
def tw15332572143364649711:=0
def tw15365087346145224383:=0
def tw15378615369271101202:=0
def tw155665438215299075:=0
def tw15604463439649227742:=0
def tw15644605167257424880:=0
def tw15679153974050994906:=0
def tw15690888943158009907:=0
def tw15729446902766032784:=0
def tw15735427904449423713:=0
def tw15736468604097285756:=0
def tw15911496527769164688:=0
def tw15922146171518223466:=0
def tw15987121513867971986:=0
def tw16024595055821636112:=0
def tw16033757105590352951:=0
def tw16047176740648236891:=0
def tw16065997637689035295:=0
def tw16115949825733857001:=0
def tw1614725476159516559:=0
def tw16235910705338702706:=0
def tw16272770644499972289:=0
def tw16584533305720108018:=0
def tw16744173978691939982:=0
def tw16775700661659784144:=0
def tw16810796628596224071:=0
def tw16831862919006469699:=0
def tw1690949034574363362:=0
def tw16918546435001943287:=0
def tw1699054759209920175:=0
def tw17031368659837622486:=0
def tw17102131562112765768:=0
def tw17175627329290864232:=0
def tw17241966736302810818:=0
def tw17267761116075198705:=0
def tw17284644792579288936:=0
def tw17408787644242037415:=0
def tw17415788496517300376:=0
def tw17550619322951352720:=0
def tw17585637887890376192:=0
def tw17603772636561733981:=0
def tw17640644913844805660:=0
def tw17643433589312697500:=0
def tw17720431766809400486:=0
def tw17742770356745286396:=0
def tw17878289923115552134:=0
def tw17989144997492474240:=0
def tw18032934874769708133:=0
def tw18055740173556434927:=0
def tw18064308927643477309:=0
def tw18135237242525102846:=0
def tw18219628673694214823:=0
def tw182266689551278932:=0
def tw18361964827746237208:=0
def tw18379488634734460698:=0
def tw18392809194448472857:=0
def tw18430357649587028788:=0
def tw1892354615901792014:=0
def tw1991848333034623441:=0
def tw2044450168730836889:=0
def tw2063316379338916075:=0
def tw2103678934835275466:=0
def tw223945226965691038:=0
def tw2302386274008635014:=0
def tw2310198455954128892:=0
def tw2320053868400019436:=0
def tw2326537655923006017:=0
def tw2340592602201797777:=0
def tw2371068164169327787:=0
def tw2409749881336036517:=0
def tw2444952970302094135:=0
def tw2527351598994361669:=0
def tw2534257355421848685:=0
def tw2641173784050553849:=0
def tw2661738904693279458:=0
def tw2766822526157248761:=0
def tw2774902337576061986:=0
def tw2799670440507945656:=0
def tw2810673868276130484:=0
def tw2850647369398325153:=0
def tw2873743658042993421:=0
def tw2880214459832400813:=0
def tw2925739182016112071:=0
def tw2989561345408488271:=0
def tw3252017316649429187:=0
def tw3335236027164758078:=0
def tw3338446932262719952:=0
def tw3369225926048165355:=0
def tw3393307921779107483:=0
def tw3498119249295712156:=0
def tw3578998115108784089:=0
def tw3613284560144579943:=0
def tw3649563106780012060:=0
def tw3767014135289375682:=0
def tw3820501816972863232:=0
def tw383416045411479090:=0
def tw3885584633463056479:=0
def tw389550590580993073:=0
def tw4048156870193969124:=0
def tw4061737571057527240:=0
def tw4112749656532525062:=0
def tw4117868221017254933:=0
def tw421801489182312539:=0
def tw4260135504316076183:=0
def tw4289207859274246039:=0
def tw4295845896886852596:=0
def tw4362282285397099738:=0
def tw4376320459294472255:=0
def tw4391608342027895301:=0
def tw4471070918205928230:=0
def tw4542012638499335998:=0
def tw4672696804378622776:=0
def tw4845789475322025932:=0
def tw489068588403830182:=0
def tw4975158747787852686:=0
def tw5081763303565916325:=0
def tw5091641226043074984:=0
def tw5134455320264060241:=0
def tw5227560648426263509:=0
def tw5312927974628255772:=0
def tw5397492371046093068:=0
def tw5478195549443972106:=0
def tw5557817154490468510:=0
def tw5637635855747806721:=0
def tw5811426047469401383:=0
def tw6090324197104462183:=0
def tw6113833235815644594:=0
def tw6119029398022449210:=0
def tw61233121662859853:=0
def tw625065636331077910:=0
def tw6334173338755506895:=0
def tw6382492766375880951:=0
def tw6418469011980791065:=0
def tw6430965495500893019:=0
def tw6546453808529406268:=0
def tw6548918270645650050:=0
def tw6551685779513346870:=0
def tw6568905917442920893:=0
def tw6570059978295228199:=0
def tw6591170857057281285:=0
def tw6965696731924684508:=0
def tw7044404510761763225:=0
def tw7062762012245830423:=0
def tw7105182325181654011:=0
def tw7260828771296595803:=0
def tw7307315361006790885:=0
def tw7444608320727156224:=0
def tw7490685321160669136:=0
def tw7492109809959618168:=0
def tw7500061069748879663:=0
def tw7628690175210256606:=0
def tw7663358460391218040:=0
def tw7671271544780868771:=0
def tw771141420836789563:=0
def tw7842749355007229446:=0
def tw7849946315843385640:=0
def tw8004784755911655566:=0
def tw8065986465295201161:=0
def tw8066731673161835476:=0
def tw8122476676572529864:=0
def tw8202144818583812861:=0
def tw8228881349890846082:=0
def tw8247223444666394895:=0
def tw8256180486231422424:=0
def tw8298382609507617921:=0
def tw835628455481424178:=0
def tw8411766959441018355:=0
def tw8412756870450037842:=0
def tw8455526417177541940:=0
def tw8627968875583421983:=0
def tw8642918500492873283:=0
def tw8684017007998351695:=0
def tw8716037878325558535:=0
def tw8727776617724189825:=0
def tw8793271787878845944:=0
def tw880991233607127643:=0
def tw881260774006803444:=0
def tw8863729743762271819:=0
def tw8898419204690859973:=0
def tw896170416875206578:=0
def tw9032593173888756653:=0
def tw9048106507522550409:=0
def tw912263035591082343:=0
def tw913045232663070006:=0
def tw9136358077141924886:=0
def tw9201574964406959711:=0
def tw9258117561108228606:=0
def tw9260705757712564097:=0
def tw9264536155770697211:=0
def tw9265715265272589979:=0
def tw9281731470569726794:=0
def tw9324239374070938525:=0
def tw9391146423557273314:=0
def tw94811206286238433:=0
def tw9556216084852643861:=0
def tw9637246713176306870:=0
end PySem.W.Fast
open PySem PySem.W PyProof.Rows
set_option maxRecDepth 100000 in
set_option maxHeartbeats 0 in
theorem PySem.Challenge.cw_turnline_k42_groups_and_twins_holds : PySem.Challenge.rw_turnline_k42_groups_and_twins.Holds := by
 w_on;o_law;k_head;(case hw=>w_witness2)
 k_fill
 refine K42.walk (l:=PySem.Challenge.rw_turnline_k42_groups_and_twins) rfl rfl (λw h Y=>PySem.W.kIn_of Y) ?F
 case F=>
  intro w mg fa h KX G hmg
  refine' K42.all_mk KX G hmg ⟨?a1,?l1,?c1,?k1⟩ ⟨?a2,?l2,?c2,?k2⟩ ⟨?a3,?l3,?c3,?k3⟩ ⟨?a4,?l4,?c4,?k4⟩ ⟨?a5,?l5,?c5,?k5⟩ ⟨?a6,?l6,?c6,?k6⟩ ⟨?a7,?l7,?c7,?k7⟩ ⟨?a8,?l8,?c8,?k8⟩ ⟨?a9,?l9,?c9,?k9⟩ ⟨?a10,?l10,?c10,?k10⟩ ⟨?a11,?l11,?c11,?k11⟩ ⟨?a12,?l12,?c12,?k12⟩ ⟨?a13,?l13,?c13,?k13⟩ ⟨?a14,?l14,?c14,?k14⟩ ⟨?a15,?l15,?c15,?k15⟩ ⟨?a16,?l16,?c16,?k16⟩ ⟨?a17,?l17,?c17,?k17⟩ ⟨?a18,?l18,?c18,?k18⟩ ⟨?a19,?l19,?c19,?k19⟩ ⟨?a20,?l20,?c20,?k20⟩ ⟨?a21,?l21,?c21,?k21⟩ ⟨?a22,?l22,?c22,?k22⟩ ⟨?a23,?l23,?c23,?k23⟩ ⟨?a24,?l24,?c24,?k24⟩ ⟨?a25,?l25,?c25,?k25⟩ ⟨?a26,?l26,?c26,?k26⟩ ⟨?a27,?l27,?c27,?k27⟩ ⟨?a28,?l28,?c28,?k28⟩ ?z1 ?z2 ?z3 ?z4 ?z5 ?z6 ?z7 ?z8 ?z9 ?z10 ?z11 ?z12 ?z13 ?z14 ?z15 ?z16 ?z17 ?z18 ?z19 ?ve ?xb0 ?xb1 ?xb2 ?xb3 ?xb4 ?xb5 ?xb6 ?xb7 ?xd1 ?xd2 ?xd3 ?xd4 ?xd5 ?xd6 ?xd7 ?xe1 ?xe2 ?xe3 ?xe4 ?xe5 ?xe6 ?xe7 ?nd ?ck0 ?ck1
  case a1|l1|c1|k1|a2|l2|c2|k2|a3|l3|c3|k3|a4|l4|c4|k4|a5|l5|c5|k5|a6|l6|c6|k6|a7|l7|c7|k7|a8|l8|c8|k8|a9|l9|c9|k9|a10|l10|c10|k10|a11|l11|c11|k11|a12|l12|c12|k12|a13|l13|c13|k13|a14|l14|c14|k14|a15|l15|c15|k15|a16|l16|c16|k16|a17|l17|c17|k17|a18|l18|c18|k18|a19|l19|c19|k19|a20|l20|c20|k20|a21|l21|c21|k21|a22|l22|c22|k22|a23|l23|c23|k23|a24|l24|c24|k24|a25|l25|c25|k25|a26|l26|c26|k26|a27|l27|c27|k27|a28|l28|c28|k28|z1|z2|z3|z4|z5|z6|z7|z8|z9|z10|z11|z12|z13|z14|z15|z16|z17|z18|z19=>k_is
  (case ve=>k_is)
  (case xb0=>refine'⟨?u1,?u2,?u3,?u4,?u5,?u6,?u7,?u8,?u9⟩;(case u1=>k_is);(case u2=>k_exc);(case u3=>k_is);(case u4=>k_is);(case u5=>k_is);(case u6=>k_is);(case u7=>k_is);(case u8=>k_is);(case u9=>k_is))
  (case xb1=>refine'⟨?u1,?u2,?u3,?u4,?u5,?u6,?u7,?u8,?u9⟩;(case u1=>k_is);(case u2=>k_exc);(case u3=>k_is);(case u4=>k_is);(case u5=>k_is);(case u6=>k_is);(case u7=>k_is);(case u8=>k_is);(case u9=>k_is))
  (case xb2=>refine'⟨?u1,?u2,?u3,?u4,?u5,?u6,?u7,?u8,?u9⟩;(case u1=>k_is);(case u2=>k_exc);(case u3=>k_is);(case u4=>k_is);(case u5=>k_is);(case u6=>k_is);(case u7=>k_is);(case u8=>k_is);(case u9=>k_is))
  (case xb3=>refine'⟨?u1,?u2,?u3,?u4,?u5,?u6,?u7,?u8,?u9⟩;(case u1=>k_is);(case u2=>k_exc);(case u3=>k_is);(case u4=>k_is);(case u5=>k_is);(case u6=>k_is);(case u7=>k_is);(case u8=>k_is);(case u9=>k_is))
  (case xb4=>refine'⟨?u1,?u2,?u3,?u4,?u5,?u6,?u7,?u8,?u9⟩;(case u1=>k_is);(case u2=>k_exc);(case u3=>k_is);(case u4=>k_is);(case u5=>k_is);(case u6=>k_is);(case u7=>k_is);(case u8=>k_is);(case u9=>k_is))
  (case xb5=>refine'⟨?u1,?u2,?u3,?u4,?u5,?u6,?u7,?u8,?u9⟩;(case u1=>k_is);(case u2=>k_exc);(case u3=>k_is);(case u4=>k_is);(case u5=>k_is);(case u6=>k_is);(case u7=>k_is);(case u8=>k_is);(case u9=>k_is))
  (case xb6=>refine'⟨?u1,?u2,?u3,?u4,?u5,?u6,?u7,?u8,?u9⟩;(case u1=>k_is);(case u2=>k_exc);(case u3=>k_is);(case u4=>k_is);(case u5=>k_is);(case u6=>k_is);(case u7=>k_is);(case u8=>k_is);(case u9=>k_is))
  (case xb7=>refine'⟨?u1,?u2,?u3,?u4,?u5,?u6,?u7,?u8,?u9⟩;(case u1=>k_is);(case u2=>k_exc);(case u3=>k_is);(case u4=>k_is);(case u5=>k_is);(case u6=>k_is);(case u7=>k_is);(case u8=>k_is);(case u9=>k_is))
  (case xd1=>refine'⟨?u1,?u2⟩;(case u1=>k_is);(case u2=>k_is))
  (case xd2=>refine'⟨?u1,?u2⟩;(case u1=>k_is);(case u2=>k_is))
  (case xd3=>refine'⟨?u1,?u2⟩;(case u1=>k_is);(case u2=>k_is))
  (case xd4=>refine'⟨?u1,?u2⟩;(case u1=>k_is);(case u2=>k_is))
  (case xd5=>refine'⟨?u1,?u2⟩;(case u1=>k_is);(case u2=>k_is))
  (case xd6=>refine'⟨?u1,?u2⟩;(case u1=>k_is);(case u2=>k_is))
  (case xd7=>refine'⟨?u1,?u2⟩;(case u1=>k_is);(case u2=>k_is))
  (case xe1=>refine'⟨?u1,?u2,?u3,?u4,?u5,?u6⟩;(case u1=>k_is);(case u2=>k_is);(case u3=>k_is);(case u4=>k_is);(case u5=>k_is);(case u6=>k_is))
  (case xe2=>refine'⟨?u1,?u2,?u3,?u4,?u5,?u6⟩;(case u1=>k_is);(case u2=>k_is);(case u3=>k_is);(case u4=>k_is);(case u5=>k_is);(case u6=>k_is))
  (case xe3=>refine'⟨?u1,?u2,?u3,?u4,?u5,?u6⟩;(case u1=>k_is);(case u2=>k_is);(case u3=>k_is);(case u4=>k_is);(case u5=>k_is);(case u6=>k_is))
  (case xe4=>refine'⟨?u1,?u2,?u3,?u4,?u5,?u6⟩;(case u1=>k_is);(case u2=>k_is);(case u3=>k_is);(case u4=>k_is);(case u5=>k_is);(case u6=>k_is))
  (case xe5=>refine'⟨?u1,?u2,?u3,?u4,?u5,?u6⟩;(case u1=>k_is);(case u2=>k_is);(case u3=>k_is);(case u4=>k_is);(case u5=>k_is);(case u6=>k_is))
  (case xe6=>refine'⟨?u1,?u2,?u3,?u4,?u5,?u6⟩;(case u1=>k_is);(case u2=>k_is);(case u3=>k_is);(case u4=>k_is);(case u5=>k_is);(case u6=>k_is))
  (case xe7=>refine'⟨?u1,?u2,?u3,?u4,?u5,?u6⟩;(case u1=>k_is);(case u2=>k_is);(case u3=>k_is);(case u4=>k_is);(case u5=>k_is);(case u6=>k_is))
  (case nd=>decide)
  (case ck0=>k_is)
  (case ck1=>k_is)
