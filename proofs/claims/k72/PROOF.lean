import PyProof.Rows.All
import Wide.All
import OpenK.AllK
import Wide.FinOn
import PyProof.EqAt
import PyProof.EqKinds
import PyProof.TupleCall
import PyProof.CompFree
import PyProof.EvalArms
import KE.BitLaws
import OpenK.KOwn
import KE.KIsAll
import PyProof.ExcArgsOwn
import PyProof.IsiH_list
import PyProof.NsDelKeeps
import PyProof.ExcAttrAll.ValueError
import PyProof.ExcBaseAll.ValueError
import PyProof.ZipIter
import PyProof.Rows.SumAny
import KE.LcSums
import PyProof.SetRoads
import PyProof.Rows.SetFrom
import KE.KSetDisp
import PyProof.DictIter
import PyProof.DictRoadsH
import PyProof.Rows.TupDisplay
import PyProof.FString
import PyProof.FactsAll.list_1
import PyProof.CollectWalk
import PyProof.StrWalks
import PyProof.StrLawsTight
import PyProof.StrLawsChain
import PyProof.StrLawsIn
import PyProof.StrCalls2
import PyProof.StrBlockG
import PyProof.SliceStr2
import KE.KIntText
import PyProof.CollectIter
import PyProof.Walks
import PyProof.SetKind
import PyProof.TupleKey
import PyProof.IsRules
import PyProof.SetNew
import PyProof.StrOps2
import PyProof.Rows.Range3
import PyProof.Rows.SortRuns
import KE.KSortAsk
import PyProof.DictItems
import KE.KPairComp
import PyProof.Rows.StrRules
import KE.KSortTup
import PyProof.NeKinds
import PySem.Challenge.RW_turnline_k72_trains_and_runs_as_texts
abbrev aa:=@List.length_map
abbrev ae:=@PyProof.Rows.wpS_bind
abbrev af:=@Array.length_toList
abbrev ah:=@Nat.le_refl
abbrev ai:=@PySem.Heap.lt_size
abbrev aj:=@PyProof.Rows.wpS_pure
abbrev ak:=@PySem.Heap.get?_push_of_some
abbrev ao:=@if_neg
abbrev aq:=@Array.getElem?_toList
abbrev ar:=@if_pos
abbrev au:=@List.size_toArray
abbrev aw:=@PySem.wpAny_bind
abbrev ax:=@List.getElem?_eq_getElem
abbrev ay:=@List.getElem?_map
abbrev az:=@List.mem_cons_self
abbrev aA:=@Bool.false_ne_true
abbrev aB:=@List.mem_cons_of_mem
abbrev aC:=@List.getElem?_eq_some_iff
abbrev aD:=@PySem.W.mg_none_of
abbrev aE:=@Nat.lt_of_lt_of_le
abbrev aF:=@List.mem_of_getElem?
abbrev aG:=@List.mem_cons
abbrev aH:=@List.mem_append_right
abbrev aI:=@List.mem_append
abbrev aJ:=@Nat.ne_of_lt
abbrev aK:=@List.append_assoc
abbrev aL:=@List.mem_map
abbrev aM:=@List.take_of_length_le
abbrev aN:=@PySem.Str.length_append
abbrev aO:=@PySem.sizeLine_eq
abbrev aP:=@PySem.wpAny_pure
abbrev aQ:=@Nat.zero_le
abbrev aR:=@Array.getD_eq_getD_getElem?
abbrev aS:=@List.mem_singleton
abbrev aT:=@List.length_cons
abbrev aU:=@List.pairwise_append
abbrev aV:=@PySem.Heap.get?_push_size
abbrev aW:=@Array.toList_extract
abbrev aX:=@PySem.wpAny_mono
abbrev aY:=@List.length_append
abbrev aZ:=@List.map_append
abbrev ba:=@Nat.le_trans
abbrev bb:=@Int.emod_lt_of_pos
abbrev bf:=@PySem.W.kia_one
abbrev bg:=@List.map_cons
abbrev bh:=@List.lookup_cons
abbrev bj:=@List.length_take
abbrev bo:=@PyProof.Rows.wpS_forRange
abbrev bp:=@PySem.F.plainAttrs_list
abbrev bq:=@Option.some.inj
abbrev br:=@Array.getElem?_eq_getElem
abbrev bt:=@List.length_filter_le
abbrev bw:=@PySem.F.type_list_append
abbrev bx:=@PySem.F.slot_list_append
abbrev bz:=@Int.emod_nonneg
abbrev bA:=@List.mem_append_left
abbrev bB:=@PySem.F.excBase_ValueError
abbrev bC:=@Array.toList_push
abbrev bD:=@decide_eq_false
abbrev bE:=@List.append_nil
abbrev bF:=@List.getElem?_append_left
abbrev bG:=@List.mem_filter
abbrev bH:=@Bool.eq_iff_iff
abbrev bI:=@PySem.mem_of_lookup
abbrev bJ:=@PySem.F.plainAttrs_str
abbrev bK:=@Nat.lt_irrefl
abbrev bL:=@PySem.PassesOwn.never
abbrev bM:=@congrArg
abbrev bN:=@List.pairwise_iff_getElem
abbrev bO:=@List.map_map
abbrev bP:=@List.length_dropLast
abbrev bQ:=@List.reverse_append
abbrev bR:=@List.filterMap_cons
abbrev bS:=@PySem.wpAny_truthy_bool
abbrev bT:=@List.pairwise_singleton
abbrev bU:=@List.length_drop
abbrev bV:=@List.filter_cons_of_neg
abbrev bW:=@Bool.and_eq_true
abbrev bX:=@PyProof.Rows.wpS_mono
abbrev bY:=@PySem.F.slot_str_split
abbrev bZ:=@List.getElem?_append_right
abbrev b5:=@Array.perm_iff_toList_perm
abbrev b6:=@List.not_mem_nil
abbrev b7:=@List.all_eq_true
abbrev b8:=@PySem.StrLaws.join_split
abbrev b9:=@List.getElem?_drop
abbrev cb:=@Bool.false_eq_true
abbrev cc:=@List.length_eq_zero_iff
abbrev cf:=@List.filter_cons_of_pos
abbrev cg:=@PySem.wpAny_holding
abbrev cj:=@Nat.zero_add
abbrev ck:=@PySem.F.type_str_join
abbrev cm:=@PySem.F.slot_str_join
abbrev cn:=@List.take_append_drop
abbrev cp:=@List.getElem?_eq_none
abbrev cq:=@List.Perm.append_left
abbrev cu:=@List.mem_reverse
abbrev cv:=@List.mem_iff_getElem
abbrev cw:=@Int.le_refl
abbrev cx:=@PyProof.Rows.boot_isinstance
abbrev cy:=@List.nodup_cons
abbrev cz:=@PyProof.Rows.callWith_type1
abbrev cA:=@Ne.symm
abbrev cB:=@Nat.add_zero
abbrev cC:=@Nat.lt_of_le_of_lt
abbrev cD:=@List.pairwise_cons
abbrev cE:=@PySem.wpAny_passesOwn
abbrev cF:=@of_decide_eq_true
abbrev cG:=@decide_eq_true_eq
abbrev cH:=@List.take_add_one
abbrev cI:=@PySem.wpAny_Constant_str
abbrev cJ:=@PySem.F.args_str_split_2
abbrev cK:=@Bool.and_true
abbrev cL:=@PySem.boot_len
abbrev cM:=@PySem.F.entry_str_split
abbrev cN:=@Nat.le_add_right
abbrev cO:=@List.take_length
abbrev cP:=@List.getElem?_cons_succ
set_option Elab.async false
set_option linter.all false
set_option maxRecDepth 100000
namespace L2
open PySem PySem.Spec PyProof.Rows
abbrev Key:=Sum Int Str
def ud:Key->Value->Bool
 |.inl k,v=>Value.isInt k v
 |.inr x,v=>Value.isStrOf x v
def yP (w:World):Key->Int
 |.inl k=>hashInt k
 |.inr x=>hashStr w x
theorem ej:∀ {k:Key}{v:Value},ud k v=true->(∃ i t,k=Sum.inl i/\v=Value.int i t)\/(∃ x t,k=Sum.inr x/\v=Value.str x t)
 |.inl i,v,h=>by
  obtain⟨t,e⟩:=Value.isInt_shape (k:=i) (v:=v) h
  exact .inl ⟨i,t,rfl,e⟩
 |.inr x,v,h=>by
  obtain⟨t,e⟩:=Value.isStrOf_shape (x:=x) (v:=v) h
  exact .inr ⟨x,t,rfl,e⟩
theorem uY (a b:Int):decide ((Sum.inl a:Key)=Sum.inl b)=(a==b):=by
 by_cases e:a=b
 ·subst e;simp
 ·have h:¬(Sum.inl a:Key)=Sum.inl b:=λq=>e (Sum.inl.inj q)
  rw[bD h]
  exact(beq_eq_false_iff_ne.mpr e).symm
theorem uV (a b:Str):decide ((Sum.inr a:Key)=Sum.inr b)=decide (a=b):=by
 by_cases e:a=b
 ·subst e;simp
 ·have h:¬(Sum.inr a:Key)=Sum.inr b:=λq=>e (Sum.inr.inj q)
  rw[bD h,bD e]
theorem uX (a:Int)(b:Str):decide ((Sum.inl a:Key)=Sum.inr b)=false:=bD (λq=>nomatch q)
theorem uW (a:Str)(b:Int):decide ((Sum.inr a:Key)=Sum.inl b)=false:=bD (λq=>nomatch q)
def lx (prog:Program)(w:World):PySem.KeyKind prog w Key where
 is:=ud
 hash:=yP w
 inj:=λv a b ha hb=>by
  rcases ej ha with⟨i,t,rfl,rfl⟩|⟨x,t,rfl,rfl⟩
  ·rcases ej hb with⟨j,u,rfl,e⟩|⟨y,u,rfl,e⟩
   ·injection e with e1 _;rw[e1]
   ·exact nomatch e
  ·rcases ej hb with⟨j,u,rfl,e⟩|⟨y,u,rfl,e⟩
   ·exact nomatch e
   ·injection e with e1 _;rw[e1]
 byValue:=λk v h=>by
  rcases ej h with⟨i,t,rfl,rfl⟩|⟨x,t,rfl,rfl⟩<;>rfl
 pyHash:=λhv h=>by
  rcases ej hv with⟨i,t,rfl,rfl⟩|⟨x,t,rfl,rfl⟩
  ·exact wpAny_pyHash_int h
  ·exact wpAny_pyHash_str h
 eqBool:=λhu hv h=>by
  rcases ej hu with⟨i,t,rfl,rfl⟩|⟨x,t,rfl,rfl⟩
  ·rcases ej hv with⟨j,u,rfl,rfl⟩|⟨y,u,rfl,rfl⟩
   ·rw[uY]at h;exact wpAny_eqBool_int h
   ·rw[uX]at h;exact SeqAt.EqAt.int_str i t y u _ _ _ _ h
  ·rcases ej hv with⟨j,u,rfl,rfl⟩|⟨y,u,rfl,rfl⟩
   ·rw[uW]at h;exact SeqAt.EqAt.str_int x t j u _ _ _ _ h
   ·rw[uV]at h;exact wpAny_eqBool_str h
 «strs» :=λk x t v h=>by
  rcases ej h with⟨i,u,rfl,e⟩|⟨y,u,rfl,e⟩
  ·exact nomatch e
  ·injection e with e1 _
   subst e1
   cases v<;>rfl
inductive V where
 |non |bl (b:Bool)|int (i:Int)|str (x:Str)|byt (b:Array UInt8)|flt (b:UInt64)|ref (a:Addr)|ty (n:String)
 deriving DecidableEq
def RelV:V->Value->Prop
 |.non,u=>u=Value.none
 |.bl b,u=>u=Value.bool b
 |.int i,u=>∃ t,u=Value.int i t
 |.str x,u=>∃ t,u=Value.str x t
 |.byt b,u=>∃ t,u=Value.bytes b t
 |.flt b,u=>∃ t,u=Value.float b t
 |.ref a,u=>u=Value.ref a
 |.ty n,u=>u=Value.type n
abbrev Vals:List V->List Value->Prop:=Paired RelV
theorem Vals.length {xs:List V}{us:List Value}(r:Vals xs us):xs.length=us.length:=Paired.length r
theorem Vals.get:∀ {xs:List V}{us:List Value}{i:Nat}{x:V},Vals xs us->xs[i]? = some x->∃ u,us[i]? = some u/\RelV x u
 |_,_,_,_,.nil,e=>by simp at e
 |_,_,0,_,.cons r _,e=>by simp at e;subst e;exact⟨_,rfl,r⟩
 |_,_,i+1,x,.cons _ t,e=>by
  obtain⟨u,h1,h2⟩:=Vals.get (i:=i) (x:=x) t (by simpa using e)
  exact⟨u,by simpa using h1,h2⟩
theorem Vals.append:∀ {xs ys:List V}{us ws:List Value},Vals xs us->Vals ys ws->Vals (xs++ys) (us++ws)
 |_,_,_,_,.nil,s=>s
 |_,_,_,_,.cons r t,s=>.cons r (Vals.append t s)
theorem Vals.take:∀ {xs:List V}{us:List Value} (n:Nat),Vals xs us->Vals (xs.take n) (us.take n)
 |_,_,0,_=>.nil
 |_,_,_+1,.nil=>.nil
 |_,_,n+1,.cons r t=>.cons r (Vals.take n t)
theorem Vals.drop:∀ {xs:List V}{us:List Value} (n:Nat),Vals xs us->Vals (xs.drop n) (us.drop n)
 |_,_,0,r=>r
 |_,_,_+1,.nil=>.nil
 |_,_,n+1,.cons _ t=>Vals.drop n t
def vC:Option V->Option Value->Prop
 |some v,some u=>RelV v u
 |none,none=>True
 |_,_=>False
def KV {κ:Type} :List (κ×V)->List (κ×Value)->Prop:=Paired λ(p:κ×V) (q:κ×Value)=>p.1=q.1/\RelV p.2 q.2
def kV:Key->V
 |.inl i=>.int i
 |.inr x=>.str x
inductive HO where
 /-- a list -/
 |lst (xs:List V)
 /-- a tuple (never changes) -/
 |tup (xs:List V)
 /-- a dict vK keys are ints and texts;one vK keys are tuples of ints and texts (the empty one is both) -/
 |dK (kvs:List (Key×V))|dT (kvs:List (List Key×V))
 /-- a set of ints:its members,its size -/
 |set (S:Int->Bool) (n:Nat)
 /-- an instance of the class at C,its dict at dx,its attributes -/
 |ins (C dx:Addr) (fs:List (Str×V))
 /-- the dict of the instance at x -/
 |own (x:Addr)
 /-- the dict of an exception -/
 |xd (fs:List (Str×V))
 /-- a bound method,f of x -/
 |met (f x:Addr)
 /-- a range object lo,lo+1,.. below hi -/
 |rng (lo hi:Int)
 /-- a vM AR is known to the object (the xH;a dict while a loop walks it):read,never written while it is so -/
 |frz (o:Obj) (u:HO)
 /-- a code wg table -/
 |tbl (ps:Array Value)
 /-- any other vM,by vL is true of its one object (a def of AQ own:AK a S n:=HO.ext λh=>..) -/
 |ext (φ:Heap->Prop)
abbrev Hp:=Addr->Option HO
def upd (H:Hp)(a:Addr)(o:HO):Hp:=λb=>if b=a then some o else H b
theorem cT {H:Hp}{a:Addr}{o:HO} :upd H a o a=some o:=by unfold upd;rw[ar rfl]
theorem dj {H:Hp}{a b:Addr}{o:HO}(h:b≠a):upd H a o b=H b:=by unfold upd;rw[ao h]
theorem qd {H:Hp}{a:Addr}{o u:HO} :upd (upd H a o) a u=upd H a u:=by
 funext b;unfold upd;split<;>rfl
theorem qt {H:Hp}{a b:Addr}{o u:HO}(h:H a=some o)(h':H b=some u)(d:o≠u):a≠b:=by
 intro e;subst e;rw[h]at h';exact d (bq h')
theorem cZ {H:Hp}{a b:Addr}{o:HO}(h:H a=some o)(h':H b=none):a≠b:=by
 intro e;subst e;rw[h]at h';cases h'
section
variable (P:Program)(w:World)
def fm (H:Hp)(h:Heap)(a:Addr):HO->Prop
 |.lst xs=>xs.length<=sizeLine/\∃ (its:List Value) (n:Nat),Vals xs its/\h.get? a=some {cls:=.type "list",data:=.seq its.toArray n}
 |.tup xs=>xs.length<=sizeLine/\∃ its:List Value,Vals xs its/\IsTup h a its.toArray
 |.dK kvs=>kvs.length<=sizeLine/\(a==sysModules)=false/\∃ vs,KV kvs vs/\h.DictOf (lx P w) a vs
 |.dT kvs=>kvs.length<=sizeLine/\(a==sysModules)=false/\∃ xs:List (List Key×Addr×Value),
   Paired (λ(p:List Key×V) (q:List Key×Addr×Value)=>p.1=q.1/\H q.2.1=some (.tup (p.1.map kV))/\RelV p.2 q.2.2) kvs xs/\
   ∃ o es ep,h.get? a=some o/\o.ExactDict/\o.data = .dict es ep/\es.toList=xs.map (entryOfKey (tupleKind (lx P w)))/\(xs.map (·.1)).Nodup
 |.set S n=>h.SetOf (intKind P w) a S n
 |.ins C dx fs=>H dx=some (.own a)/\fs.length<=1000/\dx≠a/\h.get? a=some (PySem.W.instObj C dx)/\
   ∃ mA,h.Ns1 dx mA/\(∀ f,vC (fs.lookup f) (mA f))/\PySem.Within mA (fs.map (·.1))
 |.own _=>∃ o,h.get? a=some o
 |.xd fs=>∃ mA,h.Ns1 a mA/\∀ f,vC (fs.lookup f) (mA f)
 |.rng lo hi=>∃ t u v,h.get? a=some {cls:=.type "range",data:=.fields #[.int lo t,.int hi u,.int 1 v]}
 |.frz o u=>h.get? a=some o/\fm H h a u
 |.tbl ps=>h.get? a=some {cls:=.none,data:=.fields ps}
 |.met f x=>h.get? a=some (PySem.W.methodObj (.ref f) (.ref x))
 |.ext φ=>φ h/\(∃ o,h.get? a=some o)/\∀ h1 h2:Heap,φ h1->(∀ o,h1.get? a=some o->h2.get? a=some o)->φ h2
def HOk (H:Hp)(h:Heap):Prop:=∀ a o,H a=some o->fm P w H h a o
end
section
variable {P:Program}{w:World}{H H':Hp}{h h':Heap}{a:Addr}{o:HO}
theorem fm.lt (x:fm P w H h a o):a<h.objs.size:=by
 cases o with
 |lst xs=>obtain⟨_,_,_,_,e⟩:=x;exact ai e
 |tup xs=>obtain⟨_,_,_,p⟩:=x;exact p.lt
 |dK kvs=>obtain⟨_,_,_,_,o,_,_,e,_⟩:=x;exact ai e
 |dT kvs=>obtain⟨_,_,_,_,o,_,_,e,_⟩:=x;exact ai e
 |set S n=>obtain⟨o,_,_,_,e,_⟩:=x;exact ai e
 |ins C dx fs=>obtain⟨_,_,_,e,_⟩:=x;exact ai e
 |own y=>obtain⟨_,e⟩:=x;exact ai e
 |xd fs=>obtain⟨_,⟨_,_,_,e,_⟩,_⟩:=x;exact ai e
 |rng lo hi=>obtain⟨_,_,_,e⟩:=x;exact ai e
 |frz ob u=>obtain⟨e,_⟩:=x;exact ai e
 |tbl ps=>exact ai (show h.get? a=some _ from x)
 |met f y=>exact ai (show h.get? a=some _ from x)
 |ext φ=>obtain⟨_,⟨_,e⟩,_⟩:=x;exact ai e
theorem Paired.wq {α β:Type}{F G:α->β->Prop} :∀ {l₁:List α}{l₂:List β},Paired F l₁ l₂->(∀ a b,F a b->G a b)->Paired G l₁ l₂
 |_,_,.nil,_=>.nil
 |_,_,.cons r t,f=>.cons (f _ _ r) (Paired.wq t f)
theorem fm.m7 (x:fm P w H h a o)(k:∀ b u,(b=a\/H b=some (.own a))->h.get? b=some u->h'.get? b=some u)
  (ho:∀ b,H b=some (.own a)->H' b=some (.own a)) (ht:∀ b xs,H b=some (.tup xs)->H' b=some (.tup xs)):fm P w H' h' a o:=by
 induction o with
 |lst xs=>obtain⟨z,its,n,r,e⟩:=x;exact⟨z,its,n,r,k _ _ (.inl rfl) e⟩
 |tup xs=>obtain⟨z,its,r,ob,e,c⟩:=x;exact⟨z,its,r,ob,k _ _ (.inl rfl) e,c⟩
 |dK kvs=>obtain⟨z,y,vs,r,ob,es,ep,e,c⟩:=x;exact⟨z,y,vs,r,ob,es,ep,k _ _ (.inl rfl) e,c⟩
 |dT kvs=>
  obtain⟨z,y,xs,r,ob,es,ep,e,c⟩:=x
  exact⟨z,y,xs,Paired.wq r λp q z=>⟨z.1,ht _ _ z.2.1,z.2.2⟩,ob,es,ep,k _ _ (.inl rfl) e,c⟩
 |set S n=>obtain⟨ob,es,ep,t,e,c⟩:=x;exact⟨ob,es,ep,t,k _ _ (.inl rfl) e,c⟩
 |ins C dx fs=>
  obtain⟨d,z,ne,e,mA,⟨od,es,ep,e2,c⟩,r⟩:=x
  exact⟨ho _ d,z,ne,k _ _ (.inl rfl) e,mA,⟨od,es,ep,k _ _ (.inr d) e2,c⟩,r⟩
 |own y=>obtain⟨ob,e⟩:=x;exact⟨ob,k _ _ (.inl rfl) e⟩
 |xd fs=>obtain⟨mA,⟨od,es,ep,e,c⟩,r⟩:=x;exact⟨mA,⟨od,es,ep,k _ _ (.inl rfl) e,c⟩,r⟩
 |rng lo hi=>obtain⟨t,u,v,e⟩:=x;exact⟨t,u,v,k _ _ (.inl rfl) e⟩
 |frz ob u ih=>obtain⟨e,q⟩:=x;exact⟨k _ _ (.inl rfl) e,ih q⟩
 |tbl ps=>
  have e:h.get? a=some {cls:=.none,data:=.fields ps} :=x
  show h'.get? a=some {cls:=.none,data:=.fields ps}
  exact k a _ (.inl rfl) e
 |met f y=>
  have e:h.get? a=some (PySem.W.methodObj (.ref f) (.ref y)):=x
  show h'.get? a=some (PySem.W.methodObj (.ref f) (.ref y))
  exact k a _ (.inl rfl) e
 |ext φ=>obtain⟨p,⟨o,e⟩,st⟩:=x;exact⟨st _ _ p λo q=>k _ _ (.inl rfl) q,⟨o,k _ _ (.inl rfl) e⟩,st⟩
theorem HOk.lt (x:HOk P w H h)(e:H a=some o):a<h.objs.size:=(x a o e).lt
theorem HOk.fresh (x:HOk P w H h)(e:h.objs.size<=a):H a=none:=by
 cases q:H a with
 |none=>rfl
 |some u=>exact absurd (aE (x.lt q) e) (bK _)
theorem HOk.kept (x:HOk P w H h)(k:∀ b u,h.get? b=some u->h'.get? b=some u):HOk P w H h':=λa o e=>
 (x a o e).m7 (λb u _ q=>k b u q) (λ_ q=>q) λ_ _ q=>q
theorem HOk.laid (x:HOk P w H h)(k:∀ b u,h.get? b=some u->h'.get? b=some u)(hp:h.objs.size<=a)(new:fm P w (upd H a o) h' a o):HOk P w (upd H a o) h':=λb u e=>by
 have hn:=x.fresh hp
 by_cases hb:b=a
 ·subst hb;rw[cT]at e;cases e;exact new
 ·rw[dj hb]at e
  exact(x b u e).m7 (λc v _ q=>k c v q) (λc q=>by rw[dj (cZ q hn)];exact q) λc xs q=>by rw[dj (cZ q hn)];exact q
end
def Rd (H:Hp)(a:Addr)(u:HO):Prop:=H a=some u\/∃ o,H a=some (.frz o u)
theorem Rd.ok {P:Program}{w:World}{H:Hp}{h:Heap}{a:Addr}{u:HO}(r:Rd H a u)(x:HOk P w H h):fm P w H h a u:=by
 rcases r with r |⟨o,r⟩
 ·exact x a u r
 ·obtain⟨_,q⟩:=x a _ r
  exact q
def Mut:Option HO->Prop
 |some (.lst _)=>True
 |some (.dK _)=>True
 |some (.dT _)=>True
 |some (.set _ _)=>True
 |some (.ins _ _ _)=>True
 |some (.ext _)=>True
 |_=>False
section
variable {P:Program}{w:World}{H:Hp}{h h':Heap}{x e:Addr}{o':HO}
theorem HOk.write (ok:HOk P w H h)(mu:Mut (H x))(he:e=x\/H e=some (.own x))(k:∀ b u,b≠e->h.get? b=some u->h'.get? b=some u)(heo:∃ u,h'.get? e=some u)
  (new:fm P w (upd H x o') h' x o'):HOk P w (upd H x o') h':=λb u q=>by
 have wj:∀ c y,H c=some (.own y)->c≠x:=λc y r z=>by subst z;rw[r]at mu;exact mu
 have yL:∀ c xs,H c=some (.tup xs)->c≠x:=λc xs r z=>by subst z;rw[r]at mu;exact mu
 by_cases hb:b=x
 ·subst hb;rw[cT]at q;cases q;exact new
 ·rw[dj hb]at q
  by_cases hbe:b=e
  ·have q':H b=some (.own x):=by
    rcases he with z |z
    ·exact absurd (hbe.trans z) hb
    ·rw[hbe];exact z
   rw[q]at q';cases q'
   obtain⟨v,hv⟩:=heo
   exact⟨v,by rw[hbe];exact hv⟩
  ·refine(ok b u q).m7 (λc v hc r=>k c v ?_ r) (λc r=>by rw[dj (wj c b r)];exact r) λc xs r=>by rw[dj (yL c xs r)];exact r
   rcases hc with rfl |hc
   ·exact hbe
   ·rintro rfl
    rcases he with z |z
    ·exact wj c b hc z
    ·rw[hc]at z;cases z;exact hb rfl
end
structure Un (fs ex:List Addr)(H H':Hp)(h h':Heap):Prop where
 keep:∀ b o,h.get? b=some o->H b=none->b∉fs->b∉ex->h'.get? b=some o
 slot:∀ b o,h.get? b=some o->H b=none->b∈fs->b∉ex->∃ sl,h'.get? b=some {o with slots:=sl}
 free:∀ b o,h.get? b=some o->H b=none->b∉ex->H' b=none
 there:∀ b o,h.get? b=some o->b∉ex->∃ o',h'.get? b=some o'
 kz:∀ b xs,H b=some (.tup xs)->H' b=some (.tup xs)
 kf:∀ b o u,H b=some (.frz o u)->H' b=some (.frz o u)
 kA:∀ b ps,H b=some (.tbl ps)->∃ more,H' b=some (.tbl (ps++more))
section
variable {fs fs' ex ex':List Addr}{H H1 H2:Hp}{h h1 h2 h':Heap}{a x e:Addr}{o:HO}
theorem Un.any (u:Un fs ex H H1 h h1){b:Addr}{ob:Obj}(q:h.get? b=some ob)(n:H b=none)(hx:b∉ex):∃ sl,h1.get? b=some {ob with slots:=sl} :=by
 by_cases hb:b∈fs
 ·exact u.slot b ob q n hb hx
 ·exact⟨ob.slots,u.keep b ob q n hb hx⟩
theorem Un.trans (a:Un fs ex H H1 h h1)(b:Un fs ex H1 H2 h1 h2):Un fs ex H H2 h h2 where
 keep:=λc ob q n hc hx=>b.keep c ob (a.keep c ob q n hc hx) (a.free c ob q n hx) hc hx
 slot:=λc ob q n hc hx=>by
  obtain⟨sl,e1⟩:=a.slot c ob q n hc hx
  obtain⟨sl',e2⟩:=b.slot c _ e1 (a.free c ob q n hx) hc hx
  exact⟨sl',e2⟩
 free:=λc ob q n hx=>by
  obtain⟨o',e1⟩:=a.there c ob q hx
  exact b.free c o' e1 (a.free c ob q n hx) hx
 there:=λc ob q hx=>by
  obtain⟨o',e1⟩:=a.there c ob q hx
  exact b.there c o' e1 hx
 kz:=λc xs q=>b.kz c xs (a.kz c xs q)
 kf:=λc ob xs q=>b.kf c ob xs (a.kf c ob xs q)
 kA:=λc ps q=>by
  obtain⟨m1,e1⟩:=a.kA c ps q
  obtain⟨m2,e2⟩:=b.kA c _ e1
  exact⟨m1++m2,by rw[e2,Array.append_assoc]⟩
theorem Un.kept (k:∀ b u,h.get? b=some u->h'.get? b=some u):Un fs ex H H h h':=
 ⟨λb ob q _ _ _=>k b ob q,λb ob q _ _ _=>⟨ob.slots,k b ob q⟩,λ_ _ _ n _=>n,λb ob q _=>⟨ob,k b ob q⟩,λ_ _ q=>q,λ_ _ _ q=>q,λ_ ps q=>⟨#[],by rw[q];simp⟩⟩
theorem Un.refl:Un fs ex H H h h:=Un.kept λ_ _ q=>q
theorem Un.laid (k:∀ b u,h.get? b=some u->h'.get? b=some u)(hp:h.objs.size<=a)(hn:H a=none):Un fs ex H (upd H a o) h h' where
 keep:=λb u q _ _ _=>k b u q
 slot:=λb u q _ _ _=>⟨u.slots,k b u q⟩
 free:=λb u q n _=>by rw[dj (aJ (aE (ai q) hp))];exact n
 there:=λb u q _=>⟨u,k b u q⟩
 kz:=λb xs q=>by rw[dj (cZ q hn)];exact q
 kf:=λb u xs q=>by rw[dj (cZ q hn)];exact q
 kA:=λb ps q=>⟨#[],by rw[dj (cZ q hn),q];simp⟩
theorem Un.write (mu:Mut (H x))(he:e=x\/H e=some (.own x))(k:∀ b u,b≠e->h.get? b=some u->h'.get? b=some u)(heo:∃ u,h'.get? e=some u):Un fs ex H (upd H x o) h h':=by
 have hx:∀ b,H b=none->b≠x:=λb n z=>by subst z;rw[n]at mu;exact mu
 have hb:∀ b,H b=none->b≠e:=λb n z=>by
  subst z
  rcases he with r |r
  ·exact hx b n r
  ·rw[n]at r;cases r
 have hm:∀ b u,H b=some u->¬Mut (some u)->b≠x:=λb u q nm z=>by subst z;rw[q]at mu;exact nm mu
 refine⟨λb u q n _ _=>k b u (hb b n) q,λb u q n _ _=>⟨u.slots,k b u (hb b n) q⟩,λb u q n _=>by rw[dj (hx b n)];exact n,λb u q _=>?_,
  λb xs q=>by rw[dj (hm b _ q λz=>z)];exact q,λb u xs q=>by rw[dj (hm b _ q λz=>z)];exact q,λb ps q=>⟨#[],by rw[dj (hm b _ q λz=>z),q];simp⟩⟩
 by_cases hbe:b=e
 ·subst hbe;exact heo
 ·exact⟨u,k b u hbe q⟩
end
def trk (h:Heap)(H:Hp):List Addr:=(List.range h.objs.size).filter λa=>(H a).isSome
def nO (h:Heap)(H:Hp):Heap:=PySem.W.hideAll h (trk h H)
theorem rb (h:Heap)(H:Hp):(nO h H).objs.size=h.objs.size:=PySem.W.hideAll_size _ _
theorem su {h:Heap}{H:Hp}{b:Addr}{o:Obj}(e:h.get? b=some o)(n:H b=none):(nO h H).get? b=some o:=
 PySem.W.hideAll_get _ e λhm=>by
  have q:(H b).isSome=true:=(bG.mp hm).2
  rw[n]at q;simp at q
theorem tE {h:Heap}{H:Hp}{b:Addr}{o:Obj}(e:(nO h H).get? b=some o):h.get? b=some o/\H b=none:=by
 have e':h.get? b=some o:=PySem.W.of_hideAll (trk h H) e
 refine⟨e',?_⟩
 cases q:H b with
 |none=>rfl
 |some x=>
  have hm:b∈trk h H:=bG.mpr ⟨List.mem_range.mpr (ai e'),by simp[q]⟩
  have z:(nO h H).get? b=none:=PySem.W.hideAll_none (trk h H) hm
  rw[z]at e;cases e
structure Mod (K:PySem.W.Frag)(mg:Str->Option Value)(base:Heap):Prop where
 kin:K.In base
 glob:base.Ns mainGlobals mg
 blt:∃ mb,base.Ns builtinsNs mb/\∀ x:Str,x≠ "__name__" ->mb x=bootBuiltins x
 nolimit:base.NoLimit
structure Cx where
 prog:Program
 w:World
 K:PySem.W.Frag
 mg:Str->Option Value
 base:Heap
 A:Around
 N:List Str
 s₀:Shared
 H₀:Hp
 env:Env
 outer:List Env
 stack:List Env
 ex:List Addr
 fn:Str->Bool
 calm:Bool
 pn:List (Addr×Obj)
 xe:Value->Shared->Prop
def frs (l:List Env):List Addr:=l.filterMap (·.frame)
abbrev Cx.fs (X:Cx):List Addr:=frs X.outer
def Vis (sc:Scope)(x:Str):Prop:=sc.names.lookup x=some .local\/sc.names.lookup x=some .cell\/sc.names.lookup x=some .free
def Loc (sc:Scope)(x:Str):Prop:=sc.names.lookup x=some .local\/sc.names.lookup x=some .cell
def Look (env:Env)(h:Heap)(m:Str->Option Value)(x:Str)(u:Value):Prop:=
 (env.kindOf x=some .local/\m x=some u)\/((env.kindOf x=some .cell\/env.kindOf x=some .free)/\∃ c,env.cells.lookup x=some c/\h.IsCell c (some u))
structure Cx.Ok (X:Cx):Prop where
 mod:Mod X.K X.mg X.base
 kind:X.env.scope.kind = .function
 glob:X.env.globals=mainGlobals
 blt:X.env.builtins=builtinsNs
 above:X.s₀.heap.objs.size<=X.env.locals
 inj:∀ x y c,X.env.cells.lookup x=some c->X.env.cells.lookup y=some c->x=y
 has:∀ x,(X.env.kindOf x=some .cell\/X.env.kindOf x=some .free)->∃ c,X.env.cells.lookup x=some c
 cab:∀ x c,X.fn x=true->X.env.cells.lookup x=some c->X.s₀.heap.objs.size<=c
 hd:X.calm=true->X.A.handled=none
 frames:X.A.frames=some X.stack
 stk:X.stack=X.outer\/(X.stack=X.env::X.outer/\X.env.frame=some X.env.locals)
 exf:∀ b∈X.ex,b≠X.env.locals/\∀ x c,X.env.cells.lookup x=some c->c≠b
 bs:∀ b o,X.base.get? b=some o->X.s₀.heap.get? b=some o/\X.H₀ b=none
 bsz:X.base.objs.size<=X.s₀.heap.objs.size
 rX:∀ b o,X.base.get? b=some o->b∉X.ex
 tU:∀ b∈X.ex,b∉X.fs
 lX:X.s₀.heap.FunFrames X.base X.outer
 frf:∀ b∈X.fs,X.H₀ b=none
structure Inv (X:Cx)(pins:List (Addr×Obj))(σ:List (Option V))(H:Hp)(s:Shared):Prop where
 ok:X.Ok
 os:s.os=X.s₀.os
 bare:AllBare s.gens
 base:Un X.fs X.ex X.H₀ H X.s₀.heap s.heap
 loc:∃ m,s.heap.Ns X.env.locals m/\∀ (i:Nat) (x:Str) (v:V),X.N[i]? = some x->σ[i]? = some (some v)->Vis X.env.scope x->∃ u,RelV v u/\Look X.env s.heap m x u
 cell:∀ x c,X.env.cells.lookup x=some c->∃ v,s.heap.IsCell c v
 free:H X.env.locals=none
 iX:∀ x c,X.env.cells.lookup x=some c->H c=none
 pin:∀ p∈X.pn++pins,s.heap.get? p.1=some p.2/\H p.1=none/\p.1≠X.env.locals/\p.1∉X.fs/\∀ v,p.2.data≠ .cell v
 hok:HOk X.prog X.w H s.heap
 len:σ.length=X.N.length
section
variable {X:Cx}{pins:List (Addr×Obj)}{σ:List (Option V)}{H H':Hp}{s:Shared}{h':Heap}
theorem Cx.Ok.yN (ok:X.Ok){b:Addr}{o:Obj}(e:X.base.get? b=some o):b∉X.fs:=λhb=>by
 have:=(ok.lX.mem hb).1
 rw[e]at this;cases this
theorem Inv.bs (I:Inv X pins σ H s):∀ b o,X.base.get? b=some o->s.heap.get? b=some o/\H b=none:=λb o e=>
 ⟨I.base.keep b o (I.ok.bs b o e).1 (I.ok.bs b o e).2 (I.ok.yN e) (I.ok.rX b o e),I.base.free b o (I.ok.bs b o e).1 (I.ok.bs b o e).2 (I.ok.rX b o e)⟩
theorem Inv.bk (I:Inv X pins σ H s):∀ b o,X.base.get? b=some o->s.heap.get? b=some o:=λb o e=>(I.bs b o e).1
theorem Inv.mod (I:Inv X pins σ H s):Mod X.K X.mg X.base:=I.ok.mod
theorem Inv.kIn (I:Inv X pins σ H s):X.K.In s.heap:=I.ok.mod.kin.keeps I.bk
theorem Inv.lt (I:Inv X pins σ H s):X.env.locals<s.heap.objs.size:=let ⟨_,hn,_⟩:=I.loc;hn.lt
theorem Inv.sz (I:Inv X pins σ H s):X.s₀.heap.objs.size<=s.heap.objs.size:=ba I.ok.above (Nat.le_of_lt I.lt)
theorem Inv.yM (I:Inv X pins σ H s){a:Addr}(h:s.heap.objs.size<=a):a∉X.fs:=λhb=>by
 obtain⟨_,o,ho,_⟩:=I.ok.lX.mem hb
 exact absurd (aE (ai ho) (ba I.sz h)) (bK _)
theorem Inv.cne (I:Inv X pins σ H s):∀ x c,X.env.cells.lookup x=some c->c≠X.env.locals:=λx c e z=>by
 obtain⟨v,o,ho,hd⟩:=I.cell x c e
 obtain⟨m,⟨o',es,ep,ho',hd',_⟩,_⟩:=I.loc
 rw[z,ho']at ho;cases ho;rw[hd']at hd;cases hd
theorem Inv.lX (I:Inv X pins σ H s):s.heap.FunFrames X.base X.outer:=by
 have all:∀ (l:List Env),(∀ b∈frs l,b∈X.fs)->X.s₀.heap.FunFrames X.base l->s.heap.FunFrames X.base l:=by
  intro l
  induction l with
  |nil=>intro _ _;trivial
  |cons env r ih=>
   intro hs hl
   obtain⟨hk,⟨L,o,hf,hn,ho,hd⟩,hr⟩:=hl
   have hL:L∈X.fs:=hs L (by unfold frs;rw[bR,hf];exact az)
   obtain⟨sl,e⟩:=I.base.slot L o ho (I.ok.frf L hL) hL λz=>I.ok.tU L z hL
   exact⟨hk,⟨L,_,hf,hn,e,hd⟩,ih (λb hb=>hs b (by unfold frs;rw[bR,hf];exact aB _ hb)) hr⟩
 exact all X.outer (λ_ hb=>hb) I.ok.lX
theorem Inv.stack (I:Inv X pins σ H s):s.heap.FunFrames X.base X.stack:=by
 rcases I.ok.stk with e |⟨e,hf⟩
 ·rw[e];exact I.lX
 ·rw[e]
  obtain⟨m,hn,_⟩:=I.loc
  refine .cons (by rw[I.ok.kind];decide) hf hn ?_ I.lX
  exact Heap.get?_none_of_le (ba I.ok.bsz I.ok.above)
theorem Inv.jE (I:Inv X pins σ H s):∀ b∈frs X.stack,b∈X.env.locals::X.fs:=λb hb=>by
 rcases I.ok.stk with e |⟨e,hf⟩
 ·rw[e]at hb;exact aB _ hb
 ·rw[e]at hb
  unfold frs at hb
  rw[bR,hf]at hb
  exact hb
theorem Inv.m6 (I:Inv X pins σ H s):∀ b∈frs X.stack,H b=none:=λb hb=>by
 rcases aG.mp (I.jE b hb)with e |hb
 ·rw[e];exact I.free
 ·obtain⟨_,o,ho,_⟩:=I.ok.lX.mem hb
  exact I.base.free b o ho (I.ok.frf b hb) λz=>I.ok.tU b z hb
theorem Inv.step {g':Array GenState}{t':Nat}{d':Drawn}{ch:List Addr}(I:Inv X pins σ H s)
  (hch:∀ b∈ch,(b∈X.ex\/X.s₀.heap.objs.size<=b)/\b≠X.env.locals/\(∀ x c,X.env.cells.lookup x=some c->c≠b)/\∀ p∈X.pn++pins,p.1≠b)
  (keep:∀ b o,b≠X.env.locals->b∉X.fs->b∉ch->s.heap.get? b=some o->H b=none->h'.get? b=some o)
  (slot:∀ b o,b≠X.env.locals->b∈X.fs->b∉ch->s.heap.get? b=some o->H b=none->∃ sl,h'.get? b=some {o with slots:=sl}) (free:∀ b o,b∉ch->s.heap.get? b=some o->H b=none->H' b=none)
  (there:∀ b o,b∉ch->s.heap.get? b=some o->∃ o',h'.get? b=some o')
  (kz:∀ b xs,H b=some (.tup xs)->H' b=some (.tup xs)) (kf:∀ b o u,H b=some (.frz o u)->H' b=some (.frz o u)) (kA:∀ b ps,H b=some (.tbl ps)->∃ more,H' b=some (.tbl (ps++more)))
  (ns:∀ m,s.heap.Ns X.env.locals m->h'.Ns X.env.locals m) (hok:HOk X.prog X.w H' h') (hg:AllBare g'):
  Inv X pins σ H' {s with heap:=h',gens:=g',drawn:=d',toks:=t'} :=by
 have neL:∀ b o,X.s₀.heap.get? b=some o->b≠X.env.locals:=λb o e=>aJ (aE (ai e) I.ok.above)
 have neC:∀ b o,X.s₀.heap.get? b=some o->b∉X.ex->b∉ch:=λb o e hx hb=>by
  rcases(hch b hb).1 with z |z
  ·exact hx z
  ·exact absurd (aE (ai e) z) (bK _)
 have cellK:∀ x c,X.env.cells.lookup x=some c->∀ v,s.heap.IsCell c v->h'.IsCell c v:=λx c e v ⟨o,ho,hd⟩=>by
  have nch:c∉ch:=λz=>(hch c z).2.2.1 x c e rfl
  by_cases hc:c∈X.fs
  ·obtain⟨sl,q⟩:=slot c o (I.cne x c e) hc nch ho (I.iX x c e)
   exact⟨_,q,hd⟩
  ·exact⟨o,keep c o (I.cne x c e) hc nch ho (I.iX x c e),hd⟩
 refine⟨I.ok,I.os,hg,⟨λb o e n hb hx=>?_,λb o e n hb hx=>?_,λb o e n hx=>?_,λb o e hx=>?_,λb xs e=>kz b xs (I.base.kz b xs e),λb o xs e=>kf b o xs (I.base.kf b o xs e),λb ps e=>?_⟩,?_,λx c e=>?_,?_,λx c e=>?_,λp hp=>?_,hok,I.len⟩
 ·exact keep b o (neL b o e) hb (neC b o e hx) (I.base.keep b o e n hb hx) (I.base.free b o e n hx)
 ·obtain⟨sl,e1⟩:=I.base.slot b o e n hb hx
  obtain⟨sl',e2⟩:=slot b _ (neL b o e) hb (neC b o e hx) e1 (I.base.free b o e n hx)
  exact⟨sl',e2⟩
 ·obtain⟨o',e1⟩:=I.base.there b o e hx
  exact free b o' (neC b o e hx) e1 (I.base.free b o e n hx)
 ·obtain⟨o',e1⟩:=I.base.there b o e hx
  exact there b o' (neC b o e hx) e1
 ·obtain⟨m1,e1⟩:=I.base.kA b ps e
  obtain⟨m2,e2⟩:=kA b _ e1
  exact⟨m1++m2,by rw[e2,Array.append_assoc]⟩
 ·obtain⟨m,hn,hl⟩:=I.loc
  refine⟨m,ns m hn,λi x v e1 e2 e3=>?_⟩
  obtain⟨u,r,l⟩:=hl i x v e1 e2 e3
  refine⟨u,r,?_⟩
  rcases l with l |⟨k,c,e,z⟩
  ·exact .inl l
  ·exact .inr ⟨k,c,e,cellK x c e _ z⟩
 ·obtain⟨v,z⟩:=I.cell x c e
  exact⟨v,cellK x c e v z⟩
 ·obtain⟨m,⟨o,_,_,ho,_⟩,_⟩:=I.loc
  exact free _ o (λz=>(hch _ z).2.1 rfl) ho I.free
 ·obtain⟨v,o,ho,hd⟩:=I.cell x c e
  exact free c o (λz=>(hch c z).2.2.1 x c e rfl) ho (I.iX x c e)
 ·obtain⟨e,n,ne,nf,d⟩:=I.pin p hp
  have nch:p.1∉ch:=λz=>(hch p.1 z).2.2.2 p hp rfl
  exact⟨keep p.1 p.2 ne nf nch e n,free p.1 p.2 nch e n,ne,nf,d⟩
theorem Inv.un {t':Nat}(I:Inv X pins σ H s)(u:Un X.fs [] H H' s.heap h')(hok:HOk X.prog X.w H' h'):Inv X pins σ H' {s with heap:=h',toks:=t'} :=by
 obtain⟨m,⟨o,es,ep,ho,r⟩,_⟩:=id I.loc
 obtain⟨sl,hL⟩:=u.any ho I.free (by simp)
 exact I.step (g':=s.gens) (d':=s.drawn) (ch:=[]) (λ_ z=>nomatch z) (λb o _ hb _ e n=>u.keep b o e n hb (by simp)) (λb o _ hb _ e n=>u.slot b o e n hb (by simp)) (λb o _ e n=>u.free b o e n (by simp)) (λb o _ e=>u.there b o e (by simp)) u.kz u.kf u.kA (λm' hm=>by
  obtain⟨o',es',ep',ho',r'⟩:=hm
  rw[ho]at ho';cases ho'
  exact⟨_,es',ep',hL,r'⟩) hok I.bare
theorem Inv.call {g':Array GenState}{t':Nat}{d':Drawn}{ch:List Addr}(I:Inv X pins σ H s)(u:Un (frs X.stack) ch H H' s.heap h')(hok:HOk X.prog X.w H' h')(hg:AllBare g')
  (hch:∀ b∈ch,(b∈X.ex\/X.s₀.heap.objs.size<=b)/\b≠X.env.locals/\(∀ x c,X.env.cells.lookup x=some c->c≠b)/\∀ p∈X.pn++pins,p.1≠b):
  Inv X pins σ H' {s with heap:=h',gens:=g',drawn:=d',toks:=t'} :=by
 obtain⟨m,⟨o,es,ep,ho,r⟩,_⟩:=id I.loc
 obtain⟨sl,hL⟩:=u.any ho I.free λz=>(hch _ z).2.1 rfl
 exact I.step (ch:=ch) hch (λb o hL hb hc e n=>u.keep b o e n (λz=>(aG.mp (I.jE b z)).elim hL hb) hc) (λb o _ _ hc e n=>u.any e n hc) (λb o hc e n=>u.free b o e n hc) (λb o hc e=>u.there b o e hc) u.kz u.kf u.kA (λm' hm=>by
  obtain⟨o',es',ep',ho',r'⟩:=hm
  rw[ho]at ho';cases ho'
  exact⟨_,es',ep',hL,r'⟩) hok hg
theorem Inv.turned {t':Nat}{it:Addr}(I:Inv X pins σ H s)(k:∀ b o,b≠it->s.heap.get? b=some o->h'.get? b=some o)(hn:H it=none)(hL:it≠X.env.locals)
  (h1:it∈X.ex\/X.s₀.heap.objs.size<=it) (h2:∀ x c,X.env.cells.lookup x=some c->c≠it) (h3:∀ p∈X.pn++pins,p.1≠it):Inv X pins σ H {s with heap:=h',toks:=t'} :=by
 have nit:∀ b u,H b=some u->b≠it:=λb u e z=>by rw[z,hn]at e;cases e
 refine I.step (g':=s.gens) (d':=s.drawn) (ch:=[it]) (λb hb=>?_) (λb o _ _ hc e _=>k b o (λz=>hc (by simp[z])) e) (λb o _ _ hc e _=>⟨o.slots,k b o (λz=>hc (by simp[z])) e⟩) (λ_ _ _ _ n=>n)
  (λb o hc e=>⟨o,k b o (λz=>hc (by simp[z])) e⟩) (λ_ _ e=>e) (λ_ _ _ e=>e) (λb ps e=>⟨#[],by rw[e];simp⟩) (λm hm=>?_) (λb u e=>?_) I.bare
 ·have e:b=it:=by simpa using hb
  subst e
  exact⟨h1,hL,h2,h3⟩
 ·obtain⟨o,es,ep,ho,r⟩:=hm
  exact⟨o,es,ep,k _ o (cA hL) ho,r⟩
 ·refine(I.hok b u e).m7 (λc v hc q=>k c v ?_ q) (λ_ q=>q) λ_ _ q=>q
  rcases hc with z |z
  ·rw[z];exact nit b u e
  ·exact nit c _ z
theorem Inv.tok (I:Inv X pins σ H s)(t:Nat):Inv X pins σ H {s with toks:=t} :=I.un (h':=s.heap) (t':=t) Un.refl I.hok
theorem Inv.kept {t':Nat}(I:Inv X pins σ H s)(k:∀ b u,s.heap.get? b=some u->h'.get? b=some u):Inv X pins σ H {s with heap:=h',toks:=t'} :=I.un (Un.kept k) (I.hok.kept k)
theorem Inv.laid {a:Addr}{o:HO}{t':Nat}(I:Inv X pins σ H s)(k:∀ b u,s.heap.get? b=some u->h'.get? b=some u)(hp:s.heap.objs.size<=a)(new:fm X.prog X.w (upd H a o) h' a o):
  Inv X pins σ (upd H a o) {s with heap:=h',toks:=t'} :=I.un (Un.laid k hp (I.hok.fresh hp)) (I.hok.laid k hp new)
theorem Inv.write {x e:Addr}{o:HO}{t':Nat}(I:Inv X pins σ H s)(mu:Mut (H x))(he:e=x\/H e=some (.own x))(k:∀ b u,b≠e->s.heap.get? b=some u->h'.get? b=some u)(heo:∃ u,h'.get? e=some u)
  (new:fm X.prog X.w (upd H x o) h' x o):Inv X pins σ (upd H x o) {s with heap:=h',toks:=t'} :=I.un (Un.write mu he k heo) (I.hok.write mu he k heo new)
theorem Inv.weak {σ':List (Option V)}(I:Inv X pins σ H s)(hl:σ'.length=σ.length)(w:∀ (i:Nat) v,σ'[i]? = some (some v)->σ[i]? = some (some v)):Inv X pins σ' H s:=
 ⟨I.ok,I.os,I.bare,I.base,let ⟨m,hn,hl'⟩:=I.loc;⟨m,hn,λi x v e1 e2 e3=>hl' i x v e1 (w i v e2) e3⟩,I.cell,I.free,I.iX,I.pin,I.hok,hl.trans I.len⟩
theorem Inv.ql {lH:List (Addr×Obj)}(I:Inv X pins σ H s)(h:∀ p∈lH,s.heap.get? p.1=some p.2/\H p.1=none/\p.1≠X.env.locals/\p.1∉X.fs/\∀ v,p.2.data≠ .cell v):Inv X lH σ H s:=
 ⟨I.ok,I.os,I.bare,I.base,I.loc,I.cell,I.free,I.iX,λp hp=>(aI.mp hp).elim (λz=>I.pin p (bA _ z)) (h p),I.hok,I.len⟩
theorem oR {N:List Str}(hN:N.Nodup){i j:Nat}{x:Str}(a:N[i]? = some x)(b:N[j]? = some x):i=j:=by
 obtain⟨h1,e1⟩:=aC.mp a
 obtain⟨h2,e2⟩:=aC.mp b
 exact(List.getElem_inj hN).mp (e1.trans e2.symm)
theorem mF {M:Model}{A:Around}{E:Value->Shared->Prop}{i:Nat}{x:Str}{v:V}{u:Value}{Q:Unit->Shared->Prop}(I:Inv X pins σ H s)(hN:X.N.Nodup)(hi:X.N[i]? = some x)(hx:Loc X.env.scope x)(r:RelV v u)
  (h:∀ s',Inv X pins (σ.set i (some v)) H s'->(∃ a,Heap.SameBut a s.heap s'.heap/\(a=X.env.locals\/X.env.cells.lookup x=some a))->Q () s') (hf:X.fn x=true\/X.env.scope.names.lookup x=some .local:=by first |exact .inl rfl |exact .inr rfl |assumption):wpAny M A (storeName X.env x u) Q E s:=by
 obtain⟨m,hn,hl⟩:=id I.loc
 have vn:(X.env.scope.kind == .class||(X.env.scope.kind == .module&&X.env.locals !=X.env.globals))=false:=by rw[I.ok.kind];rfl
 have hiσ:i<σ.length:=by rw[I.len];exact(aC.mp hi).1
 have cne:=I.cne
 have tracked:∀ {a:Addr}{h':Heap},(∃ o,s.heap.get? a=some o/\H a=none)->Heap.SameBut a s.heap h'->HOk X.prog X.w H h':=λ{a h'} ha hs b ob e=>by
  obtain⟨_,_,kT⟩:=ha
  refine(I.hok b ob e).m7 (λc w' hc q=>(hs.2 c ?_).trans q) (λ_ q=>q) λ_ _ q=>q
  rintro rfl
  rcases hc with rfl |hc
  ·rw[kT]at e;cases e
  ·rw[kT]at hc;cases hc
 rcases hx with hk |hk
 ·refine wpAny_storeName_local hk hn (λh' hn' hs=>?_) vn
  obtain⟨oL,_,_,hoL,_⟩:=id hn
  refine h _ ⟨I.ok,I.os,I.bare,⟨λb o e n hb hx=>?_,λb o e n hb hx=>?_,I.base.free,λb o e hx=>?_,I.base.kz,I.base.kf,I.base.kA⟩,⟨_,hn',λj y v' e1 e2 e3=>?_⟩,λy c e=>?_,I.free,I.iX,λp hp=>?_,tracked ⟨oL,hoL,I.free⟩ hs,by simpa using I.len⟩ ⟨_,hs,.inl rfl⟩
  ·exact(hs.2 b (aJ (aE (ai e) I.ok.above))).trans (I.base.keep b o e n hb hx)
  ·obtain⟨sl,e1⟩:=I.base.slot b o e n hb hx
   exact⟨sl,(hs.2 b (aJ (aE (ai e) I.ok.above))).trans e1⟩
  ·obtain⟨o',e1⟩:=I.base.there b o e hx
   exact⟨o',(hs.2 b (aJ (aE (ai e) I.ok.above))).trans e1⟩
  ·by_cases hj:j=i
   ·subst hj
    rw[hi]at e1;cases e1
    rw[List.getElem?_set_self hiσ]at e2
    cases e2
    exact⟨u,r,.inl ⟨hk,by simp⟩⟩
   ·rw[List.getElem?_set_ne (cA hj)]at e2
    obtain⟨u',r',q⟩:=hl j y v' e1 e2 e3
    refine⟨u',r',?_⟩
    rcases q with⟨k,e⟩|⟨k,c,e,z⟩
    ·refine .inl ⟨k,?_⟩
     have:y≠x:=λe=>hj (oR hN e1 (e ▸ hi))
     simp[this,e]
    ·exact .inr ⟨k,c,e,z.sameBut hs (cne y c e)⟩
  ·obtain⟨w',z⟩:=I.cell y c e
   exact⟨w',z.sameBut hs (cne y c e)⟩
  ·obtain⟨e,n,ne,nf,d⟩:=I.pin p hp
   exact⟨(hs.2 p.1 ne).trans e,n,ne,nf,d⟩
 ·have hfn:X.fn x=true:=by
   rcases hf with z |z
   ·exact z
   ·rw[z]at hk;cases hk
  obtain⟨c,hc⟩:=I.ok.has x (.inl hk)
  obtain⟨w',z⟩:=I.cell x c hc
  refine wpAny_storeName_cell I.ok.kind hk hc z (λh' hc' hs=>?_)
  obtain⟨oc,hoc,zj⟩:=id z
  refine h {s with heap:=h'} ⟨I.ok,I.os,I.bare,⟨λb o e n hb hx=>?_,λb o e n hb hx=>?_,I.base.free,λb o e hx=>?_,I.base.kz,I.base.kf,I.base.kA⟩,⟨m,hn.sameBut hs (cA (cne x c hc)),λj y v' e1 e2 e3=>?_⟩,λy c' e=>?_,I.free,I.iX,λp hp=>?_,tracked ⟨oc,hoc,I.iX x c hc⟩ hs,by simpa using I.len⟩ ⟨c,hs,.inr hc⟩
  ·exact(hs.2 b (aJ (aE (ai e) (I.ok.cab x c hfn hc)))).trans (I.base.keep b o e n hb hx)
  ·obtain⟨sl,e1⟩:=I.base.slot b o e n hb hx
   exact⟨sl,(hs.2 b (aJ (aE (ai e) (I.ok.cab x c hfn hc)))).trans e1⟩
  ·obtain⟨o',e1⟩:=I.base.there b o e hx
   exact⟨o',(hs.2 b (aJ (aE (ai e) (I.ok.cab x c hfn hc)))).trans e1⟩
  ·by_cases hj:j=i
   ·subst hj
    rw[hi]at e1;cases e1
    rw[List.getElem?_set_self hiσ]at e2
    cases e2
    exact⟨u,r,.inr ⟨.inl hk,c,hc,hc'⟩⟩
   ·rw[List.getElem?_set_ne (cA hj)]at e2
    obtain⟨u',r',q⟩:=hl j y v' e1 e2 e3
    refine⟨u',r',?_⟩
    rcases q with q |⟨k,c',e,z'⟩
    ·exact .inl q
    ·refine .inr ⟨k,c',e,z'.sameBut hs ?_⟩
     rintro rfl
     exact hj (oR hN e1 (I.ok.inj _ _ _ e hc ▸ hi))
  ·by_cases hcc:c'=c
   ·subst hcc;exact⟨_,hc'⟩
   ·obtain⟨w2,z2⟩:=I.cell y c' e
    exact⟨w2,z2.sameBut hs hcc⟩
  ·obtain⟨e,n,ne,nf,d⟩:=I.pin p hp
   refine⟨(hs.2 p.1 ?_).trans e,n,ne,nf,d⟩
   intro q
   rw[q,hoc]at e
   have q':oc=p.2:=bq e
   exact d w' (by rw[<-q'];exact zj)
theorem og {M:Model}{A:Around}{E:Value->Shared->Prop}{i:Nat}{x:Str}{v:V}{u:Value}{Q:Unit->Shared->Prop}(I:Inv X pins σ H s)(hN:X.N.Nodup)(hi:X.N[i]? = some x)(hx:Loc X.env.scope x)(r:RelV v u)
  (h:∀ s',Inv X pins (σ.set i (some v)) H s'->Q () s') (hf:X.fn x=true\/X.env.scope.names.lookup x=some .local:=by first |exact .inl rfl |exact .inr rfl |assumption):wpAny M A (storeName X.env x u) Q E s:=
 mF I hN hi hx r (λs' I' _=>h s' I') hf
theorem Inv.sO {s':Shared}{ch:List Addr}(I:Inv X pins σ H s)(ho:s'.os=s.os)(u:Un (frs X.stack) ch H H' s.heap s'.heap)(hok:HOk X.prog X.w H' s'.heap)(hg:AllBare s'.gens)
  (hch:∀ b∈ch,(b∈X.ex\/X.s₀.heap.objs.size<=b)/\b≠X.env.locals/\(∀ x c,X.env.cells.lookup x=some c->c≠b)/\∀ p∈X.pn++pins,p.1≠b):Inv X pins σ H' s':=by
 obtain⟨h',g',d',t',o'⟩:=s'
 have e:o'=s.os:=ho
 subst e
 exact I.call (g':=g') (t':=t') (d':=d') u hok hg hch
end
abbrev XK:=Value->Option Addr->Hp->Prop
abbrev St:=List (Option V)
abbrev VK:=V->Hp->Prop
abbrev TE:=St->Hp->VK->Prop
abbrev TT:=St->Hp->(Bool->Hp->Prop)->Prop
abbrev TA:=St->Hp->(List V->Hp->Prop)->Prop
structure Ends where
 nx:St->Hp->Prop
 rt:VK
 bk:St->Hp->Prop:=λ_ _=>False
 ct:St->Hp->Prop:=λ_ _=>False
abbrev TS:=Ends->St->Hp->Prop
def EP (X:Cx)(pins:List (Addr×Obj))(σ:St)(Q:VK)(u:Value)(s':Shared):Prop:=∃ v H',Inv X pins σ H' s'/\RelV v u/\Q v H'
def TP (X:Cx)(pins:List (Addr×Obj))(σ:St)(Q:Bool->Hp->Prop)(b:Bool)(s':Shared):Prop:=∃ H',Inv X pins σ H' s'/\Q b H'
def AP (X:Cx)(pins:List (Addr×Obj))(σ:St)(Q:List V->Hp->Prop)(us:List Value)(s':Shared):Prop:=∃ vs H',Inv X pins σ H' s'/\Vals vs us/\Q vs H'
def SP (X:Cx)(pins:List (Addr×Obj))(D:Ends)(f:Flow)(s':Shared):Prop:=
 match f with
 |.next=>∃ σ' H',Inv X pins σ' H' s'/\D.nx σ' H'
 |.brk=>∃ σ' H',Inv X pins σ' H' s'/\D.bk σ' H'
 |.cont=>∃ σ' H',Inv X pins σ' H' s'/\D.ct σ' H'
 |.ret u=>∃ v σ' H',Inv X pins σ' H' s'/\RelV v u/\D.rt v H'
def PE (X:Cx)(e:Expr)(t:TE):Prop:=
 ∀ (pins:List (Addr×Obj)) (s:Shared) (σ:St) (H:Hp) (Q:VK),Inv X pins σ H s->t σ H Q->wpAny (model X.prog X.w) X.A (eval e X.env) (EP X pins σ Q) X.xe s
def PT (X:Cx)(e:Expr)(t:TT):Prop:=
 ∀ (pins:List (Addr×Obj)) (s:Shared) (σ:St) (H:Hp) (Q:Bool->Hp->Prop),Inv X pins σ H s->t σ H Q->wpAny (model X.prog X.w) X.A (isTrue e X.env (eval e X.env)) (TP X pins σ Q) X.xe s
def PW (X:Cx)(e:Expr)(t:TT):Prop:=
 ∀ (whole:Sem Value) (pins:List (Addr×Obj)) (s:Shared) (σ:St) (H:Hp) (Q:Bool->Hp->Prop),Inv X pins σ H s->t σ H Q->wpAny (model X.prog X.w) X.A (isTrue e X.env whole) (TP X pins σ Q) X.xe s
theorem PW.pt {X:Cx}{e:Expr}{t:TT}(h:PW X e t):PT X e t:=h _
def PA (X:Cx)(es:List Expr)(t:TA):Prop:=
 ∀ (pos:Pos) (pins:List (Addr×Obj)) (s:Shared) (σ:St) (H:Hp) (Q:List V->Hp->Prop),Inv X pins σ H s->t σ H Q->wpAny (model X.prog X.w) X.A (spliced (backTo pos (starEach es X.env))) (AP X pins σ Q) X.xe s
def PS (X:Cx)(st:Stmt)(t:TS):Prop:=
 ∀ (pins:List (Addr×Obj)) (s:Shared) (σ:St) (H:Hp) (D:Ends),Inv X pins σ H s->t D σ H->wpAny (model X.prog X.w) X.A (exec st X.env) (SP X pins D) X.xe s
def PSs (X:Cx)(st:List Stmt)(t:TS):Prop:=
 ∀ (pins:List (Addr×Obj)) (s:Shared) (σ:St) (H:Hp) (D:Ends),Inv X pins σ H s->t D σ H->wpAny (model X.prog X.w) X.A (execs st X.env) (SP X pins D) X.xe s
theorem thn {α:Type}{t:Sem α}{Q Q':α->Shared->Prop}{M:Model}{A:Around}{E:Value->Shared->Prop}{s:Shared}(h:wpAny M A t Q E s)(hQ:∀ a s,Q a s->Q' a s):wpAny M A t Q' E s:=aX h hQ λ_ _ x=>x
section
variable {X:Cx}
theorem bin {a b:Expr}{ta tb:TE}(ha:PE X a ta)(hb:PE X b tb){pins:List (Addr×Obj)}{s:Shared}{σ:St}{H:Hp}{R:V->V->Hp->Prop}(I:Inv X pins σ H s)(h:ta σ H λx H1=>tb σ H1 λy H2=>R x y H2)
  {α:Type}{Q:α->Shared->Prop}{f:Value->Value->Sem α}
  (hf:∀ v u s2 x y H2,Inv X pins σ H2 s2->RelV x v->RelV y u->R x y H2->wpAny (model X.prog X.w) X.A (f v u) Q X.xe s2):
  wpAny (model X.prog X.w) X.A (eval a X.env) (λv s₁=>wpAny (model X.prog X.w) X.A (eval b X.env) (λu s₂=>wpAny (model X.prog X.w) X.A (f v u) Q X.xe s₂) X.xe s₁) X.xe s:=by
 refine thn (ha pins s σ H _ I h) λv s1 ⟨x,H1,I1,r1,q1⟩=>?_
 refine thn (hb pins s1 σ H1 _ I1 q1) λu s2 ⟨y,H2,I2,r2,q2⟩=>?_
 exact hf v u s2 x y H2 I2 r1 r2 q2
def vN (i:Nat):TE:=λσ H Q=>∃ v,σ[i]? = some (some v)/\Q v H
def tC (v:V):TE:=λ_ H Q=>Q v H
theorem uI {i:Nat}{x:Str}{pos:Pos}(hN:X.N[i]? = some x)(hv:Vis X.env.scope x)(hd:(x==("__debug__" :Str))=false:=by decide)(hcd:(x==("__classdict__" :Str))=false:=by decide):PE X (.Name x pos) (vN i):=by
 intro pins s σ H Q I h
 obtain⟨v,e,h⟩:=h
 obtain⟨m,hn,hl⟩:=I.loc
 obtain⟨u,r,l⟩:=hl i x v hN e hv
 have fin:EP X pins σ Q u s:=⟨v,H,I,r,h⟩
 rcases l with⟨hk,hm⟩|⟨hk,c,hc,uf⟩
 ·exact wpAny_Name (wpAny_loadName_local I.ok.kind hk hn hm fin) hd
 ·rcases hk with hk |hk
  ·exact wpAny_Name (wpAny_loadName_cell I.ok.kind hk hc uf fin) hd
  ·exact wpAny_Name (wpAny_loadName_free I.ok.kind hk hc uf fin hcd) hd
theorem cU {i j pos} :PE X (.Constant (.int i) j pos) (tC (.int i)):=λ_ _ _ H _ I h=>wpAny_Constant_int ⟨.int i,H,I.tok _,⟨_,rfl⟩,h⟩
theorem lK {b j pos} :PE X (.Constant (.bool b) j pos) (tC (.bl b)):=λ_ _ _ H _ I h=>Constant_bool ⟨.bl b,H,I,rfl,h⟩
theorem dY {x j pos} :PE X (.Constant (.str x) j pos) (tC (.str x)):=λ_ _ _ H _ I h=>Calls.Constant_str ⟨.str x,H,I.tok _,⟨_,rfl⟩,h⟩
def Gl (X:Cx)(x:Str):Prop:=X.env.kindOf x=some .globalImplicit
theorem ly {E:Value->Shared->Prop}{pins:List (Addr×Obj)}{s:Shared}{σ:St}{H:Hp}{x:Str}{u:Value}{pos:Pos}{Q:Value->Shared->Prop}(I:Inv X pins σ H s)(hg:Gl X x)(hm:X.mg x=some u)(h:Q u s)
  (hd:(x==("__debug__" :Str))=false:=by decide):wpAny (model X.prog X.w) X.A (eval (.Name x pos) X.env) Q E s:=
 Calls.Name_function_global I.ok.kind hg (Calls.loadGlobal_global (by rw[I.ok.glob];exact I.mod.glob.keeps I.bk) hm h) hd
theorem lS {E:Value->Shared->Prop}{pins:List (Addr×Obj)}{s:Shared}{σ:St}{H:Hp}{x:Str}{u:Value}{pos:Pos}{Q:Value->Shared->Prop}(I:Inv X pins σ H s)(hg:Gl X x)(hm:X.mg x=none)(hv:bootBuiltins x=some u)(h:Q u s)
  (hn:x≠ "__name__" :=by decide) (hd:(x==("__debug__" :Str))=false:=by decide):wpAny (model X.prog X.w) X.A (eval (.Name x pos) X.env) Q E s:=by
 obtain⟨mb,h1,h2⟩:=I.mod.blt
 exact Calls.Name_function_global I.ok.kind hg (Calls.loadGlobal_builtin (by rw[I.ok.glob];exact I.mod.glob.keeps I.bk) hm (by rw[I.ok.blt];exact h1.keeps I.bk) ((h2 x hn).trans hv) h) hd
theorem qo {x:Str}{v:V}{u:Value}{pos:Pos}(hg:Gl X x)(hm:X.mg x=some u)(r:RelV v u)(hd:(x==("__debug__" :Str))=false:=by decide):PE X (.Name x pos) (tC v):=
 λ_ _ _ H _ I h=>ly I hg hm ⟨v,H,I,r,h⟩ hd
theorem jj {x:Str}{v:V}{u:Value}{pos:Pos}(hg:Gl X x)(hm:X.mg x=none)(hv:bootBuiltins x=some u)(r:RelV v u)(hn:x≠ "__name__" :=by decide)(hd:(x==("__debug__" :Str))=false:=by decide):PE X (.Name x pos) (tC v):=
 λ_ _ _ H _ I h=>lS I hg hm hv ⟨v,H,I,r,h⟩ hn hd
def t2I (ta tb:TE)(k:Int->Int->Hp->Prop):St->Hp->Prop:=λσ H=>ta σ H λx H1=>tb σ H1 λy H2=>∃ i j,x = .int i/\y = .int j/\k i j H2
variable {a b:Expr}{ta tb:TE}{pos:Pos}
def PC (X:Cx)(op:CmpOp)(a b:Expr)(t:TE):Prop:=
 ∀ (pins:List (Addr×Obj)) (s:Shared) (σ:St) (H:Hp) (Q:VK),Inv X pins σ H s->t σ H Q->
  wpAny (model X.prog X.w) X.A (eval a X.env) (λv s₁=>wpAny (model X.prog X.w) X.A (eval b X.env) (λu s₂=>wpAny (model X.prog X.w) X.A (compareOp op v u) (EP X pins σ Q) X.xe s₂) X.xe s₁) X.xe s
theorem oS (b:Expr){op:CmpOp}(h:op≠ .In)(h2:op≠ .NotIn):behindInMarks op b=false:=by
 have e1:(op==CmpOp.In)=false:=by cases op<;>first |rfl |exact absurd rfl h
 have e2:(op==CmpOp.NotIn)=false:=by cases op<;>first |rfl |exact absurd rfl h2
 cases b<;>simp[behindInMarks,e1,e2]
def pB (p:Int->Int->Bool)(ta tb:TE):TE:=λσ H Q=>t2I ta tb (λi j H2=>Q (.bl (p i j)) H2) σ H
abbrev tLt:TE->TE->TE:=pB λi j=>decide (i<j)
abbrev tLe:TE->TE->TE:=pB λi j=>decide (i<=j)
abbrev tGt:TE->TE->TE:=pB λi j=>decide (j<i)
abbrev tGe:TE->TE->TE:=pB λi j=>decide (j<=i)
abbrev xn:TE->TE->TE:=pB λi j=>decide (i=j)
abbrev AS:TE->TE->TE:=pB λi j=> !decide (i=j)
theorem nB {op:CmpOp}{p:Int->Int->Bool}(ha:PE X a ta)(hb:PE X b tb)
  (rule:∀ (i j:Int) (t u:Tok) (Q:Value->Shared->Prop) (s:Shared),Q (.bool (p i j)) s->wpAny (model X.prog X.w) X.A (compareOp op (.int i t) (.int j u)) Q X.xe s):PC X op a b (pB p ta tb):=by
 intro pins s σ H Q I h
 refine bin ha hb I h λv u s2 x y H2 I2 rx ry q=>?_
 obtain⟨i,j,rfl,rfl,q⟩:=q
 obtain⟨t,rfl⟩:=rx
 obtain⟨t',rfl⟩:=ry
 exact rule i j t t' _ s2 ⟨.bl _,H2,I2,rfl,q⟩
theorem v9 (ha:PE X a ta)(hb:PE X b tb):PC X .Lt a b (tLt ta tb):=nB ha hb λ_ _ _ _ _ _ h=>lt_int h
theorem qq (ha:PE X a ta)(hb:PE X b tb):PC X .Gt a b (tGt ta tb):=nB ha hb λ_ _ _ _ _ _ h=>gt_int h
theorem wa (ha:PE X a ta)(hb:PE X b tb):PC X .GtE a b (tGe ta tb):=nB ha hb λ_ _ _ _ _ _ h=>ge_int h
theorem pJ (ha:PE X a ta)(hb:PE X b tb):PC X .Eq a b (xn ta tb):=nB ha hb λ_ _ _ _ _ _ h=>eq_int (by rw[Bool.beq_eq_decide_eq];exact h)
def tB (t:TE):TT:=λσ H Q=>t σ H λx H1=>∃ c,x = .bl c/\Q c H1
theorem uL {op:CmpOp}{t:TE}(h:PC X op a b t)(h1:behindInMarks op b=false:=by first |exact oS _ (by decide) (by decide)|rfl):PE X (.Compare a [op] [b] pos) t:=λpins s σ H Q I hw=>wpAny_Compare1 (h pins s σ H Q I hw) h1
theorem iR {op:CmpOp}{t:TE}(h:PC X op a b t)(h1:behindInMarks op b=false:=by first |exact oS _ (by decide) (by decide)|rfl):PT X (.Compare a [op] [b] pos) (tB t):=by
 intro pins s σ H Q I hw
 refine wpAny_isTrue_Compare1 (thn (h pins s σ H _ I hw) λv s1 h1=>thn h1 λu s2 h2=>thn h2 λc s3 ⟨x,H1,I1,r1,q1⟩=>?_) h1
 obtain⟨d,rfl,q⟩:=q1
 cases r1
 exact bS ⟨H1,I1,q⟩
theorem iy {e:Expr}{t:TE}(h:PE X e t)(he:∀ whole,isTrue e X.env whole=(do let v <-whole;standAt e.pos;holding [v] (truthy v)):=by intro _;rfl):PT X e (tB t):=by
 intro pins s σ H Q I hw
 refine isTrue_plain (thn (h pins s σ H _ I hw) λv s1 ⟨x,H1,I1,r1,q1⟩=>?_) (he _)
 obtain⟨d,rfl,q⟩:=q1
 cases r1
 exact bS ⟨H1,I1,q⟩
variable {tA tB':TT}{rest:List Expr}
def xo (t u:TT):TT:=λσ H Q=>t σ H λc H1=>if c=true then u σ H1 Q else Q false H1
def tOr (t u:TT):TT:=λσ H Q=>t σ H λc H1=>if c=true then Q true H1 else u σ H1 Q
def xi (t:TT):TT:=λσ H Q=>t σ H λc H1=>Q (!c) H1
theorem tp (ha:PT X a tA):PW X (.BoolOp .And [a] pos) tA:=by
 intro wh pins s σ H Q I h
 refine isTrue_and (thn (ha pins s σ H Q I h) λc s1 e=>?_)
 cases c with
 |true=>exact isTrue_and_nil e
 |false=>exact e
theorem nv (ha:PT X a tA):PW X (.BoolOp .Or [a] pos) tA:=by
 intro wh pins s σ H Q I h
 refine isTrue_or (thn (ha pins s σ H Q I h) λc s1 e=>?_)
 cases c with
 |false=>exact isTrue_or_nil e
 |true=>exact e
theorem uE (ha:PT X a tA)(hb:PW X (.BoolOp .And (b::rest) pos) tB'):PW X (.BoolOp .And (a::b::rest) pos) (xo tA tB'):=by
 intro wh pins s σ H Q I h
 refine isTrue_and (thn (ha pins s σ H _ I h) λc s1 ⟨H1,I1,q1⟩=>?_)
 cases c with
 |true=>exact hb wh pins s1 σ H1 Q I1 q1
 |false=>exact⟨H1,I1,q1⟩
theorem lG (ha:PT X a tA)(hb:PW X (.BoolOp .Or (b::rest) pos) tB'):PW X (.BoolOp .Or (a::b::rest) pos) (tOr tA tB'):=by
 intro wh pins s σ H Q I h
 refine isTrue_or (thn (ha pins s σ H _ I h) λc s1 ⟨H1,I1,q1⟩=>?_)
 cases c with
 |true=>exact⟨H1,I1,q1⟩
 |false=>exact hb wh pins s1 σ H1 Q I1 q1
theorem gQ (ha:PT X a tA):PT X (.UnaryOp .Not a pos) (xi tA):=by
 intro pins s σ H Q I h
 exact isTrue_not (ha pins s σ H (λc H1=>Q (!c) H1) I h)
def vV (ta tb:TE):TE:=λσ H Q=>ta σ H λx H1=>∃ c,x = .bl c/\if c=true then tb σ H1 Q else Q (.bl false) H1
def vQ (ta:TE):TE:=λσ H Q=>ta σ H λx H1=>∃ c,x = .bl c/\Q (.bl (!c)) H1
theorem uJ {op}{t:TE}(h:PE X a t):PE X (.BoolOp op [a] pos) t:=λpins s σ H Q I hw=>BoolOp_one (h pins s σ H Q I hw)
theorem uM (ha:PE X a ta)(hb:PE X (.BoolOp .And (b::rest) pos) tb):PE X (.BoolOp .And (a::b::rest) pos) (vV ta tb):=by
 intro pins s σ H Q I h
 refine BoolOp_and (thn (ha pins s σ H _ I h) λv s1 ⟨x,H1,I1,r1,q1⟩=>?_)
 obtain⟨c,rfl,q1⟩:=q1
 cases r1
 refine bS ?_
 cases c with
 |true=>exact hb pins s1 σ H1 Q I1 q1
 |false=>exact⟨.bl false,H1,I1,rfl,q1⟩
theorem uK (ha:PE X a ta):PE X (.UnaryOp .Not a pos) (vQ ta):=by
 intro pins s σ H Q I h
 refine UnaryOp_ (thn (ha pins s σ H _ I h) λv s1 ⟨x,H1,I1,r1,q1⟩=>?_)
 obtain⟨c,rfl,q1⟩:=q1
 cases r1
 exact not_of (bS ⟨.bl (!c),H1,I1,rfl,q1⟩)
def tIf (t:TT)(ta tb:TE):TE:=λσ H Q=>t σ H λc H1=>if c=true then ta σ H1 Q else tb σ H1 Q
theorem rR {c:Expr}(hc:PT X c tA)(ha:PE X a ta)(hb:PE X b tb):PE X (.IfExp c a b pos) (tIf tA ta tb):=by
 intro pins s σ H Q I h
 refine wpAny_IfExp (thn (hc pins s σ H _ I h) λd s1 ⟨H1,I1,q1⟩=>?_)
 cases d with
 |true=>exact ha pins s1 σ H1 Q I1 q1
 |false=>exact hb pins s1 σ H1 Q I1 q1
end
def SqL (K:PySem.W.Frag)(H:Hp)(a:Addr)(xs:List V):Prop:=
 Rd H a (.lst xs)\/
  ∃ (o:Obj) (its:Array Value) (n:Nat),K.lookup a=some o/\o.cls = .type "list" /\o.dict=none/\o.data = .seq its n/\its.size<=sizeLine/\Vals xs its.toList
def SqT (K:PySem.W.Frag)(H:Hp)(a:Addr)(xs:List V):Prop:=
 Rd H a (.tup xs)\/
  ∃ (o:Obj) (its:Array Value) (n:Nat),K.lookup a=some o/\o.cls = .type "tuple" /\o.data = .seq its n/\its.size<=sizeLine/\Vals xs its.toList
def AI:Value->Option V
 |.none=>some .non
 |.bool b=>some (.bl b)
 |.int i _=>some (.int i)
 |.str x _=>some (.str x)
 |.bytes b _=>some (.byt b)
 |.float b _=>some (.flt b)
 |.ref a=>some (.ref a)
 |.type n=>some (.ty n)
 |_=>none
theorem RelV.abs {x:V}{u:Value}(r:RelV x u):AI u=some x:=by
 cases x with
 |non=>cases r;rfl
 |bl _=>cases r;rfl
 |int _=>obtain⟨t,rfl⟩:=r;rfl
 |str _=>obtain⟨t,rfl⟩:=r;rfl
 |byt _=>obtain⟨t,rfl⟩:=r;rfl
 |flt _=>obtain⟨t,rfl⟩:=r;rfl
 |ref _=>cases r;rfl
 |ty _=>cases r;rfl
theorem RelV.inj {x y:V}{u:Value}(r:RelV x u)(q:RelV y u):x=y:=bq (r.abs.symm.trans q.abs)
theorem Vals.inj:∀ {xs ys:List V}{us:List Value},Vals xs us->Vals ys us->xs=ys
 |_,_,_,.nil,.nil=>rfl
 |_,_,_,.cons r t,.cons r' t'=>by rw[r.inj r',Vals.inj t t']
section
variable {X:Cx}{pins:List (Addr×Obj)}{σ:St}{H:Hp}{s:Shared}{a:Addr}{xs ys:List V}
theorem SqL.of {K:PySem.W.Frag}(h:H a=some (.lst xs)):SqL K H a xs:=.inl (.inl h)
theorem SqT.of {K:PySem.W.Frag}(h:H a=some (.tup xs)):SqT K H a xs:=.inl (.inl h)
theorem Inv.list (I:Inv X pins σ H s)(h:SqL X.K H a xs):∃ its:List Value,Vals xs its/\PlainL s.heap a its.toArray/\xs.length<=sizeLine:=by
 rcases h with h |⟨o,its,n,hk,hc,hd,hs,hz,r⟩
 ·obtain⟨z,its,n,r,e⟩:=h.ok I.hok
  exact⟨its,r,⟨_,n,e,rfl,rfl,rfl⟩,z⟩
 ·refine⟨its.toList,r,⟨o,n,I.kIn a o hk,hc,hd,by simpa using hs⟩,?_⟩
  have e:=r.length
  simp only[af]at e
  omega
theorem Inv.tuple (I:Inv X pins σ H s)(h:SqT X.K H a xs):∃ its:List Value,Vals xs its/\IsTup s.heap a its.toArray/\xs.length<=sizeLine:=by
 rcases h with h |⟨o,its,n,hk,hc,hs,hz,r⟩
 ·obtain⟨z,its,r,p⟩:=h.ok I.hok
  exact⟨its,r,p,z⟩
 ·refine⟨its.toList,r,⟨o,I.kIn a o hk,hc,n,by simpa using hs⟩,?_⟩
  have e:=r.length
  simp only[af]at e
  omega
theorem Inv.lR (I:Inv X pins σ H s)(h:SqL X.K H a xs)(h':SqL X.K H a ys):xs=ys:=by
 obtain⟨its,r,⟨o,n,e,_,_,d⟩,_⟩:=I.list h
 obtain⟨its',r',⟨o',n',e',_,_,d'⟩,_⟩:=I.list h'
 rw[e]at e';cases e'
 rw[d]at d'
 injection d' with d1 _
 have:its=its':=by simpa using bM Array.toList d1
 subst this
 exact r.inj r'
end
abbrev Cx.kY (X:Cx)(E:Value->Shared->Prop):Cx:={X with xe:=E}
abbrev Cx.nox (X:Cx):Cx:=X.kY λ_ _=>False
theorem Cx.Ok.kY {X:Cx}(ok:X.Ok)(E:Value->Shared->Prop):(X.kY E).Ok:=
 ⟨ok.mod,ok.kind,ok.glob,ok.blt,ok.above,ok.inj,ok.has,ok.cab,ok.hd,ok.frames,ok.stk,ok.exf,ok.bs,ok.bsz,ok.rX,ok.tU,ok.lX,ok.frf⟩
theorem Cx.Ok.hX {X:Cx}{E:Value->Shared->Prop}(ok:(X.kY E).Ok):X.Ok:=
 ⟨ok.mod,ok.kind,ok.glob,ok.blt,ok.above,ok.inj,ok.has,ok.cab,ok.hd,ok.frames,ok.stk,ok.exf,ok.bs,ok.bsz,ok.rX,ok.tU,ok.lX,ok.frf⟩
section
variable {X:Cx}{pins:List (Addr×Obj)}{σ:St}{H:Hp}{s:Shared}{E:Value->Shared->Prop}
theorem Inv.kY (I:Inv X pins σ H s)(E:Value->Shared->Prop):Inv (X.kY E) pins σ H s:=⟨I.ok.kY E,I.os,I.bare,I.base,I.loc,I.cell,I.free,I.iX,I.pin,I.hok,I.len⟩
theorem Inv.hX (I:Inv (X.kY E) pins σ H s):Inv X pins σ H s:=⟨I.ok.hX,I.os,I.bare,I.base,I.loc,I.cell,I.free,I.iX,I.pin,I.hok,I.len⟩
theorem SP.hX {D:Ends}{f:Flow}{s':Shared}(h:SP (X.kY E) pins D f s'):SP X pins D f s':=by
 cases f with
 |next=>obtain⟨σ',H',I,q⟩:=h;exact⟨σ',H',I.hX,q⟩
 |brk=>obtain⟨σ',H',I,q⟩:=h;exact⟨σ',H',I.hX,q⟩
 |cont=>obtain⟨σ',H',I,q⟩:=h;exact⟨σ',H',I.hX,q⟩
 |ret u=>obtain⟨v,σ',H',I,r,q⟩:=h;exact⟨v,σ',H',I.hX,r,q⟩
theorem PSs.nox {st:List Stmt}{t:TS}(h:PSs X.nox st t):PSs X st t:=λpins s σ H D I hw=>
 aX (h pins s σ H D (I.kY _) hw) (λ_ _ q=>q.hX) λ_ _ z=>False.elim z
end
section
variable {X:Cx}{st:Stmt}{rest:List Stmt}{t u:TS}{e:Expr}{te:TE}{pos:Pos}
def vR:TS:=λD σ H=>D.nx σ H
def xg (t u:TS):TS:=λD σ H=>t {D with nx:=u D} σ H
theorem dU:PSs X [] vR:=λ_ _ σ H _ I h=>wpAny_execs_nil ⟨σ,H,I,h⟩
theorem cV (h1:PS X st t)(h2:PSs X rest u):PSs X (st::rest) (xg t u):=by
 intro pins s σ H D I h
 refine wpAny_execs_cons (thn (h1 pins s σ H {D with nx:=u D} I h) λf s1 q=>?_)
 cases f with
 |next=>
  obtain⟨σ',H',I',q⟩:=q
  exact h2 pins s1 σ' H' D I' q
 |ret v=>exact q
 |brk=>exact q
 |cont=>exact q
theorem cX (h1:PS X st t):PSs X [st] t:=by
 intro pins s σ H D I h
 refine wpAny_execs_cons (thn (h1 pins s σ H D I h) λf s1 q=>?_)
 cases f with
 |next=>exact wpAny_execs_nil q
 |ret v=>exact q
 |brk=>exact q
 |cont=>exact q
theorem Inv.quiet {pins:List (Addr×Obj)}{σ:St}{H:Hp}{s:Shared}(I:Inv X pins σ H s):interactive X.env=false:=by simp[interactive,I.ok.kind]
def vS (te:TE):TS:=λD σ H=>te σ H λ_ H1=>D.nx σ H1
theorem hG (he:PE X e te)(hs:swapsWith e none pos.line X.env=pure false:=by rfl):PS X (.Expr e pos) (vS te):=by
 intro pins s σ H D I h
 exact wpAny_Expr_any (thn (he pins s σ H _ I h) λv s1 ⟨x,H1,I1,r1,q1⟩=>⟨σ,H1,I1,q1⟩) I.quiet hs
def xh (te:TE):TS:=λD σ H=>te σ H D.rt
theorem dG (he:PE X e te):PS X (.Return (some e) pos) (xh te):=by
 intro pins s σ H D I h
 exact wpAny_Return_some (thn (he pins s σ H _ I h) λv s1 ⟨x,H1,I1,r1,q1⟩=>⟨x,σ,H1,I1,r1,q1⟩)
def xl (c:TT)(t u:TS):TS:=λD σ H=>c σ H λb H1=>if b=true then t D σ H1 else u D σ H1
theorem fi {c:Expr}{a b:List Stmt}{tc:TT}(hc:PT X c tc)(ha:PSs X a t)(hb:PSs X b u):PS X (.If c a b pos) (xl tc t u):=by
 intro pins s σ H D I h
 refine wpAny_If (thn (hc pins s σ H _ I h) λd s1 ⟨H1,I1,q1⟩=>?_)
 cases d with
 |true=>exact ha pins s1 σ H1 D I1 q1
 |false=>exact hb pins s1 σ H1 D I1 q1
end
abbrev TG:=V->St->Hp->(St->Hp->Prop)->Prop
abbrev TGs:=List V->St->Hp->(St->Hp->Prop)->Prop
def PG (X:Cx)(target:Expr)(t:TG):Prop:=
 ∀ (pins:List (Addr×Obj)) (s:Shared) (σ:St) (H:Hp) (v:V) (u:Value) (Q:St->Hp->Prop),Inv X pins σ H s->RelV v u->t v σ H Q->
  wpAny (model X.prog X.w) X.A (assign target X.env u) (λ_ s'=>∃ σ' H',Inv X pins σ' H' s'/\Q σ' H') X.xe s
def PGs (X:Cx)(ts:List Expr)(t:TGs):Prop:=
 ∀ (pins:List (Addr×Obj)) (s:Shared) (σ:St) (H:Hp) (vs:List V) (us:List Value) (Q:St->Hp->Prop),Inv X pins σ H s->Vals vs us->t vs σ H Q->
  wpAny (model X.prog X.w) X.A (assignInOrder ((assignEach ts X.env).map (·.2)) us) (λ_ s'=>∃ σ' H',Inv X pins σ' H' s'/\Q σ' H') X.xe s
abbrev A4:=V->V->V->Hp->(Hp->Prop)->Prop
abbrev TIp:=V->V->Hp->VK->Prop
section
variable {X:Cx}{pos:Pos}
def oY (i:Nat):TG:=λv σ H Q=>Q (σ.set i (some v)) H
theorem dC {i:Nat}{x:Str}(hN:X.N.Nodup)(hi:X.N[i]? = some x)(hx:Loc X.env.scope x)(hf:X.fn x=true\/X.env.scope.names.lookup x=some .local:=by first |exact .inl rfl |exact .inr rfl |assumption):PG X (.Name x pos) (oY i):=by
 intro pins s σ H v u Q I r h
 exact wpAny_assign_Name (og I hN hi hx r (λs' I'=>⟨_,H,I',h⟩) hf)
def wN:TGs:=λvs σ H Q=>vs = []/\Q σ H
def ug (t:TG)(u:TGs):TGs:=λvs σ H Q=>∃ v r,vs=v::r/\t v σ H λσ' H'=>u r σ' H' Q
theorem ji:PGs X [] wN:=by
 intro pins s σ H vs us Q I r h
 obtain⟨e,h⟩:=h
 subst e
 cases r
 exact assignInOrder_nil ⟨σ,H,I,h⟩
theorem eQ {e:Expr}{es:List Expr}{t:TG}{u:TGs}(h1:PG X e t)(h2:PGs X es u)
  (hs:(assignEach (e::es) X.env).map (·.2)=assign e X.env::(assignEach es X.env).map (·.2):=by rfl):PGs X (e::es) (ug t u):=by
 intro pins s σ H vs us Q I r h
 obtain⟨v,vr,e1,h⟩:=h
 subst e1
 cases r with
 |cons r rr=>
  rw[hs]
  refine assignInOrder_cons (thn (h1 pins s σ H _ _ _ I r h) λ_ s1 ⟨σ1,H1,I1,q1⟩=>?_)
  exact h2 pins s1 σ1 H1 _ _ Q I1 rr q1
def wM (K:PySem.W.Frag)(n:Nat)(t:TGs):TG:=λv σ H Q=>∃ a xs,v = .ref a/\SqT K H a xs/\xs.length=n/\t xs σ H Q
theorem kD {es:List Expr}{k:Nat}{t:TGs}{n:Nat}(hc:X.calm=true)(h:PGs X es t)
  (hn:(assignEach es X.env).length=n:=by rfl) (hst:(assignEach es X.env).findIdx? (·.1)=none:=by rfl):PG X (.Tuple es k pos) (wM X.K n t):=by
 intro pins s σ H v u Q I r hw
 obtain⟨a,xs,e1,hq,hl,hw⟩:=hw
 subst e1
 cases r
 obtain⟨its,rv,ht,hz⟩:=I.tuple hq
 refine assign_Tuple_tuple (I.ok.hd hc) ht (by simp[hn,<-hl,rv.length]) hst λh' hx=>?_
 have I1:Inv X pins σ H {s with heap:=h'} :=I.kept (t':=s.toks) λb o e=>hx b o (aJ (ai e)) e
 exact h pins _ σ H xs _ Q I1 (by simpa using rv) hw
def uy (te:TE)(g:TG):TS:=λD σ H=>te σ H λx H1=>g x σ H1 D.nx
theorem uF {tg e:Expr}{te:TE}{g:TG}(he:PE X e te)(hg:PG X tg g)(hs:swapsWithSole [tg] e pos.line X.env=pure false:=by rfl)(hw:swappedStores [tg] e X.env=pure none:=by rfl)
  (h1:(assignEach [tg] X.env).map (·.2) = [assign tg X.env]:=by rfl):PS X (.Assign [tg] e pos) (uy te g):=by
 intro pins s σ H D I h
 refine wpAny_Assign_stores (thn (he pins s σ H _ I h) λv s1 ⟨x,H1,I1,r1,q1⟩=>?_) hs hw
 rw[h1]
 exact thn (hg pins s1 σ H1 x v _ I1 r1 q1) λ_ s2 q=>q
theorem dS {i:Nat}{x:Str}{e:Expr}{te:TE}{pos':Pos}(hN:X.N.Nodup)(hi:X.N[i]? = some x)(hx:Loc X.env.scope x)(he:PE X e te)(hs:swapsWith e (some (.Name x pos')) pos.line X.env=pure false:=by rfl)(hf:X.fn x=true\/X.env.scope.names.lookup x=some .local:=by first |exact .inl rfl |exact .inr rfl |assumption):
  PS X (.Assign [.Name x pos'] e pos) (uy te (oY i)):=by
 intro pins s σ H D I h
 refine wpAny_Assign_Name (thn (he pins s σ H _ I h) λv s1 ⟨y,H1,I1,r1,q1⟩=>?_) hs
 exact og I1 hN hi hx r1 (λs2 I2=>⟨_,H1,I2,q1⟩) hf
end
section
variable {X:Cx}{pos:Pos}
end
structure It where
 go:Nat->Hp->Prop
 yld:Nat->Hp->V->Hp->Prop
 stop:Nat->Hp->Prop
def iO (X:Cx)(pins:List (Addr×Obj))(H:Hp)(b:Addr):Prop:=
 H b=none/\b≠X.env.locals/\b∉X.fs/\(b∈X.ex\/X.s₀.heap.objs.size<=b)/\(∀ x c,X.env.cells.lookup x=some c->c≠b)/\∀ p∈X.pn++pins,p.1≠b
theorem Inv.tT {X:Cx}{pins:List (Addr×Obj)}{σ:St}{H H':Hp}{s:Shared}{b:Addr}(I:Inv X pins σ H s)(hb:s.heap.objs.size<=b)(hn:H' b=none):iO X pins H' b:=by
 refine⟨hn,Nat.ne_of_gt (aE I.lt hb),I.yM hb,.inr (ba I.sz hb),λx c e z=>?_,λp hp z=>?_⟩
 ·obtain⟨v,q⟩:=I.cell x c e
  exact absurd (aE q.lt (by rw[z];exact hb)) (bK _)
 ·exact absurd (aE (ai (I.pin p hp).1) (by rw[z];exact hb)) (bK _)
structure Turn (P:Program)(w:World)(K:PySem.W.Frag)(tg:Expr)(J:It)(fp:List Addr)(it:Addr)(tn:Nat->Heap->Prop):Prop where
 mem:it∈fp
 obj:∀ i h,tn i h->∀ b∈fp,∃ o,h.get? b=some o/\∀ v,o.data≠ .cell v
 keep:∀ i h h',tn i h->(∀ b∈fp,∀ o,h.get? b=some o->h'.get? b=some o)->tn i h'
 item:∀ (X:Cx),X.prog=P->X.w=w->X.K=K->X.calm=true->∀ (i:Nat) (pins:List (Addr×Obj)) (s:Shared) (σ:St) (H:Hp) (E:Value->Shared->Prop),Inv X pins σ H s->(∀ b∈fp,iO X pins H b)->tn i s.heap->J.go i H->
  wpAny (model P w) X.A (pyNext (.ref it)) (λr s1=>∃ u,r=some u/\
   wpAny (model P w) X.A (letOwnedTupleGo tg (.ref it) u) (λ_ s2=>∃ x H',Inv X pins σ H' s2/\RelV x u/\J.yld i H x H'/\tn (i+1) s2.heap/\∀ b∈fp,H' b=none) E s1) E s
 done:∀ (X:Cx),X.prog=P->X.w=w->X.K=K->X.calm=true->∀ (i:Nat) (pins:List (Addr×Obj)) (s:Shared) (σ:St) (H:Hp) (E:Value->Shared->Prop),Inv X pins σ H s->(∀ b∈fp,iO X pins H b)->tn i s.heap->J.stop i H->
  wpAny (model P w) X.A (pyNext (.ref it)) (λr s1=>r=none/\Inv X pins σ H s1) E s
 self:∀ (A:Around) (i:Nat) (s:Shared) (Q:Value->Shared->Prop) (E:Value->Shared->Prop),tn i s.heap->Q (.ref it) s->wpAny (model P w) A (pyIter (.ref it)) Q E s
abbrev TI:=St->Hp->(It->Hp->Prop)->Prop
def PIE (X:Cx)(pins:List (Addr×Obj))(σ:St)(tg:Expr)(R:It->Hp->Prop)(itv:Value)(s2:Shared):Prop:=
 ∃ (it:Addr) (fp:List Addr) (tn:Nat->Heap->Prop) (J:It) (H':Hp),itv = .ref it/\Inv X pins σ H' s2/\Turn X.prog X.w X.K tg J fp it tn/\tn 0 s2.heap/\(∀ b∈fp,iO X pins H' b)/\R J H'
def PI (X:Cx)(tg iter:Expr)(wi:TI):Prop:=
 ∀ (pins:List (Addr×Obj)) (s:Shared) (σ:St) (H:Hp) (R:It->Hp->Prop),Inv X pins σ H s->wi σ H R->
  wpAny (model X.prog X.w) X.A (eval iter X.env) (λv s1=>wpAny (model X.prog X.w) X.A (pyIter v) (PIE X pins σ tg R) X.xe s1) X.xe s
theorem qy {M : Model} {A : Around} {E : Value → Shared → Prop} {s : Shared} {tg : Expr} {it : Addr} {u : Value} {o : Obj} {n : String} {vs : Array Value} {Q : Unit → Shared → Prop} (ho : s.heap.get? it = some o) (hc : o.cls = .type n) (hd : o.data = .fields vs)
    (hn : ["enumerate", "zip", "dict_itemiterator", "dict_reverseitemiterator", "odict_iterator", "itertools.zip_longest", "itertools.pairwise"].contains n = false) (hQ : Q () s) : wpAny M A (letOwnedTupleGo tg (.ref it) u) Q E s := by
  unfold letOwnedTupleGo
  cases tg <;> first
    | exact aP hQ
    | (cases u <;> first
        | exact aP hQ
        | (refine aw (wpAny_load ho ?_)
           rw [hc, hd]
           show wpAny M A (if (["enumerate", "zip", "dict_itemiterator", "dict_reverseitemiterator", "odict_iterator", "itertools.zip_longest", "itertools.pairwise"].contains n && vs[0]? == some (rawInt _)) = true then _ else _) Q E s
           rw [ao (by intro h; rw [hn, Bool.false_and] at h; cases h)]
           exact aP hQ))
def Itl (K:PySem.W.Frag)(a:Addr):It:=
 ⟨λi H=>∃ xs x,SqL K H a xs/\xs[i]? = some x,λi H x H'=>H'=H/\∀ xs,SqL K H a xs->xs[i]? = some x,λi H=>∃ xs,SqL K H a xs/\xs.length<=i⟩
def Itr (lo:Int)(n:Nat):It:=⟨λi _=>i<n,λi H x H'=>H'=H/\x = .int (lo+i),λi _=>n<=i⟩
theorem qN {P:Program}{w:World}{K:PySem.W.Frag}{tg:Expr}(a it:Addr):Turn P w K tg (Itl K a) [it] it (λi h=>h.IsListIter it a i) where
 mem:=by simp
 obj:=λi h st b hb=>by
  have e:b=it:=by simpa using hb
  subst e
  obtain⟨o,e,c,d⟩:=st
  exact⟨o,e,λv z=>by rw[d]at z;cases z⟩
 keep:=λi h h' st k=>st.at λo e=>k it (by simp) o e
 item:=by
  intro X hP hw hK hc i pins s σ H E I hf st hg
  subst hP hw hK
  obtain⟨xs,x,hq,hx⟩:=hg
  obtain⟨its,rv,p,hz⟩:=I.list hq
  obtain⟨u,hu,ru⟩:=rv.get hx
  obtain⟨f0,f1,f2,f3,f4,f5⟩:=hf it (by simp)
  refine wpAny_pyNext_list_item st p.isList (x:=u) (by simpa using hu) λh' st' sb=>?_
  have I1:Inv X pins σ H {s with heap:=h'} :=I.turned (t':=s.toks) (λb o hb e=>(sb.2 b hb).trans e) f0 f1 f3 f4 f5
  obtain⟨o,e,c,d⟩:=id st'
  exact⟨u,rfl,qy (s:={s with heap:=h'}) e c d (by decide) ⟨x,H,I1,ru,⟨rfl,λys hy=>by rw[I.lR hy hq];exact hx⟩,st',λb hb=>(hf b hb).1⟩⟩
 done:=by
  intro X hP hw hK hc i pins s σ H E I hf st hg
  subst hP hw hK
  obtain⟨xs,hq,hx⟩:=hg
  obtain⟨its,rv,p,hz⟩:=I.list hq
  obtain⟨f0,f1,f2,f3,f4,f5⟩:=hf it (by simp)
  have hl:=rv.length
  exact wpAny_pyNext_list_end (I.ok.hd hc) st p.isList (by simp;omega) λh' eb=>⟨rfl,I.turned (t':=s.toks) (λb o hb e=>eb b o hb e) f0 f1 f3 f4 f5⟩
 self:=λ_ _ _ _ _ st h=>wpAny_pyIter_listiter st h
theorem pA {P:Program}{w:World}{K:PySem.W.Frag}{tg:Expr}(it:Addr)(lo:Int)(n:Nat):Turn P w K tg (Itr lo n) [it] it (λi h=>IsRangeIter h it (lo+(i:Nat)*1) ((n:Int)-(i:Nat)) 1) where
 mem:=by simp
 obj:=λi h st b hb=>by
  have e:b=it:=by simpa using hb
  subst e
  exact⟨_,st,λv z=>by
   have z':Data.fields _=Data.cell v:=z
   cases z'⟩
 keep:=λi h h' st k=>k it (by simp) _ st
 item:=by
  intro X hP hw hK hc i pins s σ H E I hf st hg
  subst hP hw hK
  obtain⟨f0,f1,f2,f3,f4,f5⟩:=hf it (by simp)
  have W:=Walks.range (prog:=X.prog) (w:=X.w) (I.ok.hd hc) it lo 1 n
  refine W.item i s _ _ hg st λv h' tk hv st' kk=>?_
  obtain⟨t,rfl⟩:=hv
  have I1:Inv X pins σ H {s with heap:=h',toks:=tk} :=I.turned (λb o hb e=>kk b o (by simpa using hb) e) f0 f1 f3 f4 f5
  refine⟨_,rfl,qy (s:={s with heap:=h',toks:=tk}) (n:= "range_iterator") st' rfl rfl (by decide) ⟨.int (lo+i),H,I1,⟨t,?_⟩,⟨rfl,rfl⟩,st',λb hb=>(hf b hb).1⟩⟩
  rw[Int.mul_one]
 done:=by
  intro X hP hw hK hc i pins s σ H E I hf st hg
  subst hP hw hK
  obtain⟨f0,f1,f2,f3,f4,f5⟩:=hf it (by simp)
  exact wpAny_pyNext_range_end (I.ok.hd hc) st (by have:n<=i:=hg;omega) λh' eb=>⟨rfl,I.turned (t':=s.toks) (λb o hb e=>eb b o hb e) f0 f1 f3 f4 f5⟩
 self:=λ_ _ _ _ _ st h=>wpAny_pyIter_rangeiter st h
section
variable {X:Cx}{tg:Expr}
def wA (K:PySem.W.Frag)(tl:TE):TI:=λσ H R=>tl σ H λx H1=>∃ a,x = .ref a/\(∃ xs,SqL K H1 a xs)/\R (Itl K a) H1
theorem eD {l:Expr}{tl:TE}(hl:PE X l tl):PI X tg l (wA X.K tl):=by
 intro pins s σ H R I h
 refine thn (hl pins s σ H _ I h) λv s1 ⟨x,H1,I1,r1,q1⟩=>?_
 obtain⟨a,e,⟨xs,hq⟩,q⟩:=q1
 subst e
 cases r1
 obtain⟨its,rv,p,hz⟩:=I1.list hq
 refine wpAny_pyIter_list p.isList ?_
 refine⟨s1.heap.objs.size,[s1.heap.objs.size],_,_,H1,rfl,I1.kept (t':=s1.toks) λb o e=>ak _ e,qN a _,⟨_,aV _ rfl,rfl,rfl⟩,λb hb=>?_,q⟩
 have e:b=s1.heap.objs.size:=by simpa using hb
 subst e
 exact I1.tT (ah _) (I1.hok.fresh (ah _))
theorem rL {pins:List (Addr×Obj)}{σ:St}{H:Hp}{s:Shared}{R:It->Hp->Prop}{E:Value->Shared->Prop}{lo hi:Int}{t u v:Tok}{tk:Nat}(I:Inv X pins σ H s)(h1: -(2 ^ 62)<=lo)(h2:lo<2 ^ 62)(h3: -(2 ^ 62)<=hi)(h4:hi<2 ^ 62)
  (q:R (Itr lo (hi-lo).toNat) H):wpAny (model X.prog X.w) X.A (pyIter (.ref s.heap.objs.size)) (PIE X pins σ tg R) E {s with heap:=s.heap.push {cls:=.type "range",data:=.fields #[.int lo t,.int hi u,.int 1 v]},toks:=tk} :=by
 refine wpAny_pyIter_range (IsRange.new ..) (small_one h1 h2 h3 h4) ?_
 have I1:Inv X pins σ H {s with heap:=s.heap.push {cls:=.type "range",data:=.fields #[.int lo t,.int hi u,.int 1 v]},toks:=tk} :=I.kept λb o e=>ak _ e
 refine⟨(s.heap.push {cls:=.type "range",data:=.fields #[.int lo t,.int hi u,.int 1 v]}).objs.size,[(s.heap.push {cls:=.type "range",data:=.fields #[.int lo t,.int hi u,.int 1 v]}).objs.size],_,_,H,rfl,
  I1.kept (t':=tk) λb o e=>ak _ e,pA _ lo (hi-lo).toNat,?_,λb hb=>?_,q⟩
 ·have e1:lo+((0:Nat):Int)*1=lo:=by simp
  have e2:(((hi-lo).toNat:Nat):Int)-((0:Nat):Int)=Builtin.Range.rangeSize lo hi 1:=by rw[rangeSize_one];split<;>omega
  show IsRangeIter _ _ (lo+((0:Nat):Int)*1) ((((hi-lo).toNat:Nat):Int)-((0:Nat):Int)) 1
  rw[e1,e2]
  exact aV _ rfl
 ·have e:b=(s.heap.push {cls:=.type "range",data:=.fields #[.int lo t,.int hi u,.int 1 v]}).objs.size:=by simpa using hb
  subst e
  exact I1.tT (ah _) (I1.hok.fresh (ah _))
def wz (ta:TA):TI:=λσ H R=>ta σ H λvs H1=>∃ j:Int,vs = [.int j]/\ -(2 ^ 62)<=j/\j<2 ^ 62/\R (Itr 0 j.toNat) H1
theorem ij {a:Expr}{ta:TA}{p pos:Pos}(hg:Gl X "range")(hm:X.mg "range" = none)(ha:PA X [a] ta)(hs:starEach [a] X.env = [(false,eval a X.env)]:=by rfl):PI X tg (.Call (.Name "range" p) [a] [] pos) (wz ta):=by
 intro pins s σ H R I h
 refine Call_ (lS I hg hm boot_range (cz (thn (ha pos pins s σ H _ I h) λus s1 ⟨vs,H1,I1,r1,q1⟩=>?_) hs rfl))
 obtain⟨j,e,q1,q2,q⟩:=q1
 subst e
 cases r1 with
 |cons r rr=>
  cases rr
  obtain⟨t,rfl⟩:=r
  exact call_range_1 (rL I1 (by omega) (by omega) q1 q2 (by simpa using q))
def xm (wi:TI)(g:TG)(tb:TS):TS:=λD σ H=>wi σ H λJ H1=>∃ W:Nat->Nat->St->Hp->Prop,(∃ m,W 0 m σ H1)/\∀ i m σ H,W i m σ H->
 (J.stop i H/\D.nx σ H)\/(J.go i H/\∃ N:St->Hp->Prop,(∀ σ' H',N σ' H'->∃ m',m'<m/\W (i+1) m' σ' H')/\∀ x H',J.yld i H x H'->g x σ H' λσ2 H2=>tb {D with nx:=N,ct:=N,bk:=D.nx} σ2 H2)
def kC (fp:List Addr)(h:Heap):List (Addr×Obj):=fp.filterMap λb=>(h.get? b).map λo=>(b,o)
theorem fX {fp:List Addr}{h:Heap}{b:Addr}{o:Obj}(hb:b∈fp)(e:h.get? b=some o):(b,o)∈kC fp h:=List.mem_filterMap.mpr ⟨b,hb,by rw[e];rfl⟩
theorem qW {fp:List Addr}{h:Heap}{p:Addr×Obj}(hp:p∈kC fp h):p.1∈fp/\h.get? p.1=some p.2:=by
 obtain⟨b,hb,e⟩:=List.mem_filterMap.mp hp
 cases q:h.get? b with
 |none=>rw[q]at e;cases e
 |some o=>
  rw[q]at e
  have e':(b,o)=p:=bq e
  subst e'
  exact⟨hb,q⟩
theorem Inv.pinned {pins:List (Addr×Obj)}{σ:St}{H:Hp}{s:Shared}{fp:List Addr}(I:Inv X pins σ H s)(hf:∀ b∈fp,iO X pins H b)(ho:∀ b∈fp,∃ o,s.heap.get? b=some o/\∀ v,o.data≠ .cell v):Inv X (pins++kC fp s.heap) σ H s:=
 I.ql λp hp=>(aI.mp hp).elim (λz=>I.pin p (aH _ z)) λz=>by
  obtain⟨hb,e⟩:=qW z
  obtain⟨f0,f1,f2,_⟩:=hf p.1 hb
  obtain⟨o,e',d⟩:=ho p.1 hb
  rw[e]at e';cases e'
  exact⟨e,f0,f1,f2,d⟩
theorem Inv.iP {pins pl:List (Addr×Obj)}{σ:St}{H:Hp}{s:Shared}(I:Inv X (pins++pl) σ H s):Inv X pins σ H s:=I.ql λp hp=>I.pin p (aH _ (bA _ hp))
theorem iz {iter:Expr}{body:List Stmt}{wi:TI}{g:TG}{tb:TS}{pos:Pos}(hp:PassesOwn (model X.prog X.w) X.A X.env X.xe)(hc:X.calm=true)(hi:PI X tg iter wi)(hg:PG X tg g)(hb:PSs X body tb)
  (hs:∀ x,foldedSetIterable iter X.env x=pure x:=by intro _;rfl):PS X (.For tg iter body [] pos) (xm wi g tb):=by
 intro pins s σ H D I h
 refine wpAny_For (thn (hi pins s σ H _ I h) λv s1 h1=>thn h1 λitv s2 h2=>?_) hs
 obtain⟨it,fp,tn,J,H2,e,I2,T,st2,f2,W,⟨m0,w0⟩,turn⟩:=h2
 subst e
 have uz:∀ {H':Hp},(∀ b∈fp,H' b=none)->∀ b∈fp,iO X pins H' b:=λhn b hb=>⟨hn b hb,(f2 b hb).2⟩
 refine codeAny_forLoop_any (λn s'=>∃ i σ' H',Inv X pins σ' H' s'/\tn i s'.heap/\(∀ b∈fp,H' b=none)/\W i n σ' H') ?_ m0 ⟨0,σ,H2,I2,st2,λb hb=>(f2 b hb).1,w0⟩
 rintro n s3 ⟨i,σ3,H3,I3,st3,fr3,w3⟩
 rcases turn i n σ3 H3 w3 with⟨stop,qn⟩|⟨go,N,hN,step⟩
 ·refine cE hp (thn (T.done X rfl rfl rfl hc i pins s3 σ3 H3 X.xe I3 (uz fr3) st3 stop) λr s4 ⟨hr,I4⟩=>?_)
  subst hr
  exact wpAny_execs_nil ⟨σ3,H3,I4,qn⟩
 ·refine cE hp (thn (T.item X rfl rfl rfl hc i pins s3 σ3 H3 X.xe I3 (uz fr3) st3 go) λr s4 ⟨u,hr,h4⟩=>?_)
  subst hr
  refine cE hp (thn h4 λ_ s5 ⟨x,H5,I5,r5,y5,st5,fr5⟩=>?_)
  have I5':=I5.pinned (uz fr5) (T.obj _ _ st5)
  refine cE hp (thn (hg _ s5 σ3 H5 x u _ I5' r5 (step x H5 y5)) λ_ s6 ⟨σ6,H6,I6,q6⟩=>?_)
  refine cE hp (thn (hb _ s6 σ6 H6 _ I6 q6) λf s7 q7=>?_)
  have again:∀ {σ7:St}{H7:Hp},Inv X (pins++kC fp s5.heap) σ7 H7 s7->N σ7 H7->∃ m,m<n/\∃ i σ' H',Inv X pins σ' H' s7/\tn i s7.heap/\(∀ b∈fp,H' b=none)/\W i m σ' H':=λ{σ7 H7} I7 n7=>by
   obtain⟨m',hm,w7⟩:=hN σ7 H7 n7
   refine⟨m',hm,i+1,σ7,H7,I7.iP,T.keep _ _ _ st5 λb hb o e=>(I7.pin (b,o) (aH _ (aH _ (fX hb e)))).1,λb hb=>?_,w7⟩
   obtain⟨o,e,d⟩:=T.obj _ _ st5 b hb
   exact(I7.pin (b,o) (aH _ (aH _ (fX hb e)))).2.1
  cases f with
  |next=>obtain⟨σ7,H7,I7,n7⟩:=q7;exact again I7 n7
  |cont=>obtain⟨σ7,H7,I7,n7⟩:=q7;exact again I7 n7
  |brk=>obtain⟨σ7,H7,I7,q7⟩:=q7;exact⟨σ7,H7,I7.iP,q7⟩
  |ret v=>obtain⟨x7,σ7,H7,I7,r7,q7⟩:=q7;exact⟨x7,σ7,H7,I7.iP,r7,q7⟩
end
theorem kg {K:PySem.W.Frag}{a:Addr}{xs:List V}{g:TG}{tb:TS}{D:Ends}{σ:St}{H:Hp}(Pv:Nat->St->Hp->Prop)(h0:Pv 0 σ H)(hl:∀ i σ H,i<=xs.length->Pv i σ H->SqL K H a xs)
  (hs:∀ i x σ H,xs[i]? = some x->Pv i σ H->g x σ H λσ2 H2=>tb {D with nx:=Pv (i+1),ct:=Pv (i+1),bk:=D.nx} σ2 H2) (hd:∀ σ H,Pv xs.length σ H->D.nx σ H):
  ∃ W:Nat->Nat->St->Hp->Prop,(∃ m,W 0 m σ H)/\∀ i m σ H,W i m σ H->
   ((Itl K a).stop i H/\D.nx σ H)\/((Itl K a).go i H/\∃ N:St->Hp->Prop,(∀ σ' H',N σ' H'->∃ m',m'<m/\W (i+1) m' σ' H')/\∀ x H',(Itl K a).yld i H x H'->g x σ H' λσ2 H2=>tb {D with nx:=N,ct:=N,bk:=D.nx} σ2 H2):=by
 refine⟨λi m σ H=>m=xs.length-i/\i<=xs.length/\Pv i σ H,⟨xs.length,by simp,aQ _,h0⟩,?_⟩
 rintro i m σ H ⟨rfl,hi,p⟩
 have q:=hl i σ H hi p
 by_cases hlt:i<xs.length
 ·refine .inr ⟨⟨xs,xs[i],q,by simp[hlt]⟩,Pv (i+1),λσ' H' p'=>⟨xs.length-(i+1),by omega,rfl,hlt,p'⟩,λx H' y=>?_⟩
  obtain⟨e,y⟩:=y
  subst e
  exact hs i x σ _ (y xs q) p
 ·have e:i=xs.length:=by omega
  subst e
  exact .inl ⟨⟨xs,q,ah _⟩,hd σ H p⟩
theorem ip {lo:Int}{n:Nat}{g:TG}{tb:TS}{D:Ends}{σ:St}{H:Hp}(Pv:Nat->St->Hp->Prop)(h0:Pv 0 σ H)
  (hs:∀ i σ H,i<n->Pv i σ H->g (.int (lo+i)) σ H λσ2 H2=>tb {D with nx:=Pv (i+1),ct:=Pv (i+1),bk:=D.nx} σ2 H2) (hd:∀ σ H,Pv n σ H->D.nx σ H):
  ∃ W:Nat->Nat->St->Hp->Prop,(∃ m,W 0 m σ H)/\∀ i m σ H,W i m σ H->
   ((Itr lo n).stop i H/\D.nx σ H)\/((Itr lo n).go i H/\∃ N:St->Hp->Prop,(∀ σ' H',N σ' H'->∃ m',m'<m/\W (i+1) m' σ' H')/\∀ x H',(Itr lo n).yld i H x H'->g x σ H' λσ2 H2=>tb {D with nx:=N,ct:=N,bk:=D.nx} σ2 H2):=by
 refine⟨λi m σ H=>m=n-i/\i<=n/\Pv i σ H,⟨n,by simp,aQ _,h0⟩,?_⟩
 rintro i m σ H ⟨rfl,hi,p⟩
 by_cases hlt:i<n
 ·refine .inr ⟨hlt,Pv (i+1),λσ' H' p'=>⟨n-(i+1),by omega,rfl,hlt,p'⟩,λx H' y=>?_⟩
  obtain⟨e,y⟩:=y
  subst e y
  exact hs i σ _ hlt p
 ·have e:i=n:=by omega
  subst e
  exact .inl ⟨ah _,hd σ H p⟩
abbrev R2:=V->V->Hp->VK->Prop
def OpR (X:Cx)(f:Value->Value->Sem Value)(r:R2):Prop:=
 ∀ (pins:List (Addr×Obj)) (s:Shared) (σ:St) (H:Hp) (x y:V) (v u:Value) (Q:VK),Inv X pins σ H s->RelV x v->RelV y u->r x y H Q->
  wpAny (model X.prog X.w) X.A (f v u) (EP X pins σ Q) X.xe s
def UnR (X:Cx)(f:Value->Sem Value)(r:V->Hp->VK->Prop):Prop:=
 ∀ (pins:List (Addr×Obj)) (s:Shared) (σ:St) (H:Hp) (x:V) (v:Value) (Q:VK),Inv X pins σ H s->RelV x v->r x H Q->
  wpAny (model X.prog X.w) X.A (f v) (EP X pins σ Q) X.xe s
def fQ (X:Cx)(f:Value)(r:List V->Hp->VK->Prop):Prop:=
 ∀ (pins:List (Addr×Obj)) (s:Shared) (σ:St) (H:Hp) (xs:List V) (us:List Value) (Q:VK),Inv X pins σ H s->Vals xs us->r xs H Q->
  wpAny (model X.prog X.w) X.A (call f us) (EP X pins σ Q) X.xe s
def AJ (X:Cx)(r:V->Hp->(Bool->Hp->Prop)->Prop):Prop:=
 ∀ (pins:List (Addr×Obj)) (s:Shared) (σ:St) (H:Hp) (x:V) (v:Value) (Q:Bool->Hp->Prop),Inv X pins σ H s->RelV x v->r x H Q->
  wpAny (model X.prog X.w) X.A (truthy v) (TP X pins σ Q) X.xe s
def tOp (r:R2)(ta tb:TE):TE:=λσ H Q=>ta σ H λx H1=>tb σ H1 λy H2=>r x y H2 Q
def tUn (r:V->Hp->VK->Prop)(ta:TE):TE:=λσ H Q=>ta σ H λx H1=>r x H1 Q
def rI (C:Int->Int->Prop)(g:Int->Int->V):R2:=λx y H Q=>∃ i j,x = .int i/\y = .int j/\C i j/\Q (g i j) H
def rI0 (g:Int->Int->V):R2:=λx y H Q=>∃ i j,x = .int i/\y = .int j/\Q (g i j) H
def rU (g:Int->V):V->Hp->VK->Prop:=λx H Q=>∃ i,x = .int i/\Q (g i) H
section
variable {X:Cx}{a b c:Expr}{ta tb tc:TE}{pos:Pos}
theorem vy (ha:PE X a ta)(hb:PE X b tb){pins:List (Addr×Obj)}{s:Shared}{σ:St}{H:Hp}{R:V->V->Hp->Prop}(I:Inv X pins σ H s)
  (h:ta σ H λx H1=>tb σ H1 λy H2=>R x y H2) {Q:Value->Shared->Prop}{f:Value->Value->Sem Value}
  (hf:∀ v u s2 x y H2,Inv X pins σ H2 s2->RelV x v->RelV y u->R x y H2->wpAny (model X.prog X.w) X.A (f v u) Q X.xe s2):
  wpAny (model X.prog X.w) X.A (eval a X.env) (λv s₁=>wpAny (model X.prog X.w) X.A (eval b X.env) (λu s₂=>wpAny (model X.prog X.w) X.A (f v u) Q X.xe s₂) X.xe s₁) X.xe s:=by
 refine thn (ha pins s σ H _ I h) λv s1 ⟨x,H1,I1,r1,q1⟩=>?_
 refine thn (hb pins s1 σ H1 _ I1 q1) λu s2 ⟨y,H2,I2,r2,q2⟩=>?_
 exact hf v u s2 x y H2 I2 r1 r2 q2
theorem cY {op:Operator}{r:R2}(ho:OpR X (binaryOp op) r)(ha:PE X a ta)(hb:PE X b tb):PE X (.BinOp a op b pos) (tOp r ta tb):=by
 intro pins s σ H Q I h
 exact wpAny_BinOp (vy ha hb I h λv u s2 x y H2 I2 rx ry q=>ho pins s2 σ H2 x y v u Q I2 rx ry q)
theorem mJ {op:UnaryOp}{r:V->Hp->VK->Prop}(ho:UnR X (unaryOp op) r)(ha:PE X a ta):PE X (.UnaryOp op a pos) (tUn r ta):=by
 intro pins s σ H Q I h
 exact UnaryOp_ (thn (ha pins s σ H _ I h) λv s1 ⟨x,H1,I1,r1,q1⟩=>ho pins s1 σ H1 x v Q I1 r1 q1)
theorem opI {f:Value->Value->Sem Value}{C:Int->Int->Prop}{g:Int->Int->Int}
  (rule:∀ (i j:Int) (t u:Tok) (s:Shared) (Q:Value->Shared->Prop) (E:Value->Shared->Prop),C i j->Q (.int (g i j) s.toks) {s with toks:=s.toks+1} ->wpAny (model X.prog X.w) X.A (f (.int i t) (.int j u)) Q E s):
  OpR X f (rI C λi j=>.int (g i j)):=by
 intro pins s σ H x y v u Q I rx ry h
 obtain⟨i,j,rfl,rfl,hc,q⟩:=h
 obtain⟨t,rfl⟩:=rx
 obtain⟨t',rfl⟩:=ry
 exact rule i j t t' s _ _ hc ⟨.int (g i j),H,I.tok _,⟨_,rfl⟩,q⟩
theorem wc {f:Value->Value->Sem Value}{g:Int->Int->Int}
  (rule:∀ (i j:Int) (t u:Tok) (s:Shared) (Q:Value->Shared->Prop) (E:Value->Shared->Prop),Q (.int (g i j) s.toks) {s with toks:=s.toks+1} ->wpAny (model X.prog X.w) X.A (f (.int i t) (.int j u)) Q E s):
  OpR X f (rI0 λi j=>.int (g i j)):=by
 intro pins s σ H x y v u Q I rx ry h
 obtain⟨i,j,rfl,rfl,q⟩:=h
 obtain⟨t,rfl⟩:=rx
 obtain⟨t',rfl⟩:=ry
 exact rule i j t t' s _ _ ⟨.int (g i j),H,I.tok _,⟨_,rfl⟩,q⟩
def AN (i j:Int):Prop:=0<j/\j<1073741824
def AM (i j:Int):Prop:=0<=j/\j<=1000000/\i.natAbs<2 ^ 64
def vJ (i j:Int):Prop:=(-(2 ^ 64)<i/\i<2 ^ 64)\/(-(2 ^ 64)<j/\j<2 ^ 64)
theorem vJ.ok {i j:Int}(h:vJ i j):IntMulOk i j:=by
 rcases h with⟨h1,h2⟩|⟨h1,h2⟩
 ·exact .of_left (intBits_le_64 h1 h2)
 ·exact .of_right (intBits_le_64 h1 h2)
theorem eN:OpR X (binaryOp .Add) (rI0 λi j=>.int (i+j)):=wc λ_ _ _ _ _ _ _ q=>add_int q
theorem pK:OpR X (binaryOp .Sub) (rI0 λi j=>.int (i-j)):=wc λ_ _ _ _ _ _ _ q=>sub_int q
theorem fW:OpR X (binaryOp .Mult) (rI vJ λi j=>.int (i*j)):=opI λ_ _ _ _ _ _ _ hc q=>mul_int q hc.ok
theorem ei:OpR X (binaryOp .FloorDiv) (rI AN λi j=>.int (i/j)):=opI λi j _ _ _ _ _ hc q=>by
 have h1:(0:Int)<j:=hc.1
 have h2:j<1073741824:=hc.2
 exact floordiv_int (by omega) (by rw[Int.fdiv_eq_ediv_of_nonneg i (by omega)];exact q) (.inl (PyProof.noPylong_small (by omega)))
theorem ef:OpR X (binaryOp .Mod) (rI (λ_ j=>0<j) λi j=>.int (i%j)):=opI λi j _ _ _ _ _ hc q=>by
 have h1:(0:Int)<j:=hc
 exact mod_int' (by omega) (by rw[Int.fmod_eq_emod_of_nonneg i (by omega)];exact q)
theorem pL:OpR X (binaryOp .Pow) (rI AM λi j=>.int (i ^ j.toNat)):=opI λ_ _ _ _ _ _ _ hc q=>pow_int_small hc.1 hc.2.1 hc.2.2 q
theorem unI {f:Value->Sem Value}{g:Int->Int}
  (rule:∀ (i:Int) (t:Tok) (s:Shared) (Q:Value->Shared->Prop) (E:Value->Shared->Prop),Q (.int (g i) s.toks) {s with toks:=s.toks+1} ->wpAny (model X.prog X.w) X.A (f (.int i t)) Q E s):
  UnR X f (rU λi=>.int (g i)):=by
 intro pins s σ H x v Q I rx h
 obtain⟨i,rfl,q⟩:=h
 obtain⟨t,rfl⟩:=rx
 exact rule i t s _ _ ⟨.int (g i),H,I.tok _,⟨_,rfl⟩,q⟩
theorem ky:UnR X (unaryOp .USub) (rU λi=>.int (-i)):=unI λ_ _ _ _ _ q=>neg_int q
end
def vX:V->V->Bool
 |.non,.non=>true |.non,.int _=>true |.int _,.non=>true |.non,.bl _=>true |.bl _,.non=>true |.non,.str _=>true |.str _,.non=>true
 |.int _,.int _=>true |.bl _,.bl _=>true |.str _,.str _=>true |.byt _,.byt _=>true
 |.int _,.str _=>true |.str _,.int _=>true |.bl _,.str _=>true |.str _,.bl _=>true
 |_,_=>false
def rEq:R2:=λx y H Q=>vX x y=true/\Q (.bl (decide (x=y))) H
def rNe:R2:=λx y H Q=>vX x y=true/\Q (.bl (!decide (x=y))) H
theorem qB {i j:Int} :decide (V.int i=V.int j)=(i==j):=by
 rw[bH]
 simp
theorem sD {i j:Bool} :decide (V.bl i=V.bl j)=(i==j):=by
 rw[bH]
 simp
theorem qA {i j:Str} :decide (V.str i=V.str j)=(i==j):=by
 rw[bH]
 simp
theorem qC {i j:Array UInt8} :decide (V.byt i=V.byt j)=(i.toList==j.toList):=by
 rw[bH]
 cases i
 cases j
 simp
section
variable {X:Cx}{a b c:Expr}{ta tb tc:TE}{pos:Pos}
theorem dH {pins:List (Addr×Obj)}{σ:St}{H:Hp}{s:Shared}{Q:VK}{k k':Bool}(I:Inv X pins σ H s)(q:Q (.bl k) H)(e:k=k'):EP X pins σ Q (.bool k') s:=by
 subst e
 exact⟨.bl k,H,I,rfl,q⟩
theorem qs:OpR X (compareOp .Eq) rEq:=by
 intro pins s σ H x y v u Q I rx ry h
 obtain⟨hs,q⟩:=h
 cases x with
 |non=>
  cases rx
  cases y with
  |non=>cases ry;exact PySem.EqNone.eq_none_none (dH I q (by simp))
  |bl j=>cases ry;exact PySem.EqNone.eq_none_bool (dH I q (by simp))
  |int j=>obtain⟨t',rfl⟩:=ry;exact PySem.EqNone.eq_none_int (dH I q (by simp))
  |str j=>obtain⟨t',rfl⟩:=ry;exact PySem.EqNone.eq_none_str (dH I q (by simp))
  |_=>exact absurd (show false=true from hs) aA
 |bl i=>
  cases rx
  cases y with
  |non=>cases ry;exact PySem.EqNone.eq_bool_none (dH I q (by simp))
  |bl j=>cases ry;exact eq_bool (dH I q sD)
  |str j=>obtain⟨t',rfl⟩:=ry;exact PySem.EqMixed.eq_bool_str (dH I q (by simp))
  |_=>exact absurd (show false=true from hs) aA
 |int i=>
  obtain⟨t,rfl⟩:=rx
  cases y with
  |non=>cases ry;exact PySem.EqNone.eq_int_none (dH I q (by simp))
  |int j=>obtain⟨t',rfl⟩:=ry;exact eq_int (dH I q qB)
  |str j=>obtain⟨t',rfl⟩:=ry;exact PySem.EqMixed.eq_int_str (dH I q (by simp))
  |_=>exact absurd (show false=true from hs) aA
 |str i=>
  obtain⟨t,rfl⟩:=rx
  cases y with
  |non=>cases ry;exact PySem.EqNone.eq_str_none (dH I q (by simp))
  |bl j=>cases ry;exact PySem.EqMixed.eq_str_bool (dH I q (by simp))
  |int j=>obtain⟨t',rfl⟩:=ry;exact PySem.EqMixed.eq_str_int (dH I q (by simp))
  |str j=>obtain⟨t',rfl⟩:=ry;exact eq_str (dH I q qA)
  |_=>exact absurd (show false=true from hs) aA
 |byt i=>
  obtain⟨t,rfl⟩:=rx
  cases y with
  |byt j=>obtain⟨t',rfl⟩:=ry;exact PySem.W.eq_bytes (dH I q qC)
  |_=>exact absurd (show false=true from hs) aA
 |_=>cases y<;>exact absurd (show false=true from hs) aA
theorem wb:OpR X (compareOp .NotEq) rNe:=by
 intro pins s σ H x y v u Q I rx ry h
 obtain⟨hs,q⟩:=h
 cases x with
 |non=>
  cases rx
  cases y with
  |non=>cases ry;exact PySem.EqNone.ne_none_none (dH I q (by simp))
  |bl j=>cases ry;exact PySem.EqNone.ne_none_bool (dH I q (by simp))
  |int j=>obtain⟨t',rfl⟩:=ry;exact PySem.EqNone.ne_none_int (dH I q (by simp))
  |str j=>obtain⟨t',rfl⟩:=ry;exact PySem.EqNone.ne_none_str (dH I q (by simp))
  |_=>exact absurd (show false=true from hs) aA
 |bl i=>
  cases rx
  cases y with
  |non=>cases ry;exact PySem.EqNone.ne_bool_none (dH I q (by simp))
  |bl j=>cases ry;exact ne_bool (dH I q (bM not sD))
  |str j=>obtain⟨t',rfl⟩:=ry;exact PySem.EqMixed.ne_bool_str (dH I q (by simp))
  |_=>exact absurd (show false=true from hs) aA
 |int i=>
  obtain⟨t,rfl⟩:=rx
  cases y with
  |non=>cases ry;exact PySem.EqNone.ne_int_none (dH I q (by simp))
  |int j=>obtain⟨t',rfl⟩:=ry;exact ne_int (dH I q (bM not qB))
  |str j=>obtain⟨t',rfl⟩:=ry;exact PySem.EqMixed.ne_int_str (dH I q (by simp))
  |_=>exact absurd (show false=true from hs) aA
 |str i=>
  obtain⟨t,rfl⟩:=rx
  cases y with
  |non=>cases ry;exact PySem.EqNone.ne_str_none (dH I q (by simp))
  |bl j=>cases ry;exact PySem.EqMixed.ne_str_bool (dH I q (by simp))
  |int j=>obtain⟨t',rfl⟩:=ry;exact PySem.EqMixed.ne_str_int (dH I q (by simp))
  |str j=>obtain⟨t',rfl⟩:=ry;exact ne_str (dH I q (bM not qA))
  |_=>exact absurd (show false=true from hs) aA
 |byt i=>
  obtain⟨t,rfl⟩:=rx
  cases y with
  |byt j=>obtain⟨t',rfl⟩:=ry;exact PySem.W.ne_bytes (dH I q (bM not qC))
  |_=>exact absurd (show false=true from hs) aA
 |_=>cases y<;>exact absurd (show false=true from hs) aA
theorem qT:OpR X (compareOp .In) (λx y H Q=>∃ i j,x = .str i/\y = .str j/\Q (.bl (!(Builtin.Str.occurrences j i 0 j.length 1).isEmpty)) H):=by
 intro pins s σ H x y v u Q I rx ry h
 obtain⟨i,j,rfl,rfl,q⟩:=h
 obtain⟨t,rfl⟩:=rx
 obtain⟨t',rfl⟩:=ry
 exact in_str (dH I q rfl)
theorem gA (b:Expr){op:CmpOp}(h:op≠ .In:=by decide)(h2:op≠ .NotIn:=by decide):behindInMarks op b=false:=by
 have e1:(op==CmpOp.In)=false:=by cases op<;>first |rfl |exact absurd rfl h
 have e2:(op==CmpOp.NotIn)=false:=by cases op<;>first |rfl |exact absurd rfl h2
 cases b<;>simp[behindInMarks,e1,e2]
theorem qp {op:CmpOp}{r:R2}(ho:OpR X (compareOp op) r)(ha:PE X a ta)(hb:PE X b tb)(hm:behindInMarks op b=false):PE X (.Compare a [op] [b] pos) (tOp r ta tb):=by
 intro pins s σ H Q I h
 exact wpAny_Compare1 (vy ha hb I h λv u s2 x y H2 I2 rx ry q=>ho pins s2 σ H2 x y v u Q I2 rx ry q) hm
def vO (t:TE):TT:=λσ H Q=>t σ H λx H'=>∃ k,x = .bl k/\Q k H'
theorem eg {op:CmpOp}{r:R2}(ho:OpR X (compareOp op) r)(ha:PE X a ta)(hb:PE X b tb)(hm:behindInMarks op b=false):PT X (.Compare a [op] [b] pos) (vO (tOp r ta tb)):=by
 intro pins s σ H Q I h
 refine wpAny_isTrue_Compare1 (thn (ha pins s σ H _ I h) λv s1 ⟨x,H1,I1,r1,q1⟩=>thn (hb pins s1 σ H1 _ I1 q1) λu s2 ⟨y,H2,I2,r2,q2⟩=>
  thn (ho pins s2 σ H2 x y v u _ I2 r1 r2 q2) λc s3 ⟨z,H3,I3,r3,k,e,q3⟩=>?_) hm
 subst e
 cases r3
 exact bS ⟨H3,I3,q3⟩
def w4 (K:PySem.W.Frag)(x:V)(H:Hp)(k:Bool):Prop:=
 match x with
 |.non=>k=false
 |.bl b=>k=b
 |.int i=>k=(i !=0)
 |.str y=>y.length<=sizeLine/\k=((y.length:Int) !=0)
 |.byt y=>y.size<=sizeLine/\k=((y.size:Int) !=0)
 |.ref p=>(∃ xs,SqL K H p xs/\k = !xs.isEmpty)\/(∃ xs,SqT K H p xs/\k = !xs.isEmpty)\/∃ kvs,H p=some (.dK kvs)/\k = !kvs.isEmpty
 |_=>False
theorem pY {κ:Type}{kvs:List (κ×V)}{vs:List (κ×Value)}(r:KV kvs vs):(!vs.isEmpty) = !kvs.isEmpty:=by
 cases r<;>rfl
theorem lV {xs:List V}{its:List Value}(r:Vals xs its):(!its.toArray.isEmpty) = !xs.isEmpty:=by
 cases r<;>simp
theorem kG:(sizeLine:Nat)<2 ^ 63:=by rw[aO];decide
theorem ur:AJ X (λx H Q=>∃ k,w4 X.K x H k/\Q k H):=by
 intro pins s σ H x v Q I rx h
 obtain⟨k,e,q⟩:=h
 have hl:=kG
 have hs:sizeLine=16777216:=aO
 cases x with
 |non=>
  cases rx
  have e':k=false:=e
  subst e'
  exact truthy_none ⟨H,I,q⟩
 |bl b=>
  cases rx
  have e':k=b:=e
  subst e'
  exact bS ⟨H,I,q⟩
 |int i=>
  obtain⟨t,rfl⟩:=rx
  have e':k=(i !=0):=e
  subst e'
  exact PySem.P.truthy_int ⟨H,I,q⟩
 |str y=>
  obtain⟨t,rfl⟩:=rx
  obtain⟨hy,e'⟩:y.length<=sizeLine/\k=((y.length:Int) !=0):=e
  subst e'
  exact PySem.P.truthy_str (by omega) ⟨H,I.tok _,q⟩
 |byt y=>
  obtain⟨t,rfl⟩:=rx
  obtain⟨hy,e'⟩:y.size<=sizeLine/\k=((y.size:Int) !=0):=e
  subst e'
  exact PySem.W.truthy_bytes (by omega) ⟨H,I.tok _,q⟩
 |ref p=>
  cases rx
  have e':(∃ xs,SqL X.K H p xs/\k = !xs.isEmpty)\/(∃ xs,SqT X.K H p xs/\k = !xs.isEmpty)\/∃ kvs,H p=some (.dK kvs)/\k = !kvs.isEmpty:=e
  rcases e' with⟨xs,hx,e'⟩|⟨xs,hx,e'⟩|⟨kvs,hx,e'⟩
  ·subst e'
   obtain⟨its,r,pl,hz⟩:=I.list hx
   have hlen:=r.length
   exact wpAny_truthy_list pl.isList (by simp only[au];omega) ⟨H,I.tok _,by rw[lV r];exact q⟩
  ·subst e'
   obtain⟨its,r,pl,hz⟩:=I.tuple hx
   have hlen:=r.length
   exact truthy_tuple pl (by simp only[au];omega) ⟨H,I.tok _,by rw[lV r];exact q⟩
  ·subst e'
   obtain⟨hz,hS,vs,r,m⟩:kvs.length<=sizeLine/\(p==sysModules)=false/\∃ vs,KV kvs vs/\s.heap.DictOf (lx X.prog X.w) p vs:=I.hok p _ hx
   have hlen:kvs.length=vs.length:=Paired.length r
   exact wpAny_truthy_dict hS m (by omega) ⟨H,I.tok _,by rw[pY r];exact q⟩
 |_=>exact(show False from e).elim
theorem oy (ha:PE X a ta)(he:∀ whole,isTrue a X.env whole=(do let v <-whole;standAt a.pos;holding [v] (truthy v))):
  PT X a (λσ H Q=>ta σ H λx H'=>∃ k,w4 X.K x H' k/\Q k H'):=by
 intro pins s σ H Q I h
 exact isTrue_plain (thn (ha pins s σ H _ I h) λv s1 ⟨x,H1,I1,r1,q1⟩=>ur pins s1 σ H1 x v Q I1 r1 q1) (he _)
theorem iA:OpR X (binaryOp .Add) (λx y H Q=>∃ i j,x = .str i/\y = .str j/\i.length+j.length<=sizeLine/\Q (.str (i++j)) H):=by
 intro pins s σ H x y v u Q I rx ry h
 obtain⟨i,j,rfl,rfl,hz,q⟩:=h
 obtain⟨t,rfl⟩:=rx
 obtain⟨t',rfl⟩:=ry
 exact add_str (λt' tk=>⟨.str (i++j),H,I.tok _,⟨_,rfl⟩,q⟩) hz
theorem vals1 {x:V}{us:List Value}(r:Vals [x] us):∃ u,us = [u]/\RelV x u:=by
 cases r with
 |cons r1 r2=>cases r2;exact⟨_,rfl,r1⟩
theorem vals2 {x y:V}{us:List Value}(r:Vals [x,y] us):∃ u w',us = [u,w']/\RelV x u/\RelV y w':=by
 cases r with
 |cons r1 r2=>
  cases r2 with
  |cons r3 r4=>cases r4;exact⟨_,_,rfl,r1,r3⟩
theorem rm (hc:X.calm=true):fQ X (.builtin "max") (λxs H Q=>∃ i j,xs = [.int i,.int j]/\Q (.int (if j>i then j else i)) H):=by
 intro pins s σ H xs us Q I r h
 obtain⟨i,j,rfl,q⟩:=h
 obtain⟨u,w',rfl,⟨t,rfl⟩,⟨t',rfl⟩⟩:=vals2 r
 refine max_two_ints (I.ok.hd hc) λh' tk k=>⟨_,H,I.kept k,?_,q⟩
 by_cases hj:j>i
 ·rw[ar hj,ar hj];exact⟨_,rfl⟩
 ·rw[ao hj,ao hj];exact⟨_,rfl⟩
theorem rk (hc:X.calm=true):fQ X (.builtin "min") (λxs H Q=>∃ i j,xs = [.int i,.int j]/\Q (.int (if j<i then j else i)) H):=by
 intro pins s σ H xs us Q I r h
 obtain⟨i,j,rfl,q⟩:=h
 obtain⟨u,w',rfl,⟨t,rfl⟩,⟨t',rfl⟩⟩:=vals2 r
 refine min_two_ints (I.ok.hd hc) λh' tk k=>⟨_,H,I.kept k,?_,q⟩
 by_cases hj:j<i
 ·rw[ar hj,ar hj];exact⟨_,rfl⟩
 ·rw[ao hj,ao hj];exact⟨_,rfl⟩
theorem ro:fQ X (.type "int") (λxs H Q=>(∃ i,xs = [.int i]/\Q (.int i) H)\/∃ k,xs = [.bl k]/\Q (.int (if k then 1 else 0)) H):=by
 intro pins s σ H xs us Q I r h
 rcases h with⟨i,rfl,q⟩|⟨k,rfl,q⟩
 ·obtain⟨u,rfl,t,rfl⟩:=vals1 r
  exact call_int_int ⟨.int i,H,I,⟨_,rfl⟩,q⟩
 ·obtain⟨u,rfl,r1⟩:=vals1 r
  cases r1
  exact call_int_bool ⟨.int (if k then 1 else 0),H,I.tok _,⟨_,rfl⟩,q⟩
theorem nR:fQ X (.type "str") (λxs H Q=>∃ i,xs = [.int i]/\i.natAbs.log2<1920/\Q (.str (toString i)) H):=by
 intro pins s σ H xs us Q I r h
 obtain⟨i,rfl,hz,q⟩:=h
 obtain⟨u,rfl,t,rfl⟩:=vals1 r
 exact PySem.P.str_of_int hz ⟨.str _,H,I.tok _,⟨_,rfl⟩,q⟩
end
structure vF (h:Heap)(x dx C:Addr)(mA:Str->Option Value):Prop where
 obj:h.get? x=some (PySem.W.instObj C dx)
 ns:h.Ns1 dx mA
 ne:dx≠x
theorem qZ {h:Heap}{dx:Addr}{mA:Str->Option Value}(n:h.Ns1 dx mA):∃ od,h.get? dx=some od/\∀ name,PySem.W.lookIn name od=some (mA name):=by
 obtain⟨o,es,ep,ho,hd,hk,_,hm⟩:=n
 refine⟨o,ho,λname=>?_⟩
 have e:=hm name
 unfold nsFind findBy at e
 rw[<-Array.find?_toList]at e
 unfold PySem.W.lookIn
 rw[hd]
 dsimp only
 split
 ·rename_i y q
  rw[q]at e
  exact bM some e
 ·rename_i q
  rw[q]at e
  have a:es.toList.any (·.refKey)=false:=by
   rw[List.any_eq_false]
   intro y hy
   obtain⟨z,t,zq⟩:=hk y (Array.mem_toList_iff.mp hy)
   simp[DictEntry.refKey,zq]
  have a':¬es.toList.any (·.refKey)=true:=by rw[a];exact aA
  rw[ao a']
  exact bM some e
theorem vF.look {h:Heap}{x dx C:Addr}{mA:Str->Option Value}(I:vF h x dx C mA):∃ od,PySem.W.InstAt h x (PySem.W.instObj C dx) C (some od)/\∀ name,PySem.W.lookIn name od=some (mA name):=
 let ⟨od,ho,hl⟩:=qZ I.ns
 ⟨od,⟨I.obj,rfl,rfl,ho⟩,hl⟩
section
variable {prog:Program}{w:World}{A:Around}{E:Value->Shared->Prop}{s:Shared}{K:PySem.W.Frag}{x dx C f:Addr}{mA:Str->Option Value}{name:Str}{v:Value}
end
section
variable {P:Program}{w:World}{H H':Hp}{h h':Heap}{a C dx:Addr}{fs fs':List (Str×V)}
theorem tM (hok:HOk P w H h)(e:H a=some (.ins C dx fs)):∃ mA,vF h a dx C mA/\(∀ f,vC (fs.lookup f) (mA f))/\PySem.Within mA (fs.map (·.1))/\fs.length<=1000/\H dx=some (.own a):=by
 obtain⟨d,z,ne,ob,mA,n,r,q⟩:=(show fm P w H h a (.ins C dx fs) from hok a _ e)
 exact⟨mA,⟨ob,n,ne⟩,r,q,z,d⟩
end
structure Cls (K:PySem.W.Frag)(C:Addr):Prop where
 pg:PySem.W.plainGet K C Str.empty=true
 hd:PySem.W.hasDictIn K C=true
 po:PySem.W.plainOver K C=true
 sa:PySem.W.findIn K (.ref C) "__setattr__" = some (some (.builtin "object.__setattr__"))
theorem Cls.get {K:PySem.W.Frag}{C:Addr}(c:Cls K C)(f:Str):PySem.W.plainGet K C f=true:=c.pg
section
variable {X:Cx}{pins:List (Addr×Obj)}{σ:St}{H:Hp}{s:Shared}{a C dx:Addr}{fs:List (Str×V)}{f:Str}{v:V}{A:Around}{E:Value->Shared->Prop}
end
section
variable {X:Cx}{o e value:Expr}{f:Str}{pos pos' xb:Pos}{ta tv:TE}
end
section
variable {X:Cx}{pins:List (Addr×Obj)}{σ:St}{H:Hp}{s:Shared}{A:Around}{E:Value->Shared->Prop}{Q:Value->Shared->Prop}{c:Value}{b:Bool}
inductive ko (K:PySem.W.Frag) (H:Hp):V->Value->Prop where
 |non:ko K H .non (.type "NoneType")
 |bl (x:Bool):ko K H (.bl x) (.type "bool")
 |int (i:Int):ko K H (.int i) (.type "int")
 |str (x:Str):ko K H (.str x) (.type "str")
 |flt (x:UInt64):ko K H (.flt x) (.type "float")
 |lst {a:Addr}{xs:List V} (e:H a=some (.lst xs)):ko K H (.ref a) (.type "list")
 |frz {a:Addr}{o:Obj}{xs:List V} (e:H a=some (.frz o (.lst xs))):ko K H (.ref a) (.type "list")
 |tup {a:Addr}{xs:List V} (e:H a=some (.tup xs)):ko K H (.ref a) (.type "tuple")
 |dK {a:Addr}{kvs:List (Key×V)} (e:H a=some (.dK kvs)):ko K H (.ref a) (.type "dict")
 |dT {a:Addr}{kvs:List (List Key×V)} (e:H a=some (.dT kvs)):ko K H (.ref a) (.type "dict")
 |ins {a C dx:Addr}{fs:List (Str×V)} (e:H a=some (.ins C dx fs)) (cl:Cls K C) (ha:PySem.W.findIn K (.ref C) "__class__" = some (some (.builtin "object.__class__")))
   (hn:PySem.W.specialIn K (.builtin "object.__class__") "__get__" = some (some (.builtin "getset_descriptor.__get__"))) (htk:PySem.W.takesIn K (.builtin "object.__class__")=some true)
   (hm:PySem.W.mroIn K C (.type "object")=some true):ko K H (.ref a) (.ref C)
theorem q9 {x:V}{u t:Value}(I:Inv X pins σ H s)(rx:RelV x u)(ty:ko X.K H x t)(e:PySem.W.kitOne X.K t c=some b)(h:∀ tk,Q (.bool b) {s with toks:=tk}):
  wpAny (model X.prog X.w) A (call (.builtin "isinstance") [u,c]) Q E s:=by
 cases ty with
 |non=>cases(show u=Value.none from rx);exact bf PySem.W.kitx_none I.kIn True.intro e (λz=>nomatch z) h
 |bl y=>cases(show u=Value.bool y from rx);exact bf PySem.W.kitx_bool I.kIn True.intro e (λz=>nomatch z) h
 |int i=>obtain⟨t,q⟩:=(show ∃ t,u=Value.int i t from rx);cases q;exact bf PySem.W.kitx_int I.kIn True.intro e (λz=>nomatch z) h
 |str y=>obtain⟨t,q⟩:=(show ∃ t,u=Value.str y t from rx);cases q;exact bf PySem.W.kitx_str I.kIn True.intro e (λz=>nomatch z) h
 |flt y=>obtain⟨t,q⟩:=(show ∃ t,u=Value.float y t from rx);cases q;exact bf PySem.W.kitx_float I.kIn True.intro e (λz=>nomatch z) h
 |@lst a xs ea=>
  cases(show u=Value.ref a from rx)
  obtain⟨_,_,n,_,h1⟩:=(show fm X.prog X.w H s.heap a (.lst xs) from I.hok a _ ea)
  exact bf PySem.W.kitx_list I.kIn ⟨_,h1,rfl⟩ e (λz=>nomatch z) h
 |@frz a ob xs ea=>
  cases(show u=Value.ref a from rx)
  obtain⟨_,_,_,n,_,h1⟩:=(show fm X.prog X.w H s.heap a (.frz ob (.lst xs)) from I.hok a _ ea)
  exact bf PySem.W.kitx_list I.kIn ⟨_,h1,rfl⟩ e (λz=>nomatch z) h
 |@tup a xs ea=>
  cases(show u=Value.ref a from rx)
  obtain⟨_,_,_,p⟩:=(show fm X.prog X.w H s.heap a (.tup xs) from I.hok a _ ea)
  obtain⟨o,h1,h2,_⟩:=p
  exact bf PySem.W.kitx_tuple I.kIn ⟨o,h1,h2⟩ e (λz=>nomatch z) h
 |@dK a kvs ea=>
  cases(show u=Value.ref a from rx)
  obtain⟨_,_,vs,_,p⟩:=(show fm X.prog X.w H s.heap a (.dK kvs) from I.hok a _ ea)
  obtain⟨o,es,ep,h1,h2,_⟩:=p
  exact bf PySem.W.kitx_dict I.kIn ⟨o,h1,h2.1⟩ e (λz=>nomatch z) h
 |@dT a kvs ea=>
  cases(show u=Value.ref a from rx)
  obtain⟨_,_,xs,_,o,es,ep,h1,h2,_⟩:=(show fm X.prog X.w H s.heap a (.dT kvs) from I.hok a _ ea)
  exact bf PySem.W.kitx_dict I.kIn ⟨o,h1,h2.1⟩ e (λz=>nomatch z) h
 |@ins a C dx fs ea cl ha hn htk hm=>
  cases(show u=Value.ref a from rx)
  obtain⟨mA,O,_⟩:=tM I.hok ea
  obtain⟨od,J,_⟩:=O.look
  exact bf (PySem.W.kitx_own (cl.get _) cl.hd ha hn htk hm) I.kIn J e (λz=>nomatch z) h
end
structure iN (k:Nat)(A:Around):Prop where
 hd:A.handled=none
 dp:A.depth+3*k+5<recursionLimit
 un:A.units+16*k+200<cLine
theorem iN.mono {j k:Nat}{A:Around}(r:iN k A)(h:j<=k):iN j A:=⟨r.hd,by have:=r.dp;omega,by have:=r.un;omega⟩
theorem iN.deeper {k:Nat}{A:Around}(r:iN (k+1) A)(env:Env):iN k (A.deeper env):=
 ⟨r.hd,by have:=r.dp;show A.depth+1+3*k+5<_;omega,by have:=r.un;show A.units+3+16*k+200<_;omega⟩
theorem iN.depth {k:Nat}{A:Around}(r:iN k A):A.depth<recursionLimit:=by have:=r.dp;omega
theorem iN.units {k:Nat}{A:Around}(r:iN k A):A.units+64<cLine:=by have:=r.un;omega
def xj:TA:=λ_ H Q=>Q [] H
def vT (ta:TE)(tr:TA):TA:=λσ H Q=>ta σ H λx H1=>tr σ H1 λxs H2=>Q (x::xs) H2
section
variable {X:Cx}{e:Expr}{es:List Expr}{te:TE}{t:TA}{pos:Pos}
theorem cR:PA X [] xj:=λ_ _ _ _ H Q I h=>Calls.spliced_nil ⟨[],H,I,.nil,h⟩
theorem cQ (ha:PE X e te)(hr:PA X es t)(hs:starEach (e::es) X.env=(false,eval e X.env)::starEach es X.env:=by rfl):PA X (e::es) (vT te t):=by
 intro pos pins s σ H Q I h
 rw[hs]
 show wpAny _ _ (spliced ((false,eval e X.env)::backTo pos (starEach es X.env))) _ _ s
 refine Calls.spliced_cons (thn (ha pins s σ H _ I h) λu s1 ⟨x,H1,I1,r1,q1⟩=>?_)
 exact thn (hr pos pins s1 σ H1 _ I1 q1) λus s2 ⟨xs,H2,I2,r2,q2⟩=>⟨x::xs,H2,I2,.cons r1 r2,q2⟩
def xf (t:TA):TE:=λσ H Q=>t σ H λxs H1=>xs.length<=sizeLine/\∀ p,H1 p=none->Q (.ref p) (upd H1 p (.tup xs))
def xk (t:TA):TE:=λσ H Q=>t σ H λxs H1=>xs.length<=sizeLine/\∀ p,H1 p=none->Q (.ref p) (upd H1 p (.lst xs))
theorem gR {x1}(h:PA X es t):PE X (.Tuple es x1 pos) (xf t):=by
 intro pins s σ H Q I hq
 refine wpAny_Tuple_spliced (thn (h pos pins s σ H _ I hq) λus s1 ⟨xs,H1,I1,r,z,q⟩=>⟨by rw[<-r.length];exact z,?_⟩)
 have hf:H1 s1.heap.objs.size=none:=I1.hok.fresh (ah _)
 refine⟨.ref s1.heap.objs.size,upd H1 s1.heap.objs.size (.tup xs),I1.laid (t':=s1.toks) (λb u e=>ak _ e) (ah _) ?_,rfl,q _ hf⟩
 exact⟨z,us,r,⟨_,aV _ rfl,rfl,_,rfl⟩⟩
theorem eJ (h:PA X es t):PE X (.List es pos) (xk t):=by
 intro pins s σ H Q I hq
 refine wpAny_List_spliced (thn (h pos pins s σ H _ I hq) λus s1 ⟨xs,H1,I1,r,z,q⟩=>⟨by rw[<-r.length];exact z,?_⟩)
 have hf:H1 s1.heap.objs.size=none:=I1.hok.fresh (ah _)
 refine⟨.ref s1.heap.objs.size,upd H1 s1.heap.objs.size (.lst xs),I1.laid (t':=s1.toks) (λb u e=>ak _ e) (ah _) ?_,rfl,q _ hf⟩
 exact⟨z,us,0,r,aV _ rfl⟩
end
abbrev Sp:=List V->Hp->VK->XK->Prop
abbrev CXT:=List Env->Hp->Shared->XK->Value->Shared->Prop
structure t7 (P:Program)(w:World)(K:PySem.W.Frag)(mg:Str->Option Value)(base:Heap)(A:Around)(outer:List Env)(s:Shared)(H:Hp):Prop where
 frames:A.frames=some outer
 mod:Mod K mg base
 bs:∀ b o,base.get? b=some o->s.heap.get? b=some o/\H b=none
 bsz:base.objs.size<=s.heap.objs.size
 lX:s.heap.FunFrames base outer
 frf:∀ b∈frs outer,H b=none
 hok:HOk P w H s.heap
 bare:AllBare s.gens
def CE (outer:List Env)(P:Program)(w:World)(H:Hp)(s:Shared)(Q:VK)(u:Value)(s':Shared):Prop:=
 ∃ v H',s'.os=s.os/\AllBare s'.gens/\Un (frs outer) [] H H' s.heap s'.heap/\HOk P w H' s'.heap/\RelV v u/\Q v H'
def CR (CX:CXT)(outer:List Env)(P:Program)(w:World)(H:Hp)(s:Shared)(Q:VK)(E:XK)(r:Result)(s':Shared):Prop:=
 match r with
 |.ok (.ret u)=>CE outer P w H s Q u s'
 |.ok _=>False
 |.error e=>CX outer H s E e s'
structure dw (P:Program)(w:World)(K:PySem.W.Frag)(mg:Str->Option Value)(base:Heap)(CX:CXT)(k:Nat)(f:Addr)(fd:FuncData)(ps:List Str)(sp:Sp):Prop where
 len:∀ vs H Q E,sp vs H Q E->vs.length=ps.length
 run:∀ (A:Around) (outer:List Env) (s:Shared) (H:Hp) (args:Args) (us:List Value) (vs:List V) (Q:VK) (E:XK),iN k A->t7 P w K mg base A outer s H->BindsTo s fd args (ps.zip us)->Vals vs us->sp vs H Q E->
  codeAny (model P w) A (.call (.ref f) args) (CR CX outer P w H s Q E) s
section
variable {X:Cx}{pins:List (Addr×Obj)}{σ:St}{H:Hp}{s s':Shared}
theorem Inv.zv (I:Inv X pins σ H s):t7 X.prog X.w X.K X.mg X.base X.A X.stack s H:=
 ⟨I.ok.frames,I.ok.mod,I.bs,ba I.ok.bsz I.sz,I.stack,I.m6,I.hok,I.bare⟩
theorem Inv.after {Q:VK}{u:Value}(I:Inv X pins σ H s)(h:CE X.stack X.prog X.w H s Q u s'):EP X pins σ Q u s':=by
 obtain⟨v,H',os,bare,un,hok,r,q⟩:=h
 obtain⟨hh,g,d,t,os'⟩:=s'
 obtain rfl:os'=s.os:=os
 exact⟨v,H',I.call (h':=hh) (g':=g) (d':=d) (t':=t) (ch:=[]) un hok bare (λb z=>absurd z (by simp)),r,q⟩
end
def vU (sp:Sp)(dvs:List V)(E:XK)(t:TA):TE:=λσ H Q=>t σ H λvs H1=>sp (vs++dvs) H1 Q E
def Binds (K:PySem.W.Frag)(fd:FuncData)(ps:List Str)(ds:List Value):Prop:=
 ∀ (s:Shared) (us:List Value),K.In s.heap->(us++ds).length=ps.length->BindsTo s fd ⟨us,[]⟩ (ps.zip (us++ds))
theorem Binds.all {K:PySem.W.Frag}{fd:FuncData}{ps:List Str}(h:∀ us:List Value,us.length=ps.length->bindArgs fd ⟨us,[]⟩=pure (ps.zip us)):Binds K fd ps []:=λs us _ hl=>by
 rw[bE]at hl ⊢
 exact .of_eq (h us hl)
def Passes (CX:CXT)(X:Cx)(E:XK):Prop:=∀ (pins:List (Addr×Obj)) (σ:St) (H:Hp) (s:Shared) (e:Value) (s':Shared),Inv X pins σ H s->CX X.stack H s E e s'->X.xe e s'
section
variable {X:Cx}{CX:CXT}{k:Nat}{f C:Addr}{fd:FuncData}{ps:List Str}{sp:Sp}{dvs:List V}{ds:List Value}{E:XK}{x m:Str}{p pos apos:Pos}{e o:Expr}{es:List Expr}{ta:TE}{t:TA}
theorem uD {pins:List (Addr×Obj)}{σ:St}{H:Hp}{s:Shared}{Q:VK}{us:List Value}{vs:List V}(F:dw X.prog X.w X.K X.mg X.base CX k f fd ps sp)(hr:iN k X.A)(hb:Binds X.K fd ps ds)(hd:Vals dvs ds)(hx:Passes CX X E)
  (I:Inv X pins σ H s) (r:Vals vs us) (h:sp (vs++dvs) H Q E):wpAny (model X.prog X.w) X.A (call (.ref f) us) (EP X pins σ Q) X.xe s:=by
 have r2:Vals (vs++dvs) (us++ds):=r.append hd
 have hl:(us++ds).length=ps.length:=by rw[<-r2.length];exact F.len _ _ _ _ h
 refine wpAny_call (codeAny_mono (F.run X.A X.stack s H ⟨us,[]⟩ (us++ds) (vs++dvs) Q E hr I.zv (hb s us I.kIn hl) r2 h) λr s' hq=>?_)
 cases r with
 |error e=>exact hx pins σ H s e s' I hq
 |ok fl=>
  cases fl with
  |ret u=>exact I.after hq
  |next=>exact False.elim hq
  |brk=>exact False.elim hq
  |cont=>exact False.elim hq
theorem di (F:dw X.prog X.w X.K X.mg X.base CX k f fd ps sp)(hr:iN k X.A)(hg:Gl X x)(hm:X.mg x=some (.ref f))(hk:PySem.W.keepIn X.K (.ref f)=true)(hb:Binds X.K fd ps ds)(hd:Vals dvs ds)(hx:Passes CX X E)
  (ha:PA X (e::es) t) (hdb:(x==("__debug__" :Str))=false:=by decide) (he:starEach (e::es) X.env=(false,eval e X.env)::starEach es X.env:=by rfl) (hpl:(backTo pos (starEach es X.env)).any (·.1)=false:=by rfl):
  PE X (.Call (.Name x p) (e::es) [] pos) (vU sp dvs E t):=by
 intro pins s σ H Q I h
 refine wpAny_Call_Name_kw (ly I hg hm ?_ hdb)
 refine PySem.W.callWith_K (h₀:=X.base) I.ok.mod.kin hk (thn (ha pos pins s σ H _ I h) λus s1 ⟨vs,H1,I1,r,q⟩=>⟨I1.kIn,?_⟩) he hpl
 exact uD F hr hb hd hx I1 r q
end
section
variable {X:Cx}{CX:CXT}{k:Nat}{f C:Addr}{fd:FuncData}{ps ks:List Str}{sp:Sp}{E:XK}{x m:Str}{p pos apos AY:Pos}{e o:Expr}{es:List Expr}{kws:List Keyword}{te ta:TE}{t tk:TA}{nm:Option Str}
variable {g:List Value->List Value->List Value}{gV:List V->List V->List V}
end
structure dE (N P:List Str)(sc:Scope):Prop where
 kind:sc.kind = .function
 co:sc.isCoroutine=false
 gen:sc.isGenerator=false
 nd:N.Nodup
 pre:N.take P.length=P
 par:∀ x∈P,sc.names.lookup x=some .local\/sc.names.lookup x=some .cell
 uQ:∀ y∈sc.names,y.2≠ .free
theorem mS {kindOf:Str->Option NameKind}{x:Str} :∀ {binds:List (Str×Value)}{m:Str->Option Value},(∀ v,(x,v)∉binds)->bindL kindOf binds m x=m x
 |[],_,_=>rfl
 |(n,v)::r,m,h=>by
  unfold bindL
  rw[mS λw hw=>h w (aB _ hw)]
  split
  ·have:x≠n:=by rintro rfl;exact h v az
   simp[this]
  ·rfl
theorem mU {kindOf:Str->Option NameKind}{x:Str} :∀ {binds:List (Str×Value)}{m:Str->Option Value},(∀ v,(x,v)∉binds)->bindC kindOf binds m x=m x
 |[],_,_=>rfl
 |(n,v)::r,m,h=>by
  unfold bindC
  rw[mU λw hw=>h w (aB _ hw)]
  split
  ·rfl
  ·have:x≠n:=by rintro rfl;exact h v az
   simp[this]
theorem mT {kindOf:Str->Option NameKind}{x:Str}{v:Value} :∀ {P:List Str}{vs:List Value}{i:Nat}{m:Str->Option Value},P.Nodup->P[i]? = some x->vs[i]? = some v->kindOf x=some .local->
  bindL kindOf (P.zip vs) m x=some v
 |[],_,_,_,_,h,_,_=>by simp at h
 |_::_,[],_,_,_,_,h,_=>by simp at h
 |p::P,w::vs,0,m,nd,h1,h2,hk=>by
  simp at h1 h2;subst h1;subst h2
  show bindL kindOf ((p,w)::P.zip vs) m p=_
  unfold bindL
  rw[mS λv hv=>(cy.mp nd).1 (List.of_mem_zip hv).1,ar hk]
  simp
 |p::P,w::vs,i+1,m,nd,h1,h2,hk=>by
  show bindL kindOf ((p,w)::P.zip vs) m x=_
  unfold bindL
  exact mT (i:=i) (cy.mp nd).2 (by simpa using h1) (by simpa using h2) hk
theorem mV {kindOf:Str->Option NameKind}{x:Str}{v:Value} :∀ {P:List Str}{vs:List Value}{i:Nat}{m:Str->Option Value},P.Nodup->P[i]? = some x->vs[i]? = some v->kindOf x≠some .local->
  bindC kindOf (P.zip vs) m x=some v
 |[],_,_,_,_,h,_,_=>by simp at h
 |_::_,[],_,_,_,_,h,_=>by simp at h
 |p::P,w::vs,0,m,nd,h1,h2,hk=>by
  simp at h1 h2;subst h1;subst h2
  show bindC kindOf ((p,w)::P.zip vs) m p=_
  unfold bindC
  rw[mU λv hv=>(cy.mp nd).1 (List.of_mem_zip hv).1,ao hk]
  simp
 |p::P,w::vs,i+1,m,nd,h1,h2,hk=>by
  show bindC kindOf ((p,w)::P.zip vs) m x=_
  unfold bindC
  exact mV (i:=i) (cy.mp nd).2 (by simpa using h1) (by simpa using h2) hk
def start (N:List Str)(vs:List V):St:=vs.map some++List.replicate (N.length-vs.length) none
def mv (CX:CXT)(P:Program)(w:World)(K:PySem.W.Frag)(mg:Str->Option Value)(base:Heap)(N:List Str)(qual:Str)(scope:Scope)(f:Addr)(cd:Value)(A:Around)(outer:List Env)(s:Shared)(H:Hp)(E:XK):Cx where
 prog:=P
 w:=w
 K:=K
 mg:=mg
 base:=base
 A:=A.deeper (envOfC qual scope s.heap.objs.size f cd)
 N:=N
 s₀:=s
 H₀:=H
 env:=envOfC qual scope s.heap.objs.size f cd
 outer:=outer
 stack:=envOfC qual scope s.heap.objs.size f cd::outer
 ex:=[]
 calm:=true
 fn:=λ_=>true
 pn:=[]
 xe:=λe s'=>wpAny (model P w) (A.deeper (envOfC qual scope s.heap.objs.size f cd)) (leaving (envOfC qual scope s.heap.objs.size f cd) e) (λ_ s''=>CX outer H s E e s'') (λe' s''=>CX outer H s E e' s'') s'
theorem pb {sc:Scope}{n:Nat}{x:Str}(h:sc.names.lookup x=some .cell):∃ c,(cellsFrom n sc.names []).lookup x=some c:=by
 have q:=PySem.W.cellsFrom_some sc.names n [] (.inl h)
 exact Option.isSome_iff_exists.mp q
theorem ra {CX:CXT}{P:Program}{w:World}{K:PySem.W.Frag}{mg:Str->Option Value}{base:Heap}{N ps:List Str}{qual:Str}{scope:Scope}{f:Addr}{cd:Value}{A:Around}{outer:List Env}{s s1:Shared}{H:Hp}{E:XK}{us:List Value}{vs:List V}
  (S:dE N ps scope) (hd:A.handled=none) (e0:t7 P w K mg base A outer s H) (hl:vs.length=ps.length) (r:Vals vs us)
  (x:InCallC s s.heap.objs.size (bindL (envOfC qual scope s.heap.objs.size f cd).kindOf (ps.zip us) λ_=>none) (cellsFrom (s.heap.objs.size+1) scope.names []) (bindC (envOfC qual scope s.heap.objs.size f cd).kindOf (ps.zip us) λ_=>none) s1):
  Inv (mv CX P w K mg base N qual scope f cd A outer s H E) [] (start N vs) H s1:=by
 have hpl:ps.length<=N.length:=by have:=bM List.length S.pre;rw[bj]at this;omega
 obtain⟨h1,tk,rfl,hk⟩:=x.done
 have noA:∀ b:Addr,b∉(mv CX P w K mg base N qual scope f cd A outer s H E).ex:=λb z=>absurd (show b∈([]:List Addr) from z) (by simp)
 refine⟨⟨e0.mod,S.kind,rfl,rfl,ah _,λy z c h1 h2=>?_,λy hy=>?_,λy c _ h=>?_,λ_=>hd,Around.frames_deeper e0.frames,.inr ⟨rfl,rfl⟩,λb z=>absurd z (noA b),e0.bs,e0.bsz,λb _ _=>noA b,λb z=>absurd z (noA b),e0.lX,e0.frf⟩,
  rfl,e0.bare,Un.kept hk,⟨_,x.toInCall.ns,λi y v h1 h2 h3=>?_⟩,λy c h=>⟨_,x.cell y c h⟩,e0.hok.fresh (ah _),λy c h=>?_,λp hp=>absurd (show p∈([]:List (Addr×Obj)) from hp) (by simp),e0.hok.kept hk,?_⟩
 ·exact name_of_addr x.apart (bI h1) (bI h2)
 ·have hy:scope.names.lookup y=some .cell\/scope.names.lookup y=some .free:=hy
  rcases hy with hy |hy
  ·exact pb hy
  ·exact absurd rfl (S.uQ _ (bI hy))
 ·exact Nat.le_of_lt (x.above y c (bI h))
 ·have hi:i<vs.length:=by
   unfold start at h2
   by_cases hi:i<vs.length
   ·exact hi
   ·rw[bZ (by simpa using hi)]at h2
    rw[List.getElem?_replicate]at h2
    split at h2<;>cases h2
  have ha:vs[i]? = some v:=by
   unfold start at h2
   rw[bF (by simpa using hi),ay]at h2
   cases e:vs[i]? with
   |none=>rw[e]at h2;cases h2
   |some a=>rw[e]at h2;cases h2;rfl
  obtain⟨u,hu,rv⟩:=r.get ha
  have hp:ps[i]? = some y:=by
   rw[<-S.pre,List.getElem?_take_of_lt (by omega)];exact h1
  have ndP:ps.Nodup:=by rw[<-S.pre];exact S.nd.sublist (List.take_sublist _ _)
  refine⟨u,rv,?_⟩
  rcases S.par y (aF hp)with k |k
  ·exact .inl ⟨k,mT ndP hp hu k⟩
  ·obtain⟨c,e⟩:=pb (n:=s.heap.objs.size+1) k
   refine .inr ⟨.inl k,c,e,?_⟩
   have q:=x.cell y c e
   rw[mV ndP hp hu (by show scope.names.lookup y≠_;rw[k];decide)]at q
   exact q
 ·exact e0.hok.fresh (Nat.le_of_lt (x.above y c (bI h)))
 ·unfold start
  show _=N.length
  rw[aY,aa,List.length_replicate]
  omega
theorem uh {CX:CXT}{P:Program}{w:World}{K:PySem.W.Frag}{mg:Str->Option Value}{base:Heap}{k:Nat}{f:Addr}{name qual:Str}{params:Arguments}{body:List Stmt}{scope:Scope}{dV kV doc pm cdv ct oc:Value}{an od:Option Addr}
  {osl:Array (Option Value)}{N ps:List Str}{sp:Sp} (lk:K.lookup f=some ⟨oc,od,.func (PySem.W.fnOf name qual params body scope dV kV doc pm an cdv ct),osl⟩) (hcd:PySem.W.codeIn K cdv qual=true) (S:dE N ps scope)
  (len:∀ vs H Q E,sp vs H Q E->vs.length=ps.length)
  (oX:∀ (A:Around) (outer:List Env) (s:Shared) (H:Hp) (vs:List V) (Q:VK) (E:XK),iN k (A.deeper (envOfC qual scope s.heap.objs.size f cdv))->sp vs H Q E->
   ∃ t,PSs (mv CX P w K mg base N qual scope f cdv A outer s H E) body t/\t {nx:=λ_ H'=>Q .non H',rt:=Q} (start N vs) H):
  dw P w K mg base CX (k+1) f (PySem.W.fnOf name qual params body scope dV kV doc pm an cdv ct) ps sp:=by
 refine⟨len,λA outer s H args us vs Q E hr e0 hb r hsp=>?_⟩
 have hl:=len _ _ _ _ hsp
 have KX:K.In s.heap:=e0.mod.kin.keeps λb o e=>(e0.bs b o e).1
 have lim:s.heap.NoLimit:=e0.mod.nolimit.keeps λb o e=>(e0.bs b o e).1
 have qw:∀ y∈ps.zip us,scope.names.lookup y.1=some .local\/(scope.names.lookup y.1=some .cell/\((cellsFrom (s.heap.objs.size+1) scope.names []).lookup y.1).isSome=true):=λ⟨n,v⟩ hy=>by
  rcases S.par n (List.of_mem_zip hy).1 with q |q
  ·exact .inl q
  ·exact .inr ⟨q,PySem.W.cellsFrom_some _ _ _ (.inl q)⟩
 refine codeAny_call_function hr.depth (KX _ _ lk) rfl S.co S.gen rfl (PySem.W.codeRec_of KX hcd) (hb _ _ _ _ ?_)
 refine wpAny_newFunctionEnv_cells S.kind qw λenv he s1 x=>?_
 subst he
 refine⟨lim.keeps x.toInCall.keep,codeAny_func ?_⟩
 obtain⟨t,ht,hq⟩:=oX A outer s H vs Q E (hr.deeper _) hsp
 have I:Inv (mv CX P w K mg base N qual scope f cdv A outer s H E) [] (start N vs) H s1:=ra S hr.hd e0 hl r x
 refine aX (ht [] s1 (start N vs) H _ I hq) (λfl s' hs=>?_) λe s' hs=>hs
 have fin:∀ {σ':St}{H':Hp}{v:V}{u:Value},Inv (mv CX P w K mg base N qual scope f cdv A outer s H E) [] σ' H' s'->RelV v u->Q v H'->CE outer P w H s Q u s':=
  λ{σ' H' v u} J rv q=>⟨v,H',J.os,J.bare,J.base,J.hok,rv,q⟩
 cases fl with
 |ret u=>
  obtain⟨v,σ',H',J,rv,q⟩:=hs
  exact fin J rv q
 |next=>
  obtain⟨σ',H',J,q⟩:=hs
  exact fin (v:=V.non) (u:=Value.none) J rfl q
 |brk=>
  obtain⟨_,_,_,q⟩:=hs
  exact False.elim q
 |cont=>
  obtain⟨_,_,_,q⟩:=hs
  exact False.elim q
section
variable {X:Cx}{x:Str}{p pos:Pos}{e:Expr}{es:List Expr}{t:TA}{id T:String}{r:List V->Hp->VK->Prop}
def tCB (r:List V->Hp->VK->Prop)(t:TA):TE:=λσ H Q=>t σ H λvs H1=>r vs H1 Q
theorem dN (hc:fQ X (.builtin id) r)(hg:Gl X x)(hm:X.mg x=none)(hv:bootBuiltins x=some (.builtin id))(ha:PA X (e::es) t)(hn:x≠ "__name__" :=by decide)(hdb:(x==("__debug__" :Str))=false:=by decide)
  (he:starEach (e::es) X.env=(false,eval e X.env)::starEach es X.env:=by rfl) (hpl:(backTo pos (starEach es X.env)).any (·.1)=false:=by rfl):PE X (.Call (.Name x p) (e::es) [] pos) (tCB r t):=by
 intro pins s σ H Q I h
 refine wpAny_Call_Name_kw (lS I hg hm hv ?_ hn hdb)
 exact PyProof.Rows.callWith_builtin1 (thn (ha pos pins s σ H _ I h) λus s1 ⟨vs,H1,I1,r1,q1⟩=>hc pins s1 σ H1 vs us Q I1 r1 q1) he hpl
theorem ik (hc:fQ X (.type T) r)(hg:Gl X x)(hm:X.mg x=none)(hv:bootBuiltins x=some (.type T))(ha:PA X (e::es) t)(hn:x≠ "__name__" :=by decide)(hdb:(x==("__debug__" :Str))=false:=by decide)
  (he:starEach (e::es) X.env=(false,eval e X.env)::starEach es X.env:=by rfl) (hpl:(backTo pos (starEach es X.env)).any (·.1)=false:=by rfl):PE X (.Call (.Name x p) (e::es) [] pos) (tCB r t):=by
 intro pins s σ H Q I h
 refine wpAny_Call_Name_kw (lS I hg hm hv ?_ hn hdb)
 exact cz (thn (ha pos pins s σ H _ I h) λus s1 ⟨vs,H1,I1,r1,q1⟩=>hc pins s1 σ H1 vs us Q I1 r1 q1) he hpl
end
end L2
namespace HT
open PySem PyProof.Rows
section
open PySem.SeqAt
open PySem.AutoSeq1 (wpAny_loadPart')
open PySem.MeetsSeq PySem.MeetsSeq2 PySem.MeetsSeq3
end
section
variable {prog:Program}{w:World}{A:Around}{E:Value->Shared->Prop}{s:Shared}
def sIx (n d:Nat):Option Int->Nat
 |none=>d
 |some v=>if v<0 then(v+(n:Int)).toNat else min v.toNat n
theorem ox (n d:Nat):sIx n d none=d:=rfl
theorem sZ (n d k:Nat):sIx n d (some (k:Int))=min k n:=by
 show(if(k:Int)<0 then((k:Int)+(n:Int)).toNat else min (k:Int).toNat n)=min k n
 rw[ao (by omega),Int.toNat_natCast]
theorem tW (v:Int)(n d:Nat):(if v<0 then max (v+(n:Int)) 0 else min v (n:Int))=((sIx n d (some v):Nat):Int):=by
 show(if v<0 then max (v+(n:Int)) 0 else min v (n:Int))=(((if v<0 then(v+(n:Int)).toNat else min v.toNat n):Nat):Int)
 by_cases hv:v<0
 ·simp only[ar hv];omega
 ·simp only[ao hv];omega
end
end HT
namespace L2
open PySem PySem.Spec PyProof.Rows
abbrev TO:=St->Hp->(Option Int->Hp->Prop)->Prop
def PO (X:Cx)(e:Option Expr)(t:TO):Prop:=
 ∀ (pins:List (Addr×Obj)) (s:Shared) (σ:St) (H:Hp) (Q:Option Int->Hp->Prop),Inv X pins σ H s->t σ H Q->
  wpAny (model X.prog X.w) X.A (evalPart e X.env) (λu s'=>∃ o H',Inv X pins σ H' s'/\IsPart u o/\Q o H') X.xe s
def sX:TO:=λ_ H Q=>Q none H
def vP (t:TE):TO:=λσ H Q=>t σ H λx H1=>∃ i,x = .int i/\Q (some i) H1
theorem intsAre_of {ns:List Int} :∀ {us:List Value},Vals (ns.map V.int) us->IntsAre us ns:=by
 induction ns with
 |nil=>intro us r;rw[List.map_nil]at r;cases r;exact .nil
 |cons n ns ih=>
  intro us r
  rw[bg]at r
  cases r with
  |cons r1 r2=>
   obtain⟨t,e⟩:=r1
   subst e
   exact .cons n t (ih r2)
section
variable {X:Cx}{e:Expr}{te:TE}{lo hi:Option Expr}{tl th:TO}{pos p2:Pos}
theorem ny:PO X none sX:=by
 intro pins s σ H Q I h
 rw[evalPart_none]
 exact aP ⟨none,H,I,.none,h⟩
theorem jh (h:PE X e te):PO X (some e) (vP te):=by
 intro pins s σ H Q I hw
 rw[evalPart_some]
 refine thn (h pins s σ H _ I hw) λu s1 ⟨x,H1,I1,r1,q1⟩=>?_
 obtain⟨i,rfl,q⟩:=q1
 obtain⟨t,rfl⟩:=r1
 exact⟨some i,H1,I1,.int i t,q⟩
def SlR (X:Cx)(r:V->Option Int->Option Int->Hp->VK->Prop):Prop:=
 ∀ (pins:List (Addr×Obj)) (s:Shared) (σ:St) (H:Hp) (x:V) (v vl vu:Value) (lo hi:Option Int) (sl:Addr) (Q:VK),Inv X pins σ H s->RelV x v->s.heap.IsSliceOf sl vl vu .none->IsPart vl lo->IsPart vu hi->r x lo hi H Q->
  ∃ T id,typeLookup (.type T) "__getitem__" = pure (some (.builtin id))/\s.TypeIs v T/\wpAny (model X.prog X.w) X.A (getItem v (.ref sl)) (EP X pins σ Q) X.xe s
def tSl (r:V->Option Int->Option Int->Hp->VK->Prop)(te:TE)(tl th:TO):TE:=λσ H Q=>te σ H λx H1=>tl σ H1 λl H2=>th σ H2 λu H3=>r x l u H3 Q
theorem lJ {r:V->Option Int->Option Int->Hp->VK->Prop}(hr:SlR X r)(he:PE X e te)(hl:PO X lo tl)(hu:PO X hi th):PE X (.Subscript e (.Slice lo hi none p2) pos) (tSl r te tl th):=by
 intro pins s σ H Q I h
 refine Subscript_ (thn (he pins s σ H _ I h) λv s1 ⟨x,H1,I1,r1,q1⟩=>?_)
 refine wpAny_Slice (thn (hl pins s1 σ H1 _ I1 q1) λvl s2 ⟨l,H2,I2,pl,q2⟩=>thn (hu pins s2 σ H2 _ I2 q2) λvu s3 ⟨u,H3,I3,pu,q3⟩=>?_)
 rw[evalPart_none]
 refine aP ?_
 have I4:Inv X pins σ H3 {s3 with heap:=s3.heap.push {cls:=.type "slice",data:=.fields #[vl,vu,.none]}} :=I3.kept (t':=s3.toks) λb ob q=>ak _ q
 obtain⟨T,id,hT,ht,hg⟩:=hr pins {s3 with heap:=s3.heap.push {cls:=.type "slice",data:=.fields #[vl,vu,.none]}} σ H3 x v vl vu l u s3.heap.objs.size Q I4 r1 (Heap.IsSliceOf.new ..) pl pu q3
 show wpAny (model X.prog X.w) X.A (subscriptTail e (.Slice lo hi none p2) v (.ref s3.heap.objs.size)) (EP X pins σ Q) X.xe {s3 with heap:=s3.heap.push {cls:=.type "slice",data:=.fields #[vl,vu,.none]}}
 exact tail_any (ops:=[.ref s3.heap.objs.size,v]) ht hT hg (by with_unfolding_all rfl)
def l0 (xs:List V)(lo hi:Option Int):List V:=(xs.drop (HT.sIx xs.length 0 lo)).take (HT.sIx xs.length xs.length hi-HT.sIx xs.length 0 lo)
theorem o6 (xs:List V)(lo hi:Option Int):(l0 xs lo hi).length<=xs.length:=by
 unfold l0
 rw[bj,bU]
 omega
end
def ixN (n:Nat)(i:Int):Option Nat:=if 0<=i then(if i<n then some i.toNat else none)else if -(n:Int)<=i then some (i+n).toNat else none
def atI {α:Type}(xs:List α)(i:Int):Option α:=(ixN xs.length i).bind λj=>xs[j]?
theorem tL {n:Nat}{i:Int}{j:Nat}(h:ixN n i=some j):seqIndex? i n=some j/\j<n/\ -(n:Int)<=i/\i<n:=by
 unfold ixN at h
 by_cases h0:0<=i
 ·rw[ar h0]at h
  by_cases h1:i<n
  ·rw[ar h1]at h
   have e:i.toNat=j:=bq h
   exact⟨by rw[seqIndex_of h0 h1,e],by omega,by omega,h1⟩
  ·rw[ao h1]at h;cases h
 ·rw[ao h0]at h
  by_cases h1: -(n:Int)<=i
  ·rw[ar h1]at h
   have e:(i+n).toNat=j:=bq h
   exact⟨by rw[seqIndex_neg (by omega) h1,e],by omega,h1,by omega⟩
  ·rw[ao h1]at h;cases h
theorem nX {α:Type}{xs:List α}{i:Int}{v:α}(h:atI xs i=some v):∃ j,seqIndex? i xs.length=some j/\xs[j]? = some v/\j<xs.length/\ -(xs.length:Int)<=i/\i<xs.length:=by
 unfold atI at h
 cases e:ixN xs.length i with
 |none=>rw[e]at h;cases h
 |some j=>
  rw[e]at h
  obtain⟨h1,h2,h3,h4⟩:=tL e
  exact⟨j,h1,h,h2,h3,h4⟩
theorem hV {α:Type}{xs:List α}{j:Nat}{v:α}(h:xs[j]? = some v):atI xs (j:Int)=some v:=by
 have hj:j<xs.length:=(aC.mp h).1
 have e:ixN xs.length (j:Int)=some j:=by
  unfold ixN
  rw[ar (by omega),ar (by omega)];simp
 unfold atI;rw[e];exact h
theorem ph {α:Type}(xs:List α)(v:α):atI (xs ++ [v]) (-1)=some v:=by
 have hl:(xs ++ [v]).length=xs.length+1:=by simp
 have e:ixN (xs ++ [v]).length (-1)=some xs.length:=by
  unfold ixN
  rw[hl,ao (by decide),ar (by omega)]
  congr 1
  omega
 unfold atI
 rw[e]
 show(xs ++ [v])[xs.length]? = some v
 simp
def t5 (b:Expr):Prop:=∀ o i,subscripted b false o i=operate [o,i] (getItem o i)
def IxR (X:Cx)(r:R2):Prop:=
 ∀ (value slice:Expr) (pins:List (Addr×Obj)) (s:Shared) (σ:St) (H:Hp) (x y:V) (v u:Value) (Q:VK),Inv X pins σ H s->RelV x v->RelV y u->r x y H Q->
  subscripted slice false v u=operate [v,u] (getItem v u)->wpAny (model X.prog X.w) X.A (subscriptTail value slice v u) (EP X pins σ Q) X.xe s
def MtR (X:Cx)(id:String)(r:V->List V->Hp->VK->Prop):Prop:=
 ∀ (pins:List (Addr×Obj)) (s:Shared) (σ:St) (H:Hp) (x:V) (xs:List V) (v:Value) (us:List Value) (Q:VK),Inv X pins σ H s->RelV x v->Vals xs us->r x xs H Q->
  wpAny (model X.prog X.w) X.A (call (.builtin id) (v::us)) (EP X pins σ Q) X.xe s
section
variable {X:Cx}{a b:Expr}{ta tb:TE}{pos:Pos}
theorem eh {r:R2}(hr:IxR X r)(ha:PE X a ta)(hb:PE X b tb)(hs:t5 b):PE X (.Subscript a b pos) (tOp r ta tb):=by
 intro pins s σ H Q I h
 exact Subscript_ (vy ha hb I h λv u s2 x y H2 I2 rx ry q=>hr a b pins s2 σ H2 x y v u Q I2 rx ry q (hs _ _))
def xM (K:PySem.W.Frag):R2:=λx y H Q=>∃ p xs i v,x = .ref p/\y = .int i/\SqL K H p xs/\atI xs i=some v/\Q v H
def v3 (K:PySem.W.Frag):R2:=λx y H Q=>∃ p xs i v,x = .ref p/\y = .int i/\SqT K H p xs/\atI xs i=some v/\Q v H
def xK:R2:=λx y H Q=>∃ z i c,x = .str z/\y = .int i/\z.length<=sizeLine/\atI z.cps.toList i=some c/\Q (.str ⟨#[c]⟩) H
theorem dO:IxR X (xM X.K):=by
 intro value slice pins s σ H x y v u Q I rx ry h hs
 obtain⟨p,xs,i,z,rfl,rfl,hq,he,q⟩:=h
 cases rx
 obtain⟨t,rfl⟩:=ry
 obtain⟨its,r,pl,hz⟩:=I.list hq
 obtain⟨j,h1,h2,h3,h4,h5⟩:=nX he
 obtain⟨w,ew,rw'⟩:=r.get h2
 have hl:=r.length
 have hn:=kG
 have fin:EP X pins σ Q w s:=⟨z,H,I,rw',q⟩
 by_cases h0:0<=i
 ·have hj:i.toNat=j:=by
   rw[seqIndex_of h0 h5]at h1
   exact bq h1
  exact item_listR pl.isList h0 (by omega) (by rw[hj];simpa using ew) fin hs
 ·have hj:(i+(its.toArray.size:Int)).toNat=j:=by
   rw[seqIndex_neg (by omega) h4]at h1
   rw[au,<-hl]
   exact bq h1
  exact subscriptTail_builtinR (x:=w) pl.isList.typeIs slot_list_getitem.lookup
   (wpAny_getItem_list_neg (Q:=λr s'=>r=w/\EP X pins σ Q r s') pl.isList (by omega) (by rw[au]<;>omega) (by omega) (by rw[hj];simpa using ew) ⟨rfl,fin⟩) hs
theorem pW:IxR X (v3 X.K):=by
 intro value slice pins s σ H x y v u Q I rx ry h hs
 obtain⟨p,xs,i,z,rfl,rfl,hq,he,q⟩:=h
 cases rx
 obtain⟨t,rfl⟩:=ry
 obtain⟨its,r,pl,hz⟩:=I.tuple hq
 obtain⟨j,h1,h2,h3,h4,h5⟩:=nX he
 obtain⟨w,ew,rw'⟩:=r.get h2
 have hl:=r.length
 have hn:=kG
 have fin:EP X pins σ Q w s:=⟨z,H,I,rw',q⟩
 exact subscriptTail_builtinR (x:=w) pl.typeIs slot_tuple_getitem.lookup
  (getItem_tuple (j:=j) (Q:=λr s'=>r=w/\EP X pins σ Q r s') pl (by omega) (by omega) (by rw[au,<-hl];exact h1) (by simpa using ew) ⟨rfl,fin⟩) hs
theorem pX:IxR X xK:=by
 intro value slice pins s σ H x y v u Q I rx ry h hs
 obtain⟨z,i,c,rfl,rfl,hz,he,q⟩:=h
 obtain⟨t,rfl⟩:=rx
 obtain⟨t',rfl⟩:=ry
 obtain⟨j,h1,h2,h3,h4,h5⟩:=nX he
 have hl:z.cps.toList.length=z.length:=by simp[Str.length]
 rw[hl]at h1 h4 h5
 have hn:=kG
 exact tail_any (typeIs_str s z t) slot_str_getitem.lookup (getItem_str (c:=c) (by
  have e1:decide (i < -(2 ^ 63:Int))=false:=bD (by omega)
  have e2:decide (i≥2 ^ 63)=false:=bD (by omega)
  rw[e1,e2,Bool.or_false]) (by rw[h1];simpa using h2) ⟨.str ⟨#[c]⟩,H,I.tok _,⟨_,rfl⟩,q⟩) hs
theorem nh (lo hi:Option Int)(n:Nat):(sliceBounds lo hi none n).1=((HT.sIx n 0 lo:Nat):Int)/\(sliceBounds lo hi none n).2.1=((HT.sIx n n hi:Nat):Int)/\(sliceBounds lo hi none n).2.2=1:=by
 refine⟨?_,?_,rfl⟩
 ·cases lo with
  |none=>simp[sliceBounds,HT.sIx]
  |some i=>
   simp only[sliceBounds,HT.sIx,Option.getD_none,show(1:Int)>0 by decide,if_true]
   by_cases h:i<0
   ·simp only[h,if_true]<;>omega
   ·simp only[h,if_false]<;>omega
 ·cases hi with
  |none=>simp[sliceBounds,HT.sIx]
  |some i=>
   simp only[sliceBounds,HT.sIx,Option.getD_none,show(1:Int)>0 by decide,if_true]
   by_cases h:i<0
   ·simp only[h,if_true]<;>omega
   ·simp only[h,if_false]<;>omega
theorem mh (its:List Value)(lo hi:Option Int):slicePick its.toArray lo hi none=((its.drop (HT.sIx its.length 0 lo)).take (HT.sIx its.length its.length hi-HT.sIx its.length 0 lo)).toArray:=by
 obtain⟨h1,h2,h3⟩:=nh lo hi its.toArray.size
 unfold slicePick
 rw[h1,h2,h3]
 simp only[sliceRange_one,pick_run,au]<;>rfl
def xI (K:PySem.W.Frag):V->Option Int->Option Int->Hp->VK->Prop:=λx lo hi H Q=>∃ a xs,x = .ref a/\SqL K H a xs/\∀ p,H p=none->Q (.ref p) (upd H p (.lst (l0 xs lo hi)))
theorem qj:SlR X (xI X.K):=by
 intro pins s σ H x v vl vu lo hi sl Q I rx hs pl pu h
 obtain⟨a,xs,rfl,hx,q⟩:=h
 cases rx
 obtain⟨its,r,ht,hz⟩:=I.list hx
 have hlen:=r.length
 refine⟨"list",_,slot_list_getitem.lookup,ht.isList.typeIs,?_⟩
 refine wpAny_getItem_list_slice ht.isList hs pl pu .none (by simp) ?_ (by rw[au]<;>omega)
 rw[mh,<-hlen]
 refine⟨.ref s.heap.objs.size,_,I.laid (t':=s.toks) (o:=.lst (l0 xs lo hi)) (λb ob q=>ak _ q) (ah _) ?_,rfl,q _ (I.hok.fresh (ah _))⟩
 exact⟨ba (o6 xs lo hi) hz,_,0,(r.drop (HT.sIx xs.length 0 lo)).take (HT.sIx xs.length xs.length hi-HT.sIx xs.length 0 lo),aV _ rfl⟩
def kU:V->Bool
 |.non=>true
 |.bl _=>true
 |.int _=>true
 |.str _=>true
 |_=>false
def eqV:V->V->Bool
 |.non,.non=>true
 |.bl a,.bl b=>a==b
 |.bl a,.int b=>(if a then 1 else 0)==b
 |.int a,.bl b=>a==(if b then 1 else 0)
 |.int a,.int b=>a==b
 |.str a,.str b=>a==b
 |_,_=>false
theorem vx {A:Around}{s:Shared}{y x:V}{u v:Value}(ry:RelV y u)(rx:RelV x v)(fy:kU y=true)(fx:kU x=true):SeqAt.EqAt A s u v (eqV y x):=by
 cases y with
 |non=>
  cases ry
  cases x with
  |non=>cases rx;exact SeqAt.EqAt.same _
  |bl b=>cases rx;exact SeqAt.EqAt.none_bool b
  |int b=>obtain⟨t,rfl⟩:=rx;exact SeqAt.EqAt.none_int b t
  |str b=>obtain⟨t,rfl⟩:=rx;exact SeqAt.EqAt.none_str b t
  |_=>exact absurd (show false=true from fx) aA
 |bl a=>
  cases ry
  cases x with
  |non=>cases rx;exact SeqAt.EqAt.bool_none a
  |bl b=>cases rx;exact SeqAt.EqAt.bool_bool a b
  |int b=>obtain⟨t,rfl⟩:=rx;exact SeqAt.EqAt.bool_int a b t
  |str b=>obtain⟨t,rfl⟩:=rx;exact SeqAt.EqAt.bool_str a b t
  |_=>exact absurd (show false=true from fx) aA
 |int a=>
  obtain⟨t',rfl⟩:=ry
  cases x with
  |non=>cases rx;exact SeqAt.EqAt.int_none a t'
  |bl b=>cases rx;exact SeqAt.EqAt.int_bool a t' b
  |int b=>obtain⟨t,rfl⟩:=rx;exact SeqAt.EqAt.int_int a t' b t
  |str b=>obtain⟨t,rfl⟩:=rx;exact SeqAt.EqAt.int_str a t' b t
  |_=>exact absurd (show false=true from fx) aA
 |str a=>
  obtain⟨t',rfl⟩:=ry
  cases x with
  |non=>cases rx;exact SeqAt.EqAt.str_none a t'
  |bl b=>cases rx;exact SeqAt.EqAt.str_bool a t' b
  |int b=>obtain⟨t,rfl⟩:=rx;exact SeqAt.EqAt.str_int a t' b t
  |str b=>obtain⟨t,rfl⟩:=rx;exact SeqAt.EqAt.str_str a t' b t
  |_=>exact absurd (show false=true from fx) aA
 |_=>exact absurd (show false=true from fy) aA
def eqU (x:V)(u:Value):Bool:=match u with
 |.none=>eqV .non x
 |.bool b=>eqV (.bl b) x
 |.int i _=>eqV (.int i) x
 |.str z _=>eqV (.str z) x
 |_=>false
theorem sC {x y:V}{u:Value}(r:RelV y u)(f:kU y=true):eqU x u=eqV y x:=by
 cases y with
 |non=>cases r;rfl
 |bl b=>cases r;rfl
 |int i=>obtain⟨t,rfl⟩:=r;rfl
 |str z=>obtain⟨t,rfl⟩:=r;rfl
 |_=>exact absurd (show false=true from f) aA
theorem kn {x:V} :∀ {xs:List V}{us:List Value},Vals xs us->xs.all kU=true->us.any (eqU x)=xs.any λy=>eqV y x
 |_,_,.nil,_=>rfl
 |y::xs,u::us,.cons r t,f=>by
  rw[List.all_cons,bW]at f
  rw[List.any_cons,List.any_cons,sC r f.1,kn t f.2]
theorem iU {A:Around}{s:Shared}{x:V}{v:Value}(rx:RelV x v)(fx:kU x=true):∀ {xs:List V}{us:List Value},Vals xs us->xs.all kU=true->∀ u∈us,SeqAt.EqAt A s u v (eqU x u)
 |_,_,.nil,_=>λu hu=>by cases hu
 |y::xs,u::us,.cons r t,f=>λu' hu=>by
  rw[List.all_cons,bW]at f
  rcases aG.mp hu with rfl |hu
  ·rw[sC r f.1];exact vx r rx f.1 fx
  ·exact iU rx fx t f.2 u' hu
def inV (x:V)(xs:List V):Bool:=xs.any λy=>eqV y x
def rIn (K:PySem.W.Frag)(neg:Bool):R2:=λx y H Q=>∃ p xs,y = .ref p/\(SqL K H p xs\/SqT K H p xs)/\kU x=true/\xs.all kU=true/\Q (.bl (if neg then !inV x xs else inV x xs)) H
theorem qU:OpR X (compareOp .In) (rIn X.K false):=by
 intro pins s σ H x y v u Q I rx ry h
 obtain⟨p,xs,rfl,hq,fx,fs,q⟩:=h
 cases ry
 rcases hq with hq |hq
 ·obtain⟨its,r,pl,hz⟩:=I.list hq
  refine SeqAt.in_listAt (eqU x) pl.isList (λw hw=>iU rx fx r fs w (by simpa using hw)) ⟨.bl _,H,I,rfl,?_⟩
  rw[show its.toArray.any (eqU x)=its.any (eqU x) by simp,kn r fs]
  exact q
 ·obtain⟨its,r,pl,hz⟩:=I.tuple hq
  refine SeqAt.in_tupleAt (eqU x) pl (λw hw=>iU rx fx r fs w (by simpa using hw)) ⟨.bl _,H,I,rfl,?_⟩
  rw[show its.toArray.any (eqU x)=its.any (eqU x) by simp,kn r fs]
  exact q
theorem nD:OpR X (compareOp .NotIn) (rIn X.K true):=by
 intro pins s σ H x y v u Q I rx ry h
 obtain⟨p,xs,rfl,hq,fx,fs,q⟩:=h
 cases ry
 rcases hq with hq |hq
 ·obtain⟨its,r,pl,hz⟩:=I.list hq
  refine SeqAt.notIn_listAt (eqU x) pl.isList (λw hw=>iU rx fx r fs w (by simpa using hw)) ⟨.bl _,H,I,rfl,?_⟩
  rw[show its.toArray.any (eqU x)=its.any (eqU x) by simp,kn r fs]
  exact q
 ·obtain⟨its,r,pl,hz⟩:=I.tuple hq
  refine SeqAt.notIn_tupleAt (eqU x) pl (λw hw=>iU rx fx r fs w (by simpa using hw)) ⟨.bl _,H,I,rfl,?_⟩
  rw[show its.toArray.any (eqU x)=its.any (eqU x) by simp,kn r fs]
  exact q
theorem eB:fQ X (.builtin "len") (λxs H Q=>∃ p ys,xs = [.ref p]/\(SqL X.K H p ys\/SqT X.K H p ys)/\Q (.int ys.length) H):=by
 intro pins s σ H xs us Q I r h
 obtain⟨p,ys,rfl,hq,q⟩:=h
 obtain⟨u,rfl,rx⟩:=vals1 r
 cases rx
 have hn:=kG
 rcases hq with hq |hq
 ·obtain⟨its,r',pl,hz⟩:=I.list hq
  have hlen:=r'.length
  exact Calls.call_len_list pl.isList (by simp only[au]<;>omega) ⟨.int ys.length,H,I.tok _,⟨s.toks+1,by rw[au,hlen]⟩,q⟩
 ·obtain⟨its,r',pl,hz⟩:=I.tuple hq
  have hlen:=r'.length
  exact len_tuple pl (by simp only[au]<;>omega) ⟨.int ys.length,H,I.tok _,⟨s.toks+1,by rw[au,hlen]⟩,q⟩
theorem nU:fQ X (.builtin "len") (λxs H Q=>∃ z,xs = [.str z]/\z.length<=sizeLine/\Q (.int z.length) H):=by
 intro pins s σ H xs us Q I r h
 obtain⟨z,rfl,hz,q⟩:=h
 obtain⟨u,rfl,t,rfl⟩:=vals1 r
 have hn:=kG
 exact len_str (by omega) ⟨.int z.length,H,I.tok _,⟨_,rfl⟩,q⟩
theorem kj:fQ X (.type "list") (λxs H Q=>∃ p ys,xs = [.ref p]/\(SqL X.K H p ys\/SqT X.K H p ys)/\∀ l,H l=none->Q (.ref l) (upd H l (.lst ys))):=by
 intro pins s σ H xs us Q I r h
 obtain⟨p,ys,rfl,hq,q⟩:=h
 obtain⟨u,rfl,rx⟩:=vals1 r
 cases rx
 have fin:∀ (its:List Value),Vals ys its->ys.length<=sizeLine->∀ (h':Heap) (c':Nat),(∀ b o',s.heap.get? b=some o'->h'.get? b=some o')->
   h'.get? s.heap.objs.size=some {cls:=.type "list",dict:=none,data:=.seq its.toArray c',slots:= #[]} ->EP X pins σ Q (.ref s.heap.objs.size) {s with heap:=h'} :=λits r' hz h' c' kp e=>
  ⟨.ref s.heap.objs.size,_,I.laid (t':=s.toks) kp (ah _) (show fm X.prog X.w _ h' _ (.lst ys) from⟨hz,its,c',r',e⟩),rfl,q _ (I.hok.fresh (ah _))⟩
 rcases hq with hq |hq
 ·obtain⟨its,r',pl,hz⟩:=I.list hq
  have hlen:=r'.length
  obtain⟨o,ho,hc,n,hd⟩:=pl.isList
  exact call_list_seq p (.inl rfl) ho hc hd (λh' c' kp e=>fin its r' hz h' c' kp e) (by simp only[au]<;>omega)
 ·obtain⟨its,r',pl,hz⟩:=I.tuple hq
  have hlen:=r'.length
  obtain⟨o,ho,hc,n,hd⟩:=pl
  exact call_list_seq p (.inr rfl) ho hc hd (λh' c' kp e=>fin its r' hz h' c' kp e) (by simp only[au]<;>omega)
def tyV (K:PySem.W.Frag)(T:String)(x:V)(H:Hp):Prop:=match x with
 |.str _=>T = "str"
 |.int _=>T = "int"
 |.ref p=>(T = "list" /\∃ xs,SqL K H p xs)\/(T = "tuple" /\∃ o,K.lookup p=some o/\o.cls = .type "tuple" /\o.dict=none)\/
   (T = "dict" /\((∃ kvs,H p=some (.dK kvs))\/∃ kvs,H p=some (.dT kvs)))\/(T = "set" /\∃ S n,H p=some (.set S n))
 |_=>False
theorem uq {pins:List (Addr×Obj)}{σ:St}{H:Hp}{s:Shared}{T:String}{x:V}{v:Value}(I:Inv X pins σ H s)(r:RelV x v)(ty:tyV X.K T x H):
  s.TypeIs v T/\∀ a,v = .ref a->∃ ob,s.heap.get? a=some ob/\ob.dict=none:=by
 cases x with
 |str z=>
  obtain⟨t,rfl⟩:=r
  cases(show T = "str" from ty)
  exact⟨typeIs_str s z t,λ_ e=>nomatch e⟩
 |int i=>
  obtain⟨t,rfl⟩:=r
  cases(show T = "int" from ty)
  exact⟨typeIs_int s i t,λ_ e=>nomatch e⟩
 |ref p=>
  cases r
  rcases ty with⟨rfl,xs,hq⟩|⟨rfl,o,hk,hc,hd⟩|⟨rfl,hk⟩|⟨rfl,S,n,hk⟩
  ·obtain⟨its,_,pl,_⟩:=I.list hq
   refine⟨pl.isList.typeIs,λa e=>?_⟩
   cases e
   obtain⟨o,n,e,c,hd,_⟩:=pl
   exact⟨o,e,hd⟩
  ·refine⟨⟨o,I.kIn p o hk,hc⟩,λa e=>?_⟩
   cases e
   exact⟨o,I.kIn _ o hk,hd⟩
  ·have z:∃ o,s.heap.get? p=some o/\o.ExactDict:=by
    rcases hk with⟨kvs,hk⟩|⟨kvs,hk⟩
    ·obtain⟨_,_,_,_,o,_,_,e,ex,_⟩:=I.hok p _ hk
     exact⟨o,e,ex⟩
    ·obtain⟨_,_,_,_,o,_,_,e,ex,_⟩:=I.hok p _ hk
     exact⟨o,e,ex⟩
   obtain⟨o,e,ex⟩:=z
   refine⟨⟨o,e,ex.1⟩,λa e2=>?_⟩
   cases e2
   exact⟨o,e,ex.2.1⟩
  ·obtain⟨o,_,_,_,e,ex,_⟩:=I.hok p _ hk
   refine⟨⟨o,e,ex.1⟩,λa e2=>?_⟩
   cases e2
   exact⟨o,e,ex.2.1⟩
 |_=>exact False.elim ty
def tBM (K:PySem.W.Frag)(T:String)(r:V->List V->Hp->VK->Prop)(to:TE)(t:TA):TE:=λσ H Q=>to σ H λx H1=>tyV K T x H1/\t σ H1 λxs H2=>r x xs H2 Q
variable {o e:Expr}{es:List Expr}{to:TE}{t:TA}{name:Str}{apos jN:Pos}{T id:String}{r:V->List V->Hp->VK->Prop}
theorem hJ (pa:PlainAttrs T)(slot:Slot T name id)(hty:typeOf (.builtin id)=pure (.type "method_descriptor"))(hm:MtR X id r)(ho:PE X o to)(ha:PA X (e::es) t)
  (wL:attributeBase o name X.env (eval o X.env)=eval o X.env:=by rfl)
  (zr:((backTo jN (starEach (e::es) X.env)).all (λx=> !x.1)&&(backToKw jN (keywordEach [] X.env)).all (λx=>x.1.isSome)
   && decide ((e::es).length+([]:List Keyword).length+(if([]:List Keyword).isEmpty then 0 else 1)<30))=true:=by rfl)
  (wH:(apos.endLine==jN.line)=true:=by rfl) (hs:starEach (e::es) X.env=(false,eval e X.env)::starEach es X.env:=by rfl) (vh:(backTo jN (starEach es X.env)).any (·.1)=false:=by rfl):
  PE X (.Call (.Attribute o name apos) (e::es) [] jN) (tBM X.K T r to t):=by
 intro pins s σ H Q I h
 refine wpAny_Call_method_late wL zr wH rfl (thn (ho pins s σ H _ I h) λv s1 ⟨x,H1,I1,r1,ty,q1⟩=>?_)
 obtain⟨h1,h2⟩:=uq I1 r1 ty
 refine⟨T,id,pa,slot,hty,h1,h2,?_⟩
 have hA:=ha jN pins s1 σ H1 _ I1 q1
 rw[hs]at hA ⊢
 refine Calls.callWith_builtin (by show(false||(backTo jN (starEach es X.env)).any (·.1))=false;rw[vh]<;>rfl) (Calls.evalArgs_plain ?_)
 exact thn hA λus s2 ⟨vs,H2,I2,r2,q2⟩=>hm pins s2 σ H2 x vs v us Q I2 r1 r2 q2
/- xs.append(e),list.index on a wo tuple .. are MtR facts of 06m -/
end
def MtM (X:Cx)(id:String)(r:V->List V->Hp->VK->Prop):Prop:=
 ∀ (pins:List (Addr×Obj)) (s:Shared) (σ:St) (H:Hp) (x:V) (xs:List V) (v:Value) (us:List Value) (Q:VK),Inv X pins σ H s->RelV x v->Vals xs us->r x xs H Q->
  wpAny (model X.prog X.w) X.A (call (.builtin id) (v::us)) (EP X pins σ Q) X.xe s
theorem Vals.one:∀ {x:V}{us:List Value},Vals [x] us->∃ u,us = [u]/\RelV x u
 |_,_,.cons r .nil=>⟨_,rfl,r⟩
theorem Vals.two {x y:V}{us:List Value}(h:Vals [x,y] us):∃ u v,us = [u,v]/\RelV x u/\RelV y v:=by
 cases h with
 |cons r t=>
  cases t with
  |cons q n=>
   cases n
   exact⟨_,_,rfl,r,q⟩
section
variable {X:Cx}{pins:List (Addr×Obj)}{σ:St}{H:Hp}{s:Shared}{l b:Addr}{xs ys zs:List V}
theorem Inv.wt {its its':List Value}{n:Nat}{f:Array Value->Array Value}{t':Nat}(I:Inv X pins σ H s)(hH:H l=some (.lst xs))
  (e:s.heap.get? l=some {cls:=.type "list",data:=.seq its.toArray n}) (hf:f its.toArray=its'.toArray) (hv:Vals ys its') (hz:ys.length<=sizeLine):
  Inv X pins σ (upd H l (.lst ys)) {s with heap:=s.heap.update l (Obj.mapSeq f),toks:=t'} :=by
 have q:=PySem.IsL.update e f
 rw[hf]at q
 refine I.write (x:=l) (e:=l) (by rw[hH];exact trivial) (.inl rfl) (λb' u hb hu=>(Heap.get?_update_other s.heap (Obj.mapSeq f) (cA hb)).trans hu) ⟨_,q⟩ ?_
 exact⟨hz,its',_,hv,q⟩
theorem Inv.uU {its:List Value}{t':Nat}(I:Inv X pins σ H s)(hv:Vals ys its)(hz:ys.length<=sizeLine):
  Inv X pins σ (upd H s.heap.objs.size (.lst ys)) {s with heap:=s.heap.push {cls:=.type "list",data:=.seq its.toArray},toks:=t'} :=
 I.laid (λ_ _ q=>ak _ q) (ah _) ⟨hz,its,0,hv,aV _ rfl⟩
theorem Inv.fresh (I:Inv X pins σ H s):H s.heap.objs.size=none:=I.hok.fresh (ah _)
theorem Inv.tG (I:Inv X pins σ H s)(hH:H l=some (.lst xs)):xs.length<=sizeLine/\∃ (its:List Value) (n:Nat),Vals xs its/\xs.length=its.length/\s.heap.get? l=some {cls:=.type "list",data:=.seq its.toArray n} :=by
 obtain⟨z,its,n,r,e⟩:=I.hok l _ hH
 exact⟨z,its,n,r,r.length,e⟩
end
section
variable {X:Cx}
def tm:V->List V->Hp->VK->Prop:=λx vs H Q=>∃ l xs y,x = .ref l/\vs = [y]/\H l=some (.lst xs)/\xs.length<sizeLine/\Q .non (upd H l (.lst (xs ++ [y])))
theorem eY:MtM X "list.append" tm:=by
 intro pins s σ H x vs v us Q I rx rv h
 obtain⟨l,xs,y,rfl,rfl,hH,hz,q⟩:=h
 cases rx
 obtain⟨u,rfl,ru⟩:=rv.one
 obtain⟨z,its,n,r,hl,e⟩:=I.tG hH
 refine call_meets F.slot_list_append ⟨_,e,rfl⟩ F.entry_list_append (F.args_list_append_2 _ _) (PySem.list_append l its.toArray n u (by rw[au];omega)) ⟨e,?_⟩
 refine⟨.non,_,I.wt (its':=its ++ [u]) hH e (by simp) (r.append (.cons ru .nil)) ?_,rfl,q⟩
 rw[aY,List.length_singleton]
 omega
def xO:R2:=λx y H Q=>∃ l b xs zs,x = .ref l/\y = .ref b/\H l=some (.lst xs)/\H b=some (.lst zs)/\xs.length+zs.length<=sizeLine/\∀ p,H p=none->Q (.ref p) (upd H p (.lst (xs++zs)))
theorem rW:OpR X (binaryOp .Add) xO:=by
 intro pins s σ H x y v u Q I rx ry h
 obtain⟨l,b,xs,zs,rfl,rfl,hH,hB,hz,q⟩:=h
 cases rx
 cases ry
 obtain⟨z,its,n,r,hl,e⟩:=I.tG hH
 obtain⟨z2,wy,n2,r2,hl2,e2⟩:=I.tG hB
 refine PySem.P.add_list e e2 ?_ (by rw[au,au];omega)
 have ea:its.toArray++wy.toArray=(its++wy).toArray:=by simp
 rw[ea]
 exact⟨.ref _,_,I.uU (t':=s.toks) (r.append r2) (by rw[aY];omega),rfl,q _ I.fresh⟩
end
section
variable {prog:Program}{w:World}{A:Around}{E:Value->Shared->Prop}{s:Shared}
end
section
variable {X:Cx}
end
end L2
namespace Att
open PySem PySem.W PySem.Calls PyProof.Rows
theorem lj {P:Params}{h:Heap} :∀ (ns:List Int) (vs:List Value),WellAll P h vs (ns.map WData.int)->IntsAre vs ns:=by
 intro ns
 induction ns with
 |nil=>
  intro vs w
  rw[List.map_nil]at w
  cases w
  exact .nil
 |cons n ns ih=>
  intro vs w
  rw[bg]at w
  cases w with
  |cons a b=>
   cases a
   exact .cons _ _ (ih _ b)
theorem qR {l:OpenLaw}{n:Nat}(hn:l.most=some n){P:Params}{h:Heap}{args:List WData}{vals:List Value}
  (tP:l.row.toRowW.claim.pre args=true) (hwl:WellAll P h vals args):
  ∃ a vs ns,vals = [Value.ref a]/\args = [WData.list (ns.map WData.int)]/\h.get? a=some {cls:=.type "list",data:=.seq vs.toArray} /\IntsAre vs ns/\ns.length<=n:=by
 have hsh:WShape.hasAll [] args [.list .int]=true:=(pre_splitW tP).1
 have hc:l.pre.holds [] {args:=args} = true:=(pre_splitW tP).2
 obtain⟨d,r,rfl,h1,h2⟩:=hasAllW_cons hsh
 obtain rfl:=hasAllW_nil h2
 obtain⟨xs,rfl,h3⟩:=hasW_list h1
 obtain⟨ns,rfl⟩:=items_int h3
 have hlen:ns.length<=n:=by
  unfold OpenLaw.pre at hc
  have h4:(WTm.not (.lt (.lit (.int (n:Int))) (.len (.arg 0)))).holds [] {args:=[.list (ns.map .int)]} = true:=by
   have h4:=(holds_andW hc).1
   rw[hn]at h4
   exact h4
  have h5:=condW_of h4 (w_not (w_lt w_lit (w_len_list (w_arg rfl))))
  rw[aa]at h5
  refine Nat.le_of_not_lt λq=>?_
  have q':(n:Int)<((ns.length:Nat):Int):=by omega
  first
   |(rw[decide_eq_true q']at h5;exact absurd h5 (by decide))
   |(simp at h5;omega)
 cases hwl with
 |cons w1 w2=>
  cases w2
  cases w1 with
  |list ho tR=>exact⟨_,_,ns,rfl,rfl,ho,lj ns _ tR,hlen⟩
theorem qS (l:OpenLaw)(args:List WData):l.row.toRowW.claim.post args (.bool true) args=true:=
 postW_of (r:=l.row.toRowW) (X:=(true==true))
  (show WShape.has [] (.bool true) .bool=true by first |rfl |decide |simp[WShape.has,WShape.arms,WShape.armsAll])
  (show(WTm.eq .res (.lit (.bool true))).value [] {args:=args,res:=some (.bool true),after:=args} = some (.bool (true==true)) from w_eq_bool (w_res rfl) w_lit) rfl
theorem pf {l:OpenLaw}{n:Nat}{q:Program}{loose:List Str}{XP:(Str->Option Value)->Heap->Prop}{YP:World->Heap->Prop}{d:DefRec}
  (hn:l.most=some n) (hdf:d.params.defaults = [])
  (call:∀ (w:World) (s₀ s₁:Shared) (mg mb:Str->Option Value) (fa:Addr) (o:Obj) (pm cd doc:Value) (a:Addr) (vs:List Value) (ns:List Int),
   Ground q loose [] XP w s₀ mg mb s₁.heap->YP w s₁.heap->
   s₁.heap.get? fa=some o->o.data = .func (docDef d.name d.params d.body d.scope pm cd doc)->s₁.heap.CodeRec cd d.name->mg d.name=some (.ref fa)->
   s₁.heap.get? a=some {cls:=.type "list",data:=.seq vs.toArray} ->IntsAre vs ns->ns.length<=n->s₁.gens = #[]->
   codeAny (model l.prog w) callerA (.call (.ref fa) ⟨[.ref a],[]⟩) (λr s'=>r = .ok (.ret (.bool true))/\OldK s₁.heap s'.heap/\s'.os=s₁.os/\AllBare s'.gens) s₁):
  WalkO q loose XP YP l.row.toRowW d [] (λf vs=>PySem.call f vs):=by
 intro w s₀ s₁ mg mb G Y fa o pm cd doc dV kV ho hd hcd hD hmg hg args vals as tP AZ hrd hwl hlo
 obtain rfl:dV = .none:=Dflts.none hD hdf
 obtain rfl:kV = .none:=Dflts.noKw hD
 obtain⟨a,vs,ns,rfl,rfl,vi,hints,hlen⟩:=qR hn tP hwl
 refine enter_call (codeAny_mono (call w s₀ s₁ mg mb fa o pm cd doc a vs ns G Y ho (fd_plain hd) hcd hmg vi hints hlen hg) λr s' hq=>?_)
 obtain⟨rfl,h2,h3,h4⟩:=hq
 exact⟨.inl ⟨.bool true,.bool true,[],rfl,λ_=>rfl,.bool true,qS l _,λ_=>⟨List.Pairwise.nil,λ_ hm=>(nomatch hm)⟩⟩,h2,h3,h4⟩
section
variable {prog:Program}{w:World}{A:Around}{E:Value->Shared->Prop}{s:Shared}{K:Frag}
end
end Att
namespace L2
open PySem PySem.Spec PyProof.Rows
theorem mD:∀ {vs:List Value}{ns:List Int},IntsAre vs ns->Vals (ns.map V.int) vs
 |_,_,.nil=>.nil
 |_,_,.cons n t h=>.cons ⟨t,rfl⟩ (mD h)
def vD (H:Hp):Prop:=∀ b,H b=none\/∃ o xs,H b=some (.frz o (.lst xs))
theorem sj {P:Program}{w:World}{K:PySem.W.Frag}{mg mb:Str->Option Value}{CX:CXT}{k:Nat}{fa a:Addr}{fd:FuncData}{x:Str}{sp:Sp}{s₁:Shared}{vs:List Value}{ns:List Int}
  (KX:K.In s₁.heap) (hns:s₁.heap.Ns mainGlobals mg) (hb:s₁.heap.Ns builtinsNs mb) (hbb:∀ x:Str,x≠ "__name__" ->mb x=bootBuiltins x) (zp:s₁.heap.NoLimit) (hg:s₁.gens = #[])
  (ha:s₁.heap.get? a=some {cls:=.type "list",data:=.seq vs.toArray}) (hi:IntsAre vs ns) (hl:ns.length<=sizeLine) (hr:iN k callerA)
  (F:∀ base:Heap,K.In base->base.Ns mainGlobals mg->dw P w K mg base CX k fa fd [x] sp) (wK:∀ (s:Shared) (u:Value),BindsTo s fd ⟨[u],[]⟩ [(x,u)])
  (hsp:∀ H:Hp,vD H->SqL K H a (ns.map V.int)->sp [.ref a] H (λv _=>v = .bl true) λ_ _ _=>False)
  (hCX:∀ H e s',CX [] H s₁ (λ_ _ _=>False) e s'->False):
  codeAny (model P w) callerA (.call (.ref fa) ⟨[.ref a],[]⟩) (λr s'=>r = .ok (.ret (.bool true))/\OldK s₁.heap s'.heap/\s'.os=s₁.os/\AllBare s'.gens) s₁:=by
 have rv:=mD hi
 have yO:=hi.length
 have core:∀ H:Hp,vD H->SqL K H a (ns.map V.int)->HOk P w H s₁.heap->(∀ b,H b≠none->b=a)->(H a≠none->K.lookup a=none)->
   codeAny (model P w) callerA (.call (.ref fa) ⟨[.ref a],[]⟩) (λr s'=>r = .ok (.ret (.bool true))/\OldK s₁.heap s'.heap/\s'.os=s₁.os/\AllBare s'.gens) s₁:=by
  intro H hO hS hok hA hK
  have qF:∀ {b:Addr}{o:Obj},s₁.heap.get? b=some o->H b=none->(nO s₁.heap H).get? b=some o:=λe n=>su e n
  have noA:∀ {b:Addr}{o:Obj}{es:Array DictEntry}{ep:Nat},s₁.heap.get? b=some o->o.data = .dict es ep->H b=none:=λ{b o es ep} e d=>by
   cases q:H b with
   |none=>rfl
   |some u=>
    have e':b=a:=hA b (by rw[q];simp)
    subst e'
    rw[ha]at e;cases e
    have d':Data.seq vs.toArray _=Data.dict es ep:=d
    cases d'
  have nsK:∀ {b:Addr}{m:Str->Option Value},s₁.heap.Ns b m->(nO s₁.heap H).Ns b m:=λ{b m} ⟨o,es,ep,e,d,r⟩=>⟨o,es,ep,qF e (noA e d),d,r⟩
  have hKb:K.In (nO s₁.heap H):=λb o e=>qF (KX b o e) (by
   cases q:H b with
   |none=>rfl
   |some u=>
    have e':b=a:=hA b (by rw[q];simp)
    subst e'
    rw[hK (by rw[q];simp)]at e;cases e)
  have hM:Mod K mg (nO s₁.heap H):=⟨hKb,nsK hns,⟨mb,nsK hb,hbb⟩,let ⟨mc,h1,h2⟩:=zp;⟨mc,nsK h1,h2⟩⟩
  have e0:t7 P w K mg (nO s₁.heap H) callerA [] s₁ H:=⟨rfl,hM,λb o e=>tE e,Nat.le_of_eq (rb _ _),trivial,λb hb=>absurd (show b∈([]:List Addr) from hb) (by simp),hok,.of_eq hg⟩
  refine codeAny_mono ((F _ hKb (nsK hns)).run callerA [] s₁ H ⟨[.ref a],[]⟩ [.ref a] [.ref a] _ _ hr e0 (wK s₁ (.ref a)) (.cons rfl .nil) (hsp H hO hS)) λr s' h=>?_
  cases r with
  |error e=>exact(hCX H e s' h).elim
  |ok fl=>
   cases fl with
   |next=>exact False.elim h
   |brk=>exact False.elim h
   |cont=>exact False.elim h
   |ret u=>
    obtain⟨v,H',os,bare,un,zi,r',q⟩:=h
    have q':v = .bl true:=q
    subst q'
    obtain rfl:u=Value.bool true:=r'
    refine⟨rfl,OldK.of_keep λb o e=>?_,os,bare⟩
    cases q:H b with
    |none=>exact un.keep b o e q (by intro z;exact absurd (show b∈([]:List Addr) from z) (by simp)) (by simp)
    |some u=>
     rcases hO b with z |⟨ob,xs,z⟩
     ·rw[q]at z;cases z
     ·have z2:=un.kf b ob _ z
      obtain⟨e1,_⟩:=hok b _ z
      obtain⟨e2,_⟩:=zi b _ z2
      rw[e]at e1;cases e1
      exact e2
 cases hk:K.lookup a with
 |some o=>
  have e:=KX a o hk
  rw[ha]at e
  cases e
  refine core (λ_=>none) (λ_=>.inl rfl) (.inr ⟨_,vs.toArray,_,hk,rfl,rfl,rfl,by rw[au,yO];exact hl,by simpa using rv⟩) (λb u z=>by have z':(none:Option HO)=some u:=z;cases z') (λb z=>absurd rfl z) λz=>absurd rfl z
 |none=>
  refine core (λb=>if b=a then some (.frz {cls:=.type "list",data:=.seq vs.toArray} (.lst (ns.map V.int)))else none) (λb=>?_) (.inl (.inr ⟨{cls:=.type "list",data:=.seq vs.toArray},ar rfl⟩)) (λb u z=>?_) (λb z=>?_) λ_=>hk
  ·by_cases hb:b=a
   ·exact .inr ⟨_,_,ar hb⟩
   ·exact .inl (ao hb)
  ·by_cases hb:b=a
   ·have z':=(ar hb).symm.trans z
    cases z'
    subst hb
    exact⟨ha,by rw[aa];exact hl,vs,_,rv,ha⟩
   ·have z':=(ao hb).symm.trans z
    cases z'
  ·by_cases hb:b=a
   ·exact hb
   ·exact absurd (ao hb) z
abbrev KOf {K:PySem.W.Frag}{h:Heap}(_:K.In h):PySem.W.Frag:=K
theorem sU {l:PySem.W.OpenLaw}{n k:Nat}{q:Program}{loose:List Str}{XP:(Str->Option Value)->Heap->Prop}{YP:World->Heap->Prop}{d:DefRec}{K:Params->PySem.W.Frag}{CX:World->CXT}{sp:World->Sp}{x:Str}
  (hn:l.most=some n) (hn2:n<=sizeLine) (hdf:d.params.defaults = []) (hr:iN k callerA)
  (hY:∀ (w:World) (h:Heap),YP w h->(K w.params).In h)
  (F:∀ (w:World) (mg:Str->Option Value) (fa:Addr) (h:Heap),(K w.params).In h->h.Ns mainGlobals mg->mg d.name=some (.ref fa)->
   ∃ fd:FuncData,(∀ (s:Shared) (u:Value),BindsTo s fd ⟨[u],[]⟩ [(x,u)])/\
    ∀ base:Heap,(K w.params).In base->base.Ns mainGlobals mg->dw l.prog w (K w.params) mg base (CX w) k fa fd [x] (sp w))
  (hsp:∀ (w:World) (H:Hp) (a:Addr) (ns:List Int),ns.length<=n->vD H->SqL (K w.params) H a (ns.map V.int)->sp w [.ref a] H (λv _=>v = .bl true) λ_ _ _=>False)
  (hCX:∀ (w:World) (H:Hp) (s:Shared) (e:Value) (s':Shared),CX w [] H s (λ_ _ _=>False) e s'->False):
  PySem.W.WalkO q loose XP YP l.row.toRowW d [] (λf vs=>PySem.call f vs):=by
 refine Att.pf hn hdf λw s₀ s₁ mg mb fa o pm cd doc a vs ns G Y ho hd hcd hmg vi hints hlen hg=>?_
 have KX:=hY w _ Y
 obtain⟨fd,hb,hF⟩:=F w mg fa _ KX G.T.g hmg
 exact sj KX G.T.g G.T.b G.T.builtins G.T.nolimit hg vi hints (ba hlen hn2) hr hF hb (λH hO hS=>hsp w H a ns hlen hO hS) λH e s'=>hCX w H s₁ e s'
def hU (s:Stmt):Arguments:=match s with
 |.FunctionDef _ a _ _ _ _ _ _ _ _=>a
 |_=>{posonlyargs:=[],args:=[],vararg:=none,kwonlyargs:=[],kw_defaults:=[],kwarg:=none,defaults:=[]}
def gp (s:Stmt):List Stmt:=match s with
 |.FunctionDef _ _ b _ _ _ _ _ _ _=>b
 |_=>[]
def cW (s:Stmt):Scope:=match s with
 |.FunctionDef _ _ _ _ _ _ sc _ _ _=>sc
 |_=>{kind:=.function,names:=[],isGenerator:=false,isCoroutine:=false}
abbrev CX0:CXT:=λ_ _ _ _ _ _=>False
abbrev E0:XK:=λ_ _ _=>False
theorem d5 {X:Cx} :Passes CX0 X E0:=λ_ _ _ _ _ _ _ h=>h.elim
structure Fun (K:PySem.W.Frag)(x qual:Str)(st:Stmt)(f:Addr)(fd:FuncData):Prop where
 ex:∃ (oc:Value) (od:Option Addr) (kV doc pm:Value) (an:Option Addr) (cdv ct:Value) (osl:Array (Option Value)),
  fd=PySem.W.fnOf x qual (hU st) (gp st) (cW st) .none kV doc pm an cdv ct/\K.lookup f=some ⟨oc,od,.func fd,osl⟩/\PySem.W.codeIn K cdv qual=true
 kp:PySem.W.keepIn K (.ref f)=true
section
variable {P:Program}{w:World}{K:PySem.W.Frag}{mg:Str->Option Value}{base:Heap}
theorem Fun.ok {x qual:Str}{st:Stmt}{f:Addr}{fd:FuncData}{N ps:List Str}{k:Nat}{sp:Sp}(F:Fun K x qual st f fd)(S:dE N ps (cW st))(len:∀ vs H Q E,sp vs H Q E->vs.length=ps.length)
  (oX:∀ (cdv:Value) (A:Around) (outer:List Env) (s:Shared) (H:Hp) (vs:List V) (Q:VK) (E:XK),iN k (A.deeper (envOfC qual (cW st) s.heap.objs.size f cdv))->sp vs H Q E->
   ∃ t,PSs (mv CX0 P w K mg base N qual (cW st) f cdv A outer s H E).nox (gp st) t/\t {nx:=λ_ H'=>Q .non H',rt:=Q} (start N vs) H):dw P w K mg base CX0 (k+1) f fd ps sp:=by
 obtain⟨oc,od,kV,doc,pm,an,cdv,ct,osl,rfl,lk,hcd⟩:=F.ex
 refine uh lk hcd S len λA outer s H vs Q E hr hsp=>?_
 obtain⟨t,h,q⟩:=oX cdv A outer s H vs Q E hr hsp
 exact⟨t,h.nox,q⟩
theorem Fun.binds {x qual:Str}{st:Stmt}{f:Addr}{fd:FuncData}{ps:List Str}(F:Fun K x qual st f fd)
  (h:∀ (kV doc pm:Value) (an:Option Addr) (cdv ct:Value) (us:List Value),us.length=ps.length->bindArgs (PySem.W.fnOf x qual (hU st) (gp st) (cW st) .none kV doc pm an cdv ct) ⟨us,[]⟩=pure (ps.zip us)):Binds K fd ps []:=by
 obtain⟨oc,od,kV,doc,pm,an,cdv,ct,osl,rfl,lk,hcd⟩:=F.ex
 exact .all (h kV doc pm an cdv ct)
theorem sv {x qual:Str}{st:Stmt}{f:Addr}{oc:Value}{od an:Option Addr}{osl:Array (Option Value)}{kV doc pm cdv ct:Value}(l:K.lookup f=some ⟨oc,od,.func (PySem.W.fnOf x qual (hU st) (gp st) (cW st) .none kV doc pm an cdv ct),osl⟩)
  (c:PySem.W.codeIn K cdv qual=true) (k:PySem.W.keepIn K (.ref f)=true):Fun K x qual st f (PySem.W.fnOf x qual (hU st) (gp st) (cW st) .none kV doc pm an cdv ct):=⟨⟨oc,od,kV,doc,pm,an,cdv,ct,osl,rfl,l,c⟩,k⟩
end
section
variable {X:Cx}
theorem pv (i:Nat){x:Str}{pos:Pos}(hN:X.N[i]? = some x:=by rfl)(hv:Vis X.env.scope x:=by first |exact Or.inl rfl |exact Or.inr (Or.inl rfl)|exact Or.inr (Or.inr rfl))(hd:(x==("__debug__" :Str))=false:=by decide)
  (hcd:(x==("__classdict__" :Str))=false:=by decide):PE X (.Name x pos) (vN i):=uI hN hv hd hcd
end
theorem zd {A B:Prop}(h:B):if false=true then A else B:=by
 rw[ao aA]
 exact h
theorem vc {A B:Prop}(h:A):if true=true then A else B:=by
 rw[ar rfl]
 exact h
theorem eW {c A B:Prop} [Decidable c] (h1:c->A)(h2:¬c->B):if c then A else B:=by
 by_cases h:c
 ·rw[ar h]
  exact h1 h
 ·rw[ao h]
  exact h2 h
def dc (H H':Hp):Prop:=∀ b o,H b=some o->H' b=some o
theorem dc.refl (H:Hp):dc H H:=λ_ _ h=>h
theorem dc.trans {H H1 H2:Hp}(a:dc H H1)(b:dc H1 H2):dc H H2:=λc o h=>b c o (a c o h)
theorem dc.free {H H':Hp}(e:dc H H'){l:Addr}(h:H' l=Option.none):H l=Option.none:=by
 cases q:H l with
 |none=>rfl
 |some o=>
  rw[e l o q]at h
  cases h
theorem dc.seq {K:PySem.W.Frag}{H H':Hp}{a:Addr}{xs:List V}(e:dc H H')(h:SqL K H a xs):SqL K H' a xs:=by
 rcases h with(h |⟨o,h⟩)|h
 ·exact .inl (.inl (e _ _ h))
 ·exact .inl (.inr ⟨o,e _ _ h⟩)
 ·exact .inr h
section
variable {κ:Type} [DecidableEq κ]
end
abbrev KT (H:Hp):List (List Key×V)->List (List Key×Addr×Value)->Prop:=Paired λp q=>p.1=q.1/\H q.2.1=some (.tup (p.1.map kV))/\RelV p.2 q.2.2
section
variable {P:Program}{w:World}{H:Hp}{h:Heap}{a:Addr}
end
section
variable {X:Cx}{pins:List (Addr×Obj)}{σ:St}{H:Hp}{s:Shared}{a:Addr}{y v:V}{u r:Value}{o:Option V}{A:Around}{E:Value->Shared->Prop}
end
section
variable {X:Cx}{pins:List (Addr×Obj)}{σ:St}{H:Hp}{s:Shared}{a:Addr}{kvs:List (Key×V)}{k:Key}{u:Value}{A:Around}{E:Value->Shared->Prop}
end
section
variable {X:Cx}{o i e value:Expr}{pos pos' xb:Pos}{td ty tv:TE}
end
section
variable {X:Cx}{pos:Pos}
end
abbrev VV:List (V×V)->List (Value×Value)->Prop:=Paired λp q=>RelV p.1 q.1/\RelV p.2 q.2
section
variable {X:Cx}{pins:List (Addr×Obj)}{σ:St}{H:Hp}{s:Shared}{a:Addr}{y d:V}{u r:Value}{o:Option V}{A:Around}{E:Value->Shared->Prop}
end
section
variable {X:Cx}{o e f:Expr}{apos jN:Pos}{td ty tx:TE}
end
section
variable {X:Cx}{pins:List (Addr×Obj)}{σ:St}{H:Hp}{s:Shared}{a:Addr}{kvs:List (Key×V)}{A:Around}{E:Value->Shared->Prop}
end
section
variable {X:Cx}{pins:List (Addr×Obj)}{σ:St}{H:Hp}{s:Shared}{a:Addr}{y:V}{u:Value}{A:Around}{E:Value->Shared->Prop}
end
end L2
namespace TL
open PySem
theorem lY {α β:Type}{f:α->β->Sem (ForInStep β)}(P:List α->β->Prop)
  (step:∀ x l c,P (x::l) c->∃ c',f x c=pure (.yield c')/\P l c'):∀ (l:List α) (c:β),P l c->∃ c',forIn l c f=pure c'/\P [] c'
 |[],c,h=>⟨c,rfl,h⟩
 |x::l,c,h=>by
  obtain⟨c1,e,h1⟩:=step x l c h
  obtain⟨c2,e2,h2⟩:=lY P step l c1 h1
  refine⟨c2,?_,h2⟩
  rw[List.forIn_cons,e,pure_bind]
  exact e2
theorem jO {scope:Scope}{env:Env}(h:∀ y∈scope.names,y.2 = .free->∃ c,env.cells.lookup y.1=some c):
  ∃ cl,closureFor scope env=pure cl/\(∀ x c,cl.lookup x=some c->env.cells.lookup x=some c)/\(∀ y∈scope.names,y.2 = .free->∃ c,cl.lookup y.1=some c):=by
 let P:List (Str×NameKind)->List (Str×Addr)->Prop:=λl c=>(∀ y∈l,y.2 = .free->∃ c,env.cells.lookup y.1=some c)/\(∀ x a,c.lookup x=some a->env.cells.lookup x=some a)/\
  (∀ y∈scope.names,y.2 = .free->y∈l\/∃ a,c.lookup y.1=some a)
 simp only[closureFor]
 obtain⟨cl,e,_,h2,h3⟩:=lY (f:=λ(x:Str×NameKind) (r:List (Str×Addr))=>if(x.2==NameKind.free)=true then cellOf env x.1 >>= λc=>pure (ForInStep.yield ((x.1,c)::r))else pure (ForInStep.yield r)) P (by
  rintro⟨n,k⟩ l c ⟨p1,p2,p3⟩
  by_cases hk:k = .free
  ·subst hk
   obtain⟨a,ha⟩:=p1 _ az rfl
   refine⟨(n,a)::c,?_,λy hy=>p1 y (aB _ hy),λx b hb=>?_,λy hy hf=>?_⟩
   ·have ha':env.cells.lookup n=some a:=ha
    simp[cellOf,ha']
   ·rw[bh]at hb
    by_cases hx:(x==n)=true
    ·rw[hx]at hb
     have e1:x=n:=by simpa using hx
     subst e1
     cases hb
     exact ha
    ·have hx':(x==n)=false:=by simpa using hx
     rw[hx']at hb
     exact p2 x b hb
   ·by_cases hx:(y.1==n)=true
    ·exact .inr ⟨a,by rw[bh,hx]⟩
    ·have hx':(y.1==n)=false:=by simpa using hx
     rcases p3 y hy hf with q |⟨b,q⟩
     ·rcases aG.mp q with q |q
      ·exact absurd (by rw[q];simp) hx
      ·exact .inl q
     ·exact .inr ⟨b,by rw[bh,hx'];exact q⟩
  ·refine⟨c,?_,λy hy=>p1 y (aB _ hy),p2,λy hy hf=>?_⟩
   ·have:(k==NameKind.free)=false:=by simpa using hk
    simp[this]
   ·rcases p3 y hy hf with q |q
    ·rcases aG.mp q with q |q
     ·subst q;exact absurd hf hk
     ·exact .inl q
    ·exact .inr q) scope.names [] ⟨h,λx a hx=>by simp at hx,λy hy _=>.inl hy⟩
 refine⟨cl,?_,h2,λy hy hf=>?_⟩
 ·refine Eq.trans ?_ (bM (λt:Sem (List (Str×Addr))=>t >>= λr=>pure r) e)
  rfl
 ·rcases h3 y hy hf with q |q
  ·cases q
  ·exact q
theorem gD {env:Env} :∀ {names:List (Str×NameKind)}{x:Str},names.lookup x=some .free->
  (names.map λ(n,k)=>if(k==NameKind.free&&env.scope.kind == .function&&env.kindOf n==some .cell)then(n,NameKind.cell)else(n,k)).lookup x=some .cell\/
  (names.map λ(n,k)=>if(k==NameKind.free&&env.scope.kind == .function&&env.kindOf n==some .cell)then(n,NameKind.cell)else(n,k)).lookup x=some .free
 |[],_,h=>by simp at h
 |(n,k)::r,x,h=>by
  have ih:=@gD env r x
  show List.lookup x ((if(k==NameKind.free&&env.scope.kind == .function&&env.kindOf n==some .cell)=true then(n,NameKind.cell)else(n,k))::_)=_\/List.lookup x ((if(k==NameKind.free&&env.scope.kind == .function&&env.kindOf n==some .cell)=true then(n,NameKind.cell)else(n,k))::_)=_
  cases hx:x==n with
  |true=>
   simp only[bh,hx]at h
   cases h
   by_cases hc:(NameKind.free==NameKind.free&&env.scope.kind == .function&&env.kindOf n==some .cell)=true
   ·rw[ar hc];left;simp[bh,hx]
   ·rw[ao hc];right;simp[bh,hx]
  |false=>
   simp only[bh,hx]at h
   by_cases hc:(k==NameKind.free&&env.scope.kind == .function&&env.kindOf n==some .cell)=true
   ·rw[ar hc];simp only[bh,hx];exact ih h
   ·rw[ao hc];simp only[bh,hx];exact ih h
theorem gv {env:Env} :∀ {names:List (Str×NameKind)}{x:Str},(∀ y∈names,y.2≠ .cell)->
  ((names.map λ(n,k)=>if(k==NameKind.free&&env.scope.kind == .function&&env.kindOf n==some .cell)then(n,NameKind.cell)else(n,k)).lookup x=some .cell\/
  (names.map λ(n,k)=>if(k==NameKind.free&&env.scope.kind == .function&&env.kindOf n==some .cell)then(n,NameKind.cell)else(n,k)).lookup x=some .free)->∃ y∈names,y.1=x/\y.2 = .free
 |[],_,_,h=>by simp at h
 |(n,k)::r,x,hn,h=>by
  have ih:=@gv env r x (λy hy=>hn y (aB _ hy))
  change List.lookup x ((if(k==NameKind.free&&env.scope.kind == .function&&env.kindOf n==some .cell)=true then(n,NameKind.cell)else(n,k))::_)=_\/List.lookup x ((if(k==NameKind.free&&env.scope.kind == .function&&env.kindOf n==some .cell)=true then(n,NameKind.cell)else(n,k))::_)=_ at h
  cases hx:x==n with
  |true=>
   have e:x=n:=by simpa using hx
   by_cases hc:(k==NameKind.free&&env.scope.kind == .function&&env.kindOf n==some .cell)=true
   ·have hk:k = .free:=by
     simp only[bW,beq_iff_eq]at hc
     exact hc.1.1
    exact⟨(n,k),az,e.symm,hk⟩
   ·rw[ao hc]at h
    simp only[bh,hx]at h
    rcases h with h |h
    ·exact absurd (bq h) (hn (n,k) az)
    ·exact⟨(n,k),az,e.symm,bq h⟩
  |false=>
   have h':(r.map λ(n,k)=>if(k==NameKind.free&&env.scope.kind == .function&&env.kindOf n==some .cell)then(n,NameKind.cell)else(n,k)).lookup x=some .cell\/
     (r.map λ(n,k)=>if(k==NameKind.free&&env.scope.kind == .function&&env.kindOf n==some .cell)then(n,NameKind.cell)else(n,k)).lookup x=some .free:=by
    by_cases hc:(k==NameKind.free&&env.scope.kind == .function&&env.kindOf n==some .cell)=true
    ·rw[ar hc]at h;simpa only[bh,hx]using h
    ·rw[ao hc]at h;simpa only[bh,hx]using h
   obtain⟨y,hy,e⟩:=ih h'
   exact⟨y,aB _ hy,e⟩
section
variable {prog:Program}{w:World}{A:Around}{R:Result->Shared->Prop}{s:Shared}
abbrev mZ (ifs:List Expr)(env:Env):Sem Bool:=forIn ifs true λc r=>if r=true then do let ok <-isTrue c env (eval c env);pure (ForInStep.yield ok)else pure (ForInStep.yield r)
theorem o9 {elt target iter:Expr}{ifs:List Expr}{scope:Scope}{pos:Pos}{it acc:Value}{env:Env}(I:Nat->Shared->Prop)
  (turn:∀ n s,I n s->wpAny (model prog w) A (pyNext it) (λr s₁=>match r with
   |none=>R (.ok .next) s₁
   |some v=>wpAny (model prog w) A (letOwnedTupleGo target it v) (λ_ s₀=>wpAny (model prog w) A (assign target env v) (λ_ s₂=>
     wpAny (model prog w) A (mZ ifs env) (λok s₃=>
      if ok=true then wpAny (model prog w) A (eval elt env) (λx s₄=>
       wpAny (model prog w) A (call (.builtin "list.append") [acc,x]) (λ_ s₅=>∃ m,m<n/\I m s₅) (λ_ _=>False) s₄) (λ_ _=>False) s₃
      else ∃ m,m<n/\I m s₃) (λ_ _=>False) s₂) (λ_ _=>False) s₀) (λ_ _=>False) s₁) (λ_ _=>False) s)
  (n:Nat) (h:I n s):
  codeAny (model prog w) A (.compLoop (.ListComp elt [⟨target,iter,ifs,0⟩] scope pos) 0 it acc env) R s:=by
 refine codeAny_loop rfl I (λn s hI=>?_) n h
 show wpAny _ A ((compTurn (.ListComp elt [⟨target,iter,ifs,0⟩] scope pos) 0 it acc env).onRaise (λx=>do noteFrame x env;theTreesLotGoes x)) _ _ s
 refine wpAny_noted ?_
 rw[compTurn_list]
 refine aw (wpAny_standAt (aw (aX (turn n s hI) (λr s₁ h₁=>?_) λ_ _ h'=>h'.elim)))
 cases r with
 |none=>exact aP h₁
 |some v=>
  refine aw (aX h₁ (λ_ s₀ h₀=>?_) λ_ _ h'=>h'.elim)
  refine aw (aX h₀ (λ_ s₂ h₂=>aw (aX h₂ (λok s₃ h₃=>?_) λ_ _ h'=>h'.elim)) λ_ _ h'=>h'.elim)
  cases ok with
  |false=>exact aP ⟨rfl,h₃⟩
  |true=>
   exact aw (aw (aX h₃ (λx s₄ h₄=>aw (aX h₄ (λ_ s₅ h₅=>aP (aP ⟨rfl,h₅⟩)) λ_ _ h'=>h'.elim)) λ_ _ h'=>h'.elim))
end
open PyProof.Rows
def oth (e:Int):Int:=e+1-2*(e%2)
end TL
set_option maxHeartbeats 4000000
namespace TL
open PySem PySem.Spec PyProof.Rows L2
abbrev St:=L2.St
def eP (X:Cx)(scope:Scope)(cl:List (Str×Addr))(N:List Str)(fp:List Addr)(s3:Shared)(H3:Hp):Cx where
 prog:=X.prog
 w:=X.w
 K:=X.K
 mg:=X.mg
 base:=X.base
 A:=X.A
 N:=N
 s₀:=s3
 H₀:=H3
 env:=compEnvC scope cl s3.heap.objs.size X.env
 outer:=X.stack
 stack:=X.stack
 ex:=fp
 fn:=λ_=>false
 calm:=X.calm
 pn:=[]
 xe:=λ_ _=>False
def um (NX:List Str)(scope:Scope)(N:List Str)(cap:List (Option Nat)):Bool:=
 (N.zip cap).all λp=>match p.2 with
  |none=>true
  |some j=>decide (NX[j]? = some p.1)&&decide (scope.names.lookup p.1=some .free)
structure d7 (scX:Scope)(NX:List Str)(scope:Scope)(N:List Str)(own:Nat)(cap:List (Option Nat)):Prop where
 kind:scope.kind = .function
 pS:∀ y∈scope.names,y.2≠ .cell
 loc:∀ y∈scope.names,y.2 = .local->scope.names.lookup y.1=some .local
 fre:∀ y∈scope.names,y.2 = .free->scX.names.lookup y.1=some .cell\/scX.names.lookup y.1=some .free
 len:cap.length=N.length
 Ar:um NX scope N cap=true
 ye:(cap.take own).all (·.isNone)=true
 nd:N.Nodup
def fP (cap:List (Option Nat))(σ:St):St:=cap.map λo=>o.bind λj=>(σ[j]?).bind id
theorem rj {cap:List (Option Nat)}{σ:St} :(fP cap σ).length=cap.length:=by simp[fP]
theorem kI {cap:List (Option Nat)}{σ:St}{i:Nat}{v:V}(h:(fP cap σ)[i]? = some (some v)):∃ j,cap[i]? = some (some j)/\σ[j]? = some (some v):=by
 unfold fP at h
 rw[ay]at h
 cases e:cap[i]? with
 |none=>rw[e]at h;cases h
 |some o=>
  rw[e]at h
  cases o with
  |none=>cases h
  |some j=>
   refine⟨j,rfl,?_⟩
   have h':(σ[j]?).bind id=some v:=by simpa using h
   cases q:σ[j]? with
   |none=>rw[q]at h';cases h'
   |some z=>rw[q]at h';exact bM some h'
theorem d7.at {scX:Scope}{NX:List Str}{scope:Scope}{N:List Str}{own:Nat}{cap:List (Option Nat)}(C:d7 scX NX scope N own cap){i j:Nat}{x:Str}(h1:N[i]? = some x)(h2:cap[i]? = some (some j)):
  NX[j]? = some x/\scope.names.lookup x=some .free:=by
 have h:=C.Ar
 unfold um at h
 have hm:(x,some j)∈N.zip cap:=by
  refine List.mem_iff_getElem?.mpr ⟨i,?_⟩
  rw[List.getElem?_zip_eq_some]
  exact⟨h1,h2⟩
 have:=b7.mp h _ hm
 simpa using this
theorem d7.oE {scX:Scope}{NX:List Str}{scope:Scope}{N:List Str}{own:Nat}{cap:List (Option Nat)}(C:d7 scX NX scope N own cap){i j:Nat}(hi:i<own)(h:cap[i]? = some (some j)):False:=by
 have hm:some j∈cap.take own:=by
  refine List.mem_iff_getElem?.mpr ⟨i,?_⟩
  rw[List.getElem?_take_of_lt hi]
  exact h
 have:=b7.mp C.ye _ hm
 cases this
section
variable {X:Cx}{pins:List (Addr×Obj)}{σ:St}{H H3:Hp}{s s3:Shared}{scope:Scope}{N:List Str}{own:Nat}{cap:List (Option Nat)}{cl:List (Str×Addr)}{fp:List Addr}
theorem oW (I3:Inv X pins σ H3 s3)(C:d7 X.env.scope X.N scope N own cap)(iM:∀ x c,cl.lookup x=some c->X.env.cells.lookup x=some c)(lq:∀ y∈scope.names,y.2 = .free->∃ c,cl.lookup y.1=some c)
  (hf:∀ b∈fp,iO X pins H3 b/\b<s3.heap.objs.size) {h4:Heap}{tk:Nat}{m4:Str->Option Value} (hn:h4.Ns s3.heap.objs.size m4) (hk:∀ b u,s3.heap.get? b=some u->h4.get? b=some u):
  Inv (eP X scope cl N fp s3 H3) [] (fP cap σ) H3 {s3 with heap:=h4,toks:=tk} :=by
 refine⟨⟨I3.ok.mod,C.kind,I3.ok.glob,I3.ok.blt,ah _,λx y c e1 e2=>I3.ok.inj x y c (iM _ _ e1) (iM _ _ e2),λx hx=>?_,λx c h=>?_,I3.ok.hd,I3.ok.frames,.inl rfl,λb hb=>?_,
  I3.bs,ba I3.ok.bsz I3.sz,λb o e hb=>?_,λb hb hz=>?_,I3.stack,I3.m6⟩,rfl,I3.bare,Un.kept hk,⟨m4,hn,λi x v e1 e2 e3=>?_⟩,λx c e=>?_,I3.hok.fresh (ah _),λx c e=>I3.iX x c (iM x c e),
  λp hp=>absurd (show p∈([]:List (Addr×Obj)) from hp) (by simp),I3.hok.kept hk,?_⟩
 ·obtain⟨y,hy,e,f⟩:=gv (env:=X.env) C.pS hx
  obtain⟨c,q⟩:=lq y hy f
  exact⟨c,by rw[<-e];exact q⟩
 ·exact absurd (show false=true from h) aA
 ·obtain⟨⟨f0,f1,f2,f3,f4,f5⟩,hlt⟩:=hf b hb
  exact⟨aJ hlt,λx c e=>f4 x c (iM x c e)⟩
 ·obtain⟨⟨f0,f1,f2,f3,f4,f5⟩,hlt⟩:=hf b hb
  rcases f3 with z |z
  ·exact I3.ok.rX b o e z
  ·exact absurd (aE (ai e) (ba I3.ok.bsz z)) (bK _)
 ·obtain⟨⟨f0,f1,f2,f3,f4,f5⟩,hlt⟩:=hf b hb
  rcases aG.mp (I3.jE b hz)with z |z
  ·exact f1 z
  ·exact f2 z
 ·obtain⟨j,c1,c2⟩:=kI e2
  obtain⟨d1,d2⟩:=C.at e1 c1
  have hk2:=C.fre (x,.free) (bI d2) rfl
  obtain⟨mX,hnX,hl⟩:=I3.loc
  obtain⟨u,r,l⟩:=hl j x v d1 c2 (.inr hk2)
  refine⟨u,r,?_⟩
  rcases l with⟨k,_⟩|⟨k,c,e,z⟩
  ·exfalso
   have k':X.env.scope.names.lookup x=some .local:=k
   rcases hk2 with q |q
   ·rw[k']at q;cases q
   ·rw[k']at q;cases q
  ·obtain⟨c',q⟩:=lq (x,.free) (bI d2) rfl
   have e':=iM x c' q
   rw[e]at e'
   cases e'
   obtain⟨o,ho,hd⟩:=z
   exact .inr ⟨gD (env:=X.env) d2,c,q,o,hk _ _ ho,hd⟩
 ·obtain⟨v,o,ho,hd⟩:=I3.cell x c (iM x c e)
  exact⟨v,o,hk _ _ ho,hd⟩
 ·rw[rj];exact C.len
theorem comp_back {lH:List (Addr×Obj)}{σ':St}{H':Hp}{s':Shared}(I3:Inv X pins σ H3 s3)(hf:∀ b∈fp,iO X pins H3 b)(I':Inv (eP X scope cl N fp s3 H3) lH σ' H' s'):Inv X pins σ H' s':=
 I3.sO (ch:=fp) I'.os I'.base I'.hok I'.bare λb hb=>by
  obtain⟨f0,f1,f2,f3,f4,f5⟩:=hf b hb
  exact⟨f3,f1,f4,f5⟩
structure Apart (X:Cx)(pins:List (Addr×Obj))(C:Addr):Prop where
 loc:C≠X.env.locals
 new:X.s₀.heap.objs.size<=C
 cel:∀ x c,X.env.cells.lookup x=some c->c≠C
 pin:∀ p∈X.pn++pins,p.1≠C
theorem Inv.apart (I3:Inv X pins σ H3 s3):Apart X pins s3.heap.objs.size:=
 ⟨Nat.ne_of_gt I3.lt,I3.sz,λx c e=>by obtain⟨v,o,ho,_⟩:=I3.cell x c e;exact aJ (ai ho),λp hp=>aJ (ai (I3.pin p hp).1)⟩
theorem ju {C:Addr}{h':Heap}(I:Inv X pins σ H s)(P:Apart X pins C)(hn:H C=none)(hs:Heap.SameBut C s.heap h'):Inv X pins σ H {s with heap:=h'} :=
 I.turned (t':=s.toks) (λb o hb e=>(hs.2 b hb).trans e) hn P.loc (.inr P.new) P.cel P.pin
end
structure mB (own:Nat)(g:TG):Prop where
 mono:∀ v σ H Q Q',(∀ σ' H',Q σ' H'->Q' σ' H')->g v σ H Q->g v σ H Q'
 own:∀ v σ H Q,g v σ H Q->g v σ H λσ' H'=>Q σ' H'/\σ'.length=σ.length/\∀ i,own<=i->σ'[i]? = σ[i]?
structure mW (own:Nat)(g:TGs):Prop where
 mono:∀ v σ H Q Q',(∀ σ' H',Q σ' H'->Q' σ' H')->g v σ H Q->g v σ H Q'
 own:∀ v σ H Q,g v σ H Q->g v σ H λσ' H'=>Q σ' H'/\σ'.length=σ.length/\∀ i,own<=i->σ'[i]? = σ[i]?
theorem mB.name {own i:Nat}(h:i<own):mB own (oY i):=
 ⟨λv σ H Q Q' f q=>f _ _ q,λv σ H Q q=>⟨q,List.length_set,λj hj=>List.getElem?_set_ne (by omega)⟩⟩
theorem mW.nil {own:Nat} :mW own wN:=⟨λv σ H Q Q' f q=>⟨q.1,f _ _ q.2⟩,λv σ H Q q=>⟨q.1,q.2,rfl,λ_ _=>rfl⟩⟩
theorem mW.cons {own:Nat}{t:TG}{u:TGs}(h1:mB own t)(h2:mW own u):mW own (ug t u) where
 mono:=λv σ H Q Q' f ⟨x,r,e,q⟩=>⟨x,r,e,h1.mono _ _ _ _ _ (λσ' H' q=>h2.mono _ _ _ _ _ f q) q⟩
 own:=λv σ H Q ⟨x,r,e,q⟩=>⟨x,r,e,h1.mono _ _ _ _ _ (λσ1 H1 ⟨q,l1,o1⟩=>h2.mono _ _ _ _ _ (λσ2 H2 ⟨q,l2,o2⟩=>⟨q,l2.trans l1,λi hi=>(o2 i hi).trans (o1 i hi)⟩) (h2.own _ _ _ _ q)) (h1.own _ _ _ _ q)⟩
theorem mB.tup {own n:Nat}{K:PySem.W.Frag}{t:TGs}(h:mW own t):mB own (wM K n t) where
 mono:=λv σ H Q Q' f ⟨a,xs,e,q1,q2,q⟩=>⟨a,xs,e,q1,q2,h.mono _ _ _ _ _ f q⟩
 own:=λv σ H Q ⟨a,xs,e,q1,q2,q⟩=>⟨a,xs,e,q1,q2,h.own _ _ _ _ q⟩
def qa (X:Cx)(ifs:List Expr)(t:TT):Prop:=
 ∀ (pins:List (Addr×Obj)) (s:Shared) (σ:St) (H:Hp) (Q:Bool->Hp->Prop),Inv X pins σ H s->t σ H Q->wpAny (model X.prog X.w) X.A (mZ ifs X.env) (TP X pins σ Q) X.xe s
def rC:TT:=λ_ H Q=>Q true H
theorem fJ {X:Cx} :qa X [] rC:=λ_ _ _ H _ I h=>wpAny_tests_nil ⟨H,I,h⟩
theorem iS {X:Cx}{c:Expr}{t:TT}(h:PT X c t):qa X [c] t:=λpins s σ H Q I q=>wpAny_tests_one (h pins s σ H Q I q)
def LcW (J:It)(g:TG)(tt:TT)(te:TE)(cap:List (Option Nat))(σ:St)(Q:VK)(l:Addr)(H1:Hp):Prop:=
 ∃ W:Nat->Nat->List V->Hp->Prop,(∃ m,W 0 m [] (upd H1 l (.lst [])))/\∀ i m acc H,W i m acc H->
  (J.stop i H/\Q (.ref l) H)\/(J.go i H/\∃ N:List V->Hp->Prop,(∀ mz H',N mz H'->∃ m',m'<m/\W (i+1) m' mz H')/\
   ∀ x H',J.yld i H x H'->g x (fP cap σ) H' λσ2 H2=>tt σ2 H2 λb H3=>
    if b=true then te σ2 H3 λy H4=>H4 l=some (.lst acc)/\acc.length<sizeLine/\N (acc ++ [y]) (upd H4 l (.lst (acc ++ [y])))
    else N acc H3)
def tLC (wi:TI)(cap:List (Option Nat))(g:TG)(tt:TT)(te:TE):TE:=λσ H Q=>wi σ H λJ H1=>∀ l,H1 l=none->
 LcW J g tt te cap σ Q l H1
section
variable {X:Cx}{pins:List (Addr×Obj)}{σ:St}{H1:Hp}{s2:Shared}{scope:Scope}{N:List Str}{own:Nat}{cap:List (Option Nat)}{cl:List (Str×Addr)}{fp:List Addr}
 {tg iter elt:Expr}{ifs:List Expr}{pos:Pos}{g:TG}{tt:TT}{te:TE}{wi:TI}
theorem o8 {it:Addr}{tn:Nat->Heap->Prop}{J:It}{Q:VK}{RR:Value->Addr->Result->Shared->Prop}{E:Value->Shared->Prop}(I:Inv X pins σ H1 s2)(T:Turn X.prog X.w X.K tg J fp it tn)(t0:tn 0 s2.heap)
  (f:∀ b∈fp,iO X pins H1 b) (hc:X.calm=true) (C:d7 X.env.scope X.N scope N own cap) (ho:mB own g)
  (iM:∀ x c,cl.lookup x=some c->X.env.cells.lookup x=some c) (lq:∀ y∈scope.names,y.2 = .free->∃ c,cl.lookup y.1=some c)
  (hg:∀ s3 H3,PG (eP X scope cl N fp s3 H3) tg g) (ht:∀ s3 H3,qa (eP X scope cl N fp s3 H3) ifs tt) (he:∀ s3 H3,PE (eP X scope cl N fp s3 H3) elt te)
  (hw:∀ l,H1 l=none->LcW J g tt te cap σ Q l H1)
  (fin:∀ l C s' H' m',Inv X pins σ H' s'->s'.heap.Ns C m'->H' C=none->Apart X pins C->Q (.ref l) H'->RR (.ref l) C (.ok .next) s'):
  wpAny (model X.prog X.w) X.A (newList []) (λacc s₃=>wpAny (model X.prog X.w) X.A (newFunctionEnv scope X.env.globals cl [] X.env.qual none .none (some X.env)) (λcenv s₄=>
   codeAny (model X.prog X.w) X.A (.compStart (.ListComp elt [⟨tg,iter,ifs,0⟩] scope pos) 0 (.ref it) acc {cenv with scope:=relabel scope X.env}) (RR acc cenv.locals) s₄) E s₃) E s2:=by
 refine wpAny_newObj_type (wpAny_newFunctionEnv C.pS (by intro y hy;simp at hy) (λh₁ jK jJ=>?_) C.kind)
 dsimp only at jK jJ ⊢
 obtain⟨W,⟨m0,w0⟩,turn⟩:=hw s2.heap.objs.size I.fresh
 have I3:Inv X pins σ (upd H1 s2.heap.objs.size (.lst [])) {s2 with heap:=s2.heap.push {cls:=.type "list",dict:=none,data:=.seq ([]:List Value).toArray}} :=I.uU (ys:=[]) (its:=[]) (t':=s2.toks) .nil (aQ _)
 generalize hs3:({s2 with heap:=s2.heap.push {cls:=.type "list",dict:=none,data:=.seq ([]:List Value).toArray}} :Shared)=s3 at I3
 have hh3:s3.heap=s2.heap.push {cls:=.type "list",dict:=none,data:=.seq ([]:List Value).toArray} :=by rw[<-hs3]
 rw[<-hh3]at jK jJ ⊢
 have e4:({s2 with heap:=h₁,toks:=s2.toks+([]:List (Str×Value)).length} :Shared) = {s3 with heap:=h₁,toks:=s2.toks} :=by rw[<-hs3];rfl
 rw[e4]
 have k4:∀ b u,s3.heap.get? b=some u->h₁.get? b=some u:=λb u e=>jJ.extBut b u (aJ (ai e)) (ak _ e)
 have k3:∀ b u,s2.heap.get? b=some u->s3.heap.get? b=some u:=λb u e=>by rw[hh3];exact ak _ e
 have hb2:∀ b∈fp,b<s2.heap.objs.size:=λb hb=>by obtain⟨o,e,_⟩:=T.obj _ _ t0 b hb;exact ai e
 have f3:∀ b∈fp,iO X pins (upd H1 s2.heap.objs.size (.lst [])) b:=λb hb=>by
  obtain⟨f0,fr⟩:=f b hb
  exact⟨by rw[dj (aJ (hb2 b hb))];exact f0,fr⟩
 have hb3:∀ b∈fp,b<s3.heap.objs.size:=λb hb=>by obtain⟨o,e,_⟩:=T.obj _ _ t0 b hb;exact ai (k3 b o e)
 have I4:=oW (tk:=s2.toks) I3 C iM lq (λb hb=>⟨f3 b hb,hb3 b hb⟩) jK k4
 generalize hH3:upd H1 s2.heap.objs.size (.lst [])=H3 at *
 have st4:tn 0 h₁:=T.keep _ _ _ t0 λb hb o e=>k4 b o (k3 b o e)
 have fpX:∀ {H':Hp},(∀ b∈fp,H' b=none)->∀ b∈fp,iO (eP X scope cl N fp s3 H3) [] H' b:=λ{H'} hn b hb=>by
  obtain⟨f0,f1,f2,f3',f4,f5⟩:=f3 b hb
  refine⟨hn b hb,aJ (hb3 b hb),λhz=>?_,.inl hb,λx c e=>f4 x c (iM x c e),λp hp=>absurd (show p∈([]:List (Addr×Obj)) from hp) (by simp)⟩
  rcases aG.mp (I3.jE b hz)with z |z
  ·exact f1 z
  ·exact f2 z
 have loop:codeAny (model X.prog X.w) X.A (.compLoop (.ListComp elt [⟨tg,iter,ifs,0⟩] scope pos) 0 (.ref it) (.ref s2.heap.objs.size) (compEnvC scope cl s3.heap.objs.size X.env)) (RR (.ref s2.heap.objs.size) s3.heap.objs.size) {s3 with heap:=h₁,toks:=s2.toks} :=by
  refine o9 (λn s'=>∃ i acc H',Inv (eP X scope cl N fp s3 H3) [] (fP cap σ) H' s'/\tn i s'.heap/\(∀ b∈fp,H' b=none)/\W i n acc H') ?_ m0 ⟨0,[],H3,I4,st4,λb hb=>(f3 b hb).1,w0⟩
  rintro n s' ⟨i,acc,H',I',st,fr,w⟩
  rcases turn i n acc H' w with⟨stop,q⟩|⟨go,NN,hNN,step⟩
  ·refine thn (T.done (eP X scope cl N fp s3 H3) rfl rfl rfl hc i [] s' _ H' (λ_ _=>False) I' (fpX fr) st stop) λr s5 ⟨hr,I5⟩=>?_
   subst hr
   obtain⟨m5,hn5,_⟩:=id I5.loc
   exact fin _ _ s5 H' m5 (comp_back I3 f3 I5) hn5 I5.free (TL.Inv.apart I3) q
  ·refine thn (T.item (eP X scope cl N fp s3 H3) rfl rfl rfl hc i [] s' _ H' (λ_ _=>False) I' (fpX fr) st go) λr s5 ⟨u,hr,h5⟩=>?_
   subst hr
   refine thn h5 λ_ s6 ⟨x,H6,I6,r6,y6,st6,fr6⟩=>?_
   have I6':=I6.pinned (fpX fr6) (T.obj _ _ st6)
   refine thn (hg s3 H3 _ s6 _ H6 x u _ I6' r6 (ho.own _ _ _ _ (step x H6 y6))) λ_ s7 ⟨σ7,H7,I7,q7,l7,o7⟩=>?_
   have cov:∀ (i:Nat) v,(fP cap σ)[i]? = some (some v)->σ7[i]? = some (some v):=λi v e=>by
    obtain⟨j,c1,c2⟩:=kI e
    by_cases hi:i<own
    ·exact(C.oE hi c1).elim
    ·rw[o7 i (by omega)];exact e
   have back:∀ {H8:Hp}{s8:Shared},Inv (eP X scope cl N fp s3 H3) ([]++kC fp s6.heap) σ7 H8 s8->Inv (eP X scope cl N fp s3 H3) [] (fP cap σ) H8 s8/\tn (i+1) s8.heap/\∀ b∈fp,H8 b=none:=λ{H8 s8} I8=>by
    refine⟨(Inv.iP (pins:=[]) I8).weak l7.symm cov,T.keep _ _ _ st6 λb hb o e=>(I8.pin (b,o) (aH _ (aH _ (fX hb e)))).1,λb hb=>?_⟩
    obtain⟨o,e,d⟩:=T.obj _ _ st6 b hb
    exact(I8.pin (b,o) (aH _ (aH _ (fX hb e)))).2.1
   refine thn (ht s3 H3 _ s7 σ7 H7 _ I7 q7) λb s8 ⟨H8,I8,q8⟩=>?_
   cases b with
   |false=>
    rw[ao aA]at q8 ⊢
    obtain⟨m',hm,w8⟩:=hNN _ _ q8
    obtain⟨J1,J2,J3⟩:=back I8
    exact⟨m',hm,i+1,acc,H8,J1,J2,J3,w8⟩
   |true=>
    rw[ar rfl]at q8 ⊢
    refine thn (he s3 H3 _ s8 σ7 H8 _ I8 q8) λv s9 ⟨y,H9,I9,r9,ha,hz,n9⟩=>?_
    obtain⟨m',hm,w9⟩:=hNN _ _ n9
    refine thn (eY _ s9 σ7 H9 (.ref s2.heap.objs.size) [y] (.ref s2.heap.objs.size) [v] (λ_ H10=>W (i+1) m' (acc ++ [y]) H10) I9 rfl (.cons r9 .nil) ⟨_,acc,y,rfl,rfl,ha,hz,w9⟩) λ_ s10 ⟨_,H10,I10,_,w10⟩=>?_
    obtain⟨J1,J2,J3⟩:=back I10
    exact⟨m',hm,i+1,acc ++ [y],H10,J1,J2,J3,w10⟩
 exact codeAny_compStart_list loop (T.self X.A 0 _ _ _ st4 loop)
theorem jy (hi:PI X tg iter wi)(hc:X.calm=true)(C:d7 X.env.scope X.N scope N own cap)(ho:mB own g)
  (hg:∀ cl fp s3 H3,PG (eP X scope cl N fp s3 H3) tg g) (ht:∀ cl fp s3 H3,qa (eP X scope cl N fp s3 H3) ifs tt) (he:∀ cl fp s3 H3,PE (eP X scope cl N fp s3 H3) elt te)
  (hs:∀ x,foldedSetIterable iter X.env x=pure x:=by intro _;rfl):PE X (.ListComp elt [⟨tg,iter,ifs,0⟩] scope pos) (tLC wi cap g tt te):=by
 intro pins s σ H Q I h
 obtain⟨cl,ecl,iM,lq⟩:=jO (scope:=scope) (env:=X.env) λy hy hf=>I.ok.has y.1 (C.fre y hy hf)
 rw[eval_ListComp]
 refine wpAny_comprehension_free (use:=none) rfl hs ecl C.kind C.loc (thn (hi pins s σ H _ I h) λxv s1 h1=>thn h1 λitv s2 h2=>?_)
 obtain⟨it,fp,tn,J,H2,e,I2,T,st2,f2,hw⟩:=h2
 subst e
 refine o8 (RR:=λacc C=>compPost (model X.prog X.w) X.A X.xe none (EP X pins σ Q) acc C) I2 T st2 f2 hc C ho iM lq (hg cl fp) (ht cl fp) (he cl fp) hw λl Ca s' H' m' I' hn kT hP q=>?_
 exact⟨m',hn,λh'' sq=>⟨.ref l,H',ju I' hP kT sq,rfl,q⟩⟩
theorem uc {i:Nat}{x:Str}{pos' vW:Pos}(hN:X.N.Nodup)(hi':X.N[i]? = some x)(hx:X.env.scope.names.lookup x=some .local)(hi:PI X tg iter wi)(hc:X.calm=true)(C:d7 X.env.scope X.N scope N own cap)(ho:mB own g)
  (hg:∀ cl fp s3 H3,PG (eP X scope cl N fp s3 H3) tg g) (ht:∀ cl fp s3 H3,qa (eP X scope cl N fp s3 H3) ifs tt) (he:∀ cl fp s3 H3,PE (eP X scope cl N fp s3 H3) elt te)
  (hsw:swapsWith (.ListComp elt [⟨tg,iter,ifs,0⟩] scope pos) (some (.Name x pos')) vW.line X.env=pure true:=by rfl)
  (hs:∀ x,foldedSetIterable iter X.env x=pure x:=by intro _;rfl):PS X (.Assign [.Name x pos'] (.ListComp elt [⟨tg,iter,ifs,0⟩] scope pos) vW) (uy (tLC wi cap g tt te) (oY i)):=by
 intro pins s σ H D I h
 obtain⟨cl,ecl,iM,lq⟩:=jO (scope:=scope) (env:=X.env) λy hy hf=>I.ok.has y.1 (C.fre y hy hf)
 rw[exec_Assign_Name_used _ _ _ _ hsw]
 refine aw (wpAny_standAt (aw ?_))
 show wpAny _ X.A (do let _ <-comprehension (.ListComp elt [⟨tg,iter,ifs,0⟩] scope pos) scope X.env _ (newList []) false (eval iter X.env) (some (assign (.Name x pos') X.env))) _ _ s
 refine aw (aX (wpAny_comprehension_free (use:=some (assign (.Name x pos') X.env)) (Q:=λ_ s'=>SP X pins D .next s') rfl hs ecl C.kind C.loc
  (thn (hi pins s σ H _ I h) λxv s1 h1=>thn h1 λitv s2 h2=>?_)) (λ_ s' hq=>aP (aP hq)) λ_ _ e=>e)
 obtain⟨it,fp,tn,J,H2,e,I2,T,st2,f2,hw⟩:=h2
 subst e
 refine o8 (RR:=λacc C=>compPost (model X.prog X.w) X.A X.xe (some (assign (.Name x pos') X.env)) (λ_ s'=>SP X pins D .next s') acc C) I2 T st2 f2 hc C ho iM lq (hg cl fp) (ht cl fp) (he cl fp) hw λl Ca s' H' m' I' hn kT hP q=>?_
 show wpAny _ X.A (assign (.Name x pos') X.env (.ref l)) _ _ _
 refine wpAny_assign_Name (mF I' hN hi' (.inl hx) (v:=.ref l) rfl (λs5 I5 ⟨a,sb,ha⟩=>?_) (.inr hx))
 have hne:Ca≠a:=by
  rcases ha with z |z
  ·rw[z];exact hP.loc
  ·exact λe=>hP.cel x a z e.symm
 refine⟨m',hn.sameBut sb hne,λh'' sq=>⟨_,H',ju I5 hP kT sq,q⟩⟩
end
section
variable {K:PySem.W.Frag}{a l:Addr}{xs:List V}{g:TG}{tt:TT}{te:TE}{cap:List (Option Nat)}{σ:St}{Q:VK}{H1:Hp}
theorem tJ (Pv:Nat->List V->Hp->Prop)(h0:Pv 0 [] (upd H1 l (.lst [])))(hl:∀ i acc H,i<=xs.length->Pv i acc H->SqL K H a xs)
  (hs:∀ i x acc H,xs[i]? = some x->Pv i acc H->g x (fP cap σ) H λσ2 H2=>tt σ2 H2 λb H3=>
    if b=true then te σ2 H3 λy H4=>H4 l=some (.lst acc)/\acc.length<sizeLine/\Pv (i+1) (acc ++ [y]) (upd H4 l (.lst (acc ++ [y])))
    else Pv (i+1) acc H3) (hd:∀ acc H,Pv xs.length acc H->Q (.ref l) H):LcW (Itl K a) g tt te cap σ Q l H1:=by
 refine⟨λi m acc H=>m=xs.length-i/\i<=xs.length/\Pv i acc H,⟨xs.length,by simp,aQ _,h0⟩,?_⟩
 rintro i m acc H ⟨rfl,hi,p⟩
 have q:=hl i acc H hi p
 by_cases hlt:i<xs.length
 ·refine .inr ⟨⟨xs,xs[i],q,by simp[hlt]⟩,Pv (i+1),λmz H' p'=>⟨xs.length-(i+1),by omega,rfl,hlt,p'⟩,λx H' y=>?_⟩
  obtain⟨e,y⟩:=y
  subst e
  exact hs i x acc _ (y xs q) p
 ·have e:i=xs.length:=by omega
  subst e
  exact .inl ⟨⟨xs,q,ah _⟩,hd acc H p⟩
theorem cS {H:Hp}{l:Addr}{o:HO}(hn:H l=none):dc H (upd H l o):=λb u e=>by rw[dj (cZ e hn)];exact e
theorem jq {α:Type}(ds:List α)(p:α->Bool)(f:α->V)(hn:H1 l=none)(hx:SqL K H1 a xs)(hlen:xs.length=ds.length)(hz:xs.length<sizeLine)
  (hs:∀ (i:Nat) x d H,xs[i]? = some x->ds[i]? = some d->dc H1 H->∀ (P1:VK) (P0:Hp->Prop),(p d=true->P1 (f d) H)->(p d=false->P0 H)->
   g x (fP cap σ) H λσ2 H2=>tt σ2 H2 λb H3=>if b=true then te σ2 H3 P1 else P0 H3)
  (hq:Q (.ref l) (upd H1 l (.lst ((ds.filter p).map f)))):LcW (Itl K a) g tt te cap σ Q l H1:=by
 refine tJ (λi acc H=>acc=((ds.take i).filter p).map f/\H=upd H1 l (.lst acc)) ⟨rfl,rfl⟩ (λi acc H _ ⟨_,e⟩=>by rw[e];exact(cS hn).seq hx) ?_ ?_
 ·rintro i x acc H hi ⟨e1,e2⟩
  have hlt:i<xs.length:=(aC.mp hi).1
  have hd:ds[i]? = some (ds[i]'(by omega)):=by simp
  generalize ds[i]'(by omega)=d at hd
  have step:((ds.take (i+1)).filter p).map f=acc++(if p d=true then[f d]else[]):=by
   rw[take_succ_filter p ds i d hd,aZ,e1]
   cases p d<;>rfl
  refine hs i x d H hi hd (by rw[e2];exact cS hn) _ _ (λhp=>?_) (λhp=>?_)
  ·refine⟨by rw[e2,cT],?_,?_,?_⟩
   ·have h1:acc.length<=i:=by
     rw[e1,aa]
     exact ba (bt _ _) (by rw[bj];omega)
    omega
   ·rw[step,hp];rfl
   ·rw[e2,qd]
  ·refine⟨?_,e2⟩
   rw[step,hp,ao aA,bE]
 ·rintro acc H ⟨e1,e2⟩
  rw[hlen,cO]at e1
  rw[e2,e1]
  exact hq
end
mutual
def Dg (L T:Addr->List V->Prop):PyData->V->Prop
 |.none,v=>v = .non
 |.bool b,v=>v = .bl b
 |.int i,v=>v = .int i
 |.str x,v=>v = .str x
 |.list ds,v=>∃ a vs,v = .ref a/\L a vs/\Dgs L T ds vs
 |.tuple ds,v=>∃ a vs,v = .ref a/\T a vs/\Dgs L T ds vs
 |.dict _,_=>False
def Dgs (L T:Addr->List V->Prop):List PyData->List V->Prop
 |[],vs=>vs = []
 |d::ds,vs=>∃ v r,vs=v::r/\Dg L T d v/\Dgs L T ds r
end
mutual
theorem Dg.mono {L T L' T':Addr->List V->Prop}(hL:∀ a vs,L a vs->L' a vs)(hT:∀ a vs,T a vs->T' a vs):∀ {d:PyData}{v:V},Dg L T d v->Dg L' T' d v
 |.none,_,h=>by simpa only[Dg]using h
 |.bool _,_,h=>by simpa only[Dg]using h
 |.int _,_,h=>by simpa only[Dg]using h
 |.str _,_,h=>by simpa only[Dg]using h
 |.list ds,_,h=>by
  simp only[Dg]at h ⊢
  obtain⟨a,vs,e,l,q⟩:=h
  exact⟨a,vs,e,hL a vs l,Dgs.mono hL hT q⟩
 |.tuple ds,_,h=>by
  simp only[Dg]at h ⊢
  obtain⟨a,vs,e,l,q⟩:=h
  exact⟨a,vs,e,hT a vs l,Dgs.mono hL hT q⟩
 |.dict _,_,h=>by simp only[Dg]at h
theorem Dgs.mono {L T L' T':Addr->List V->Prop}(hL:∀ a vs,L a vs->L' a vs)(hT:∀ a vs,T a vs->T' a vs):∀ {ds:List PyData}{vs:List V},Dgs L T ds vs->Dgs L' T' ds vs
 |[],_,h=>by simpa only[Dgs]using h
 |d::ds,_,h=>by
  simp only[Dgs]at h ⊢
  obtain⟨v,r,e,l,q⟩:=h
  exact⟨v,r,e,Dg.mono hL hT l,Dgs.mono hL hT q⟩
end
section
variable {L T:Addr->List V->Prop}
theorem eO {i:Int}{v:V} :Dg L T (.int i) v↔v = .int i:=by simp only[Dg]
theorem jM {i:Str}{v:V} :Dg L T (.str i) v↔v = .str i:=by simp only[Dg]
theorem eF {ds:List PyData}{v:V} :Dg L T (.list ds) v↔∃ a vs,v = .ref a/\L a vs/\Dgs L T ds vs:=by simp only[Dg]
theorem eA {ds:List PyData}{v:V} :Dg L T (.tuple ds) v↔∃ a vs,v = .ref a/\T a vs/\Dgs L T ds vs:=by simp only[Dg]
theorem eE {vs:List V} :Dgs L T [] vs↔vs = []:=by simp only[Dgs]
theorem dD {d:PyData}{ds:List PyData}{vs:List V} :Dgs L T (d::ds) vs↔∃ v r,vs=v::r/\Dg L T d v/\Dgs L T ds r:=by simp only[Dgs]
theorem Dgs.length:∀ {ds:List PyData}{vs:List V},Dgs L T ds vs->vs.length=ds.length
 |[],_,h=>by rw[eE.mp h];rfl
 |d::ds,_,h=>by
  obtain⟨v,r,rfl,_,q⟩:=dD.mp h
  rw[aT,aT,Dgs.length q]
theorem gU:∀ {ns:List Int}{vs:List V},Dgs L T (ns.map .int) vs↔vs=ns.map V.int
 |[],vs=>eE
 |n::ns,vs=>by
  rw[bg,dD]
  constructor
  ·rintro⟨v,r,rfl,h1,h2⟩
   rw[eO.mp h1,gU.mp h2];rfl
  ·rintro rfl
   exact⟨_,_,rfl,eO.mpr rfl,gU.mpr rfl⟩
theorem Dgs.append:∀ {ds es:List PyData}{vs us:List V},Dgs L T ds vs->Dgs L T es us->Dgs L T (ds++es) (vs++us)
 |[],_,_,_,h,k=>by rw[eE.mp h];exact k
 |d::ds,_,_,_,h,k=>by
  obtain⟨v,r,rfl,h1,q⟩:=dD.mp h
  exact dD.mpr ⟨v,_,rfl,h1,Dgs.append q k⟩
theorem Dgs.one {d:PyData}{v:V}(h:Dg L T d v):Dgs L T [d] [v]:=dD.mpr ⟨v,[],rfl,h,eE.mpr rfl⟩
theorem Dgs.two {d e:PyData}{v u:V}(h:Dg L T d v)(k:Dg L T e u):Dgs L T [d,e] [v,u]:=dD.mpr ⟨v,[u],rfl,h,.one k⟩
theorem Dgs.get:∀ {ds:List PyData}{vs:List V}{i:Nat}{v:V},Dgs L T ds vs->vs[i]? = some v->∃ d,ds[i]? = some d/\Dg L T d v
 |[],_,_,_,h,e=>by rw[eE.mp h]at e;simp at e
 |d::ds,_,0,v,h,e=>by
  obtain⟨x,r,rfl,h1,q⟩:=dD.mp h
  simp at e;subst e
  exact⟨d,rfl,h1⟩
 |d::ds,_,i+1,v,h,e=>by
  obtain⟨x,r,rfl,h1,q⟩:=dD.mp h
  obtain⟨d',e1,e2⟩:=Dgs.get (i:=i) (v:=v) q (by simpa using e)
  exact⟨d',by simpa using e1,e2⟩
theorem Dgs.get':∀ {ds:List PyData}{vs:List V}{i:Nat}{d:PyData},Dgs L T ds vs->ds[i]? = some d->∃ v,vs[i]? = some v/\Dg L T d v
 |[],_,_,_,h,e=>by simp at e
 |d::ds,_,0,d',h,e=>by
  obtain⟨x,r,rfl,h1,q⟩:=dD.mp h
  simp at e;subst e
  exact⟨x,rfl,h1⟩
 |d::ds,_,i+1,d',h,e=>by
  obtain⟨x,r,rfl,h1,q⟩:=dD.mp h
  obtain⟨v,e1,e2⟩:=Dgs.get' (i:=i) (d:=d') q (by simpa using e)
  exact⟨v,by simpa using e1,e2⟩
theorem Dgs.insert:∀ {ds:List PyData}{vs:List V} (i:Nat) {d:PyData}{v:V},Dgs L T ds vs->Dg L T d v->Dgs L T (ds.take i++d::ds.drop i) (vs.take i++v::vs.drop i)
 |ds,vs,0,d,v,h,k=>dD.mpr ⟨v,vs,by simp,k,by simpa using h⟩
 |[],vs,i+1,d,v,h,k=>by rw[eE.mp h];simpa using Dgs.one k
 |x::ds,vs,i+1,d,v,h,k=>by
  obtain⟨y,r,rfl,h1,q⟩:=dD.mp h
  exact dD.mpr ⟨y,_,rfl,h1,Dgs.insert i q k⟩
end
abbrev Da (K:PySem.W.Frag)(H:Hp):PyData->V->Prop:=Dg (SqL K H) (SqT K H)
abbrev Das (K:PySem.W.Frag)(H:Hp):List PyData->List V->Prop:=Dgs (SqL K H) (SqT K H)
theorem fT {K:PySem.W.Frag}{H H':Hp}{a:Addr}{xs:List V}(e:dc H H')(h:SqT K H a xs):SqT K H' a xs:=by
 rcases h with(h |⟨o,h⟩)|h
 ·exact .inl (.inl (e _ _ h))
 ·exact .inl (.inr ⟨o,e _ _ h⟩)
 ·exact .inr h
theorem Da.same {K:PySem.W.Frag}{H H':Hp}(e:dc H H'){d:PyData}{v:V}(h:Da K H d v):Da K H' d v:=Dg.mono (λ_ _ q=>e.seq q) (λ_ _ q=>fT e q) h
theorem Das.same {K:PySem.W.Frag}{H H':Hp}(e:dc H H'){d:List PyData}{v:List V}(h:Das K H d v):Das K H' d v:=Dgs.mono (λ_ _ q=>e.seq q) (λ_ _ q=>fT e q) h
section
variable {X:Cx}{pins:List (Addr×Obj)}{σ:St}{H:Hp}{s:Shared}
mutual
theorem Da.reads (I:Inv X pins σ H s):∀ {d:PyData}{v:V}{u:Value},Da X.K H d v->RelV v u->∃ as,Reads s.heap u d as
 |.none,v,u,h,r=>by
  have e:v = .non:=by simpa only[Dg]using h
  subst e;cases r;exact⟨_,.none⟩
 |.bool b,v,u,h,r=>by
  have e:v = .bl b:=by simpa only[Dg]using h
  subst e;cases r;exact⟨_,.bool b⟩
 |.int i,v,u,h,r=>by
  have e:v = .int i:=by simpa only[Dg]using h
  subst e;obtain⟨t,rfl⟩:=r;exact⟨_,.int i t⟩
 |.str i,v,u,h,r=>by
  have e:v = .str i:=by simpa only[Dg]using h
  subst e;obtain⟨t,rfl⟩:=r;exact⟨_,.str i t⟩
 |.list ds,v,u,h,r=>by
  obtain⟨a,vs,rfl,l,q⟩:=eF.mp h
  cases r
  obtain⟨its,rv,p,hz⟩:=I.list l
  obtain⟨as,rs⟩:=Das.reads I q rv
  obtain⟨o,ho,hc,n,hd⟩:=p.isList
  exact⟨_,.list ho hc hd (by simpa using rs)⟩
 |.tuple ds,v,u,h,r=>by
  obtain⟨a,vs,rfl,l,q⟩:=eA.mp h
  cases r
  obtain⟨its,rv,p,hz⟩:=I.tuple l
  obtain⟨as,rs⟩:=Das.reads I q rv
  obtain⟨o,ho,hc,n,hd⟩:=p
  exact⟨_,.tuple ho hc hd (by simpa using rs)⟩
 |.dict _,v,u,h,r=>by simp only[Dg]at h
theorem Das.reads (I:Inv X pins σ H s):∀ {ds:List PyData}{vs:List V}{us:List Value},Das X.K H ds vs->Vals vs us->∃ as,ReadsAll s.heap us ds as
 |[],vs,us,h,r=>by
  rw[eE.mp h]at r;cases r;exact⟨_,.nil⟩
 |d::ds,vs,us,h,r=>by
  obtain⟨v,w,rfl,h1,q⟩:=dD.mp h
  cases r with
  |cons r1 r2=>
   obtain⟨as,e1⟩:=Da.reads I h1 r1
   obtain⟨bs,e2⟩:=Das.reads I q r2
   exact⟨_,.cons e1 e2⟩
end
end
section
variable {X:Cx}
def OkD (d:PyData):Prop:=d.canLay0=true/\d.depth<=20
def xN (K:PySem.W.Frag):R2:=λx y H Q=>∃ d e,Da K H d x/\Da K H e y/\OkD d/\OkD e/\Q (.bl (PyData.eqv d e)) H
def xJ (K:PySem.W.Frag):R2:=λx y H Q=>∃ d e,Da K H d x/\Da K H e y/\OkD d/\OkD e/\Q (.bl (!PyData.eqv d e)) H
theorem uN (hu:X.A.units+64<cLine):OpR X (compareOp .Eq) (xN X.K):=by
 intro pins s σ H x y v u Q I rx ry h
 obtain⟨d,e,h1,h2,o1,o2,q⟩:=h
 obtain⟨as,r1⟩:=Da.reads I h1 rx
 obtain⟨bs,r2⟩:=Da.reads I h2 ry
 exact SeqAt.compareEq_reads r1 r2 o1.1 o2.1 (by have:=o1.2;have:=o2.2;omega) ⟨.bl _,H,I,rfl,q⟩
theorem kE (hu:X.A.units+64<cLine):OpR X (compareOp .NotEq) (xJ X.K):=by
 intro pins s σ H x y v u Q I rx ry h
 obtain⟨d,e,h1,h2,o1,o2,q⟩:=h
 obtain⟨as,r1⟩:=Da.reads I h1 rx
 obtain⟨bs,r2⟩:=Da.reads I h2 ry
 exact SeqAt.compareNe_reads r1 r2 o1.1 o2.1 (by have:=o1.2;have:=o2.2;omega) ⟨.bl _,H,I,rfl,q⟩
def vE (ds:List PyData):Prop:=PyData.canLayAll0 ds=true/\PyData.depthAll ds<=20
def v5 (K:PySem.W.Frag)(neg:Bool):R2:=λx y H Q=>∃ ds d,Da K H (.list ds) y/\Da K H d x/\vE ds/\OkD d/\Q (.bl (if neg then !(ds.any λz=>PyData.eqv z d)else ds.any λz=>PyData.eqv z d)) H
theorem jk (hu:X.A.units+64<cLine):OpR X (compareOp .NotIn) (v5 X.K true):=by
 intro pins s σ H x y v u Q I rx ry h
 obtain⟨ds,d,h1,h2,o1,o2,q⟩:=h
 obtain⟨as,r1⟩:=Da.reads I h1 ry
 obtain⟨bs,r2⟩:=Da.reads I h2 rx
 exact SeqAt.notIn_list_reads r1 r2 o1.1 o2.1 (by have:=o1.2;have:=o2.2;omega) ⟨.bl _,H,I,rfl,q⟩
end
theorem fM {α:Type}{f:α->PyData}(h:∀ x,(f x).canLay0=true):∀ l:List α,PyData.canLayAll0 (l.map f)=true
 |[]=>by simp[PyData.canLayAll0]
 |x::l=>by simp[PyData.canLayAll0,h x,fM h l]
theorem d6 {α:Type}{f:α->PyData}{k:Nat}(h:∀ x,(f x).depth<=k):∀ l:List α,PyData.depthAll (l.map f)<=k
 |[]=>by simp[PyData.depthAll]
 |x::l=>by
  simp only[bg,PyData.depthAll]
  exact Nat.max_le.mpr ⟨h x,d6 h l⟩
def dI (ns:List Int):PyData:=.list (ns.map .int)
def dP (p:Int×Int):PyData:=.tuple [.int p.1,.int p.2]
def dJ (js:List (Int×Int)):PyData:=.list (js.map dP)
def dL (l:Int×List (Int×Int)):PyData:=.tuple [.int l.1,dJ l.2]
theorem nJ (i:Int):OkD (.int i):=⟨rfl,by simp[PyData.depth]⟩
theorem gS (ns:List Int):OkD (dI ns):=⟨by simp only[dI,PyData.canLay0];exact fM (λ_=>rfl) ns,by
 simp only[dI,PyData.depth]
 have:=d6 (f:=PyData.int) (k:=0) (λ_=>by simp[PyData.depth]) ns
 omega⟩
theorem pd (p:Int×Int):(dP p).canLay0=true:=by simp[dP,PyData.canLay0,PyData.canLayAll0]
theorem qz (p:Int×Int):(dP p).depth<=1:=by simp[dP,PyData.depth,PyData.depthAll]
theorem wd (p:Int×Int):OkD (dP p):=⟨pd p,by have:=qz p;omega⟩
theorem uP (js:List (Int×Int)):vE (js.map dP):=⟨fM pd js,by have:=d6 qz js;omega⟩
theorem kh {d:PyData}(h:OkD d):PyData.eqv d d=true:=SeqAt.eqv_refl d h.1
theorem uk (p q:Int×Int):PyData.eqv (dP p) (dP q)=decide (p=q):=by
 obtain⟨a,b⟩:=p
 obtain⟨c,d⟩:=q
 simp only[dP,PyData.eqv,PyData.eqvAll,cK]
 rw[bH]
 simp
theorem wY (js:List (Int×Int))(p:Int×Int):((js.map dP).any λz=>PyData.eqv z (dP p))=decide (p∈js):=by
 rw[List.any_map,bH,List.any_eq_true,decide_eq_true_iff]
 constructor
 ·rintro⟨x,hx,e⟩
  have e':PyData.eqv (dP x) (dP p)=true:=e
  rw[uk,decide_eq_true_iff]at e'
  rw[<-e'];exact hx
 ·intro h
  exact⟨p,h,by show PyData.eqv (dP p) (dP p)=true;rw[uk];simp⟩
theorem iC (ds:List PyData):PyData.eqv (.list ds) (.list [])=ds.isEmpty:=by
 cases ds<;>simp[PyData.eqv,PyData.eqvAll]
theorem nI:OkD (.list []):=gS []
section
variable {X:Cx}
theorem tN (its:List Value)(k:Nat)(y:Value):(its.toArray.extract 0 k).push y++its.toArray.extract k=(its.take k++y::its.drop k).toArray:=PySem.W.kl_ins_eq its k y
def tj:V->List V->Hp->VK->Prop:=λx vs H Q=>∃ l xs i y,x = .ref l/\vs = [.int i,y]/\H l=some (.lst xs)/\0<=i/\i<=xs.length/\xs.length<sizeLine/\Q .non (upd H l (.lst (xs.take i.toNat++y::xs.drop i.toNat)))
theorem qY:MtM X "list.insert" tj:=by
 intro pins s σ H x vs v us Q I rx rv h
 obtain⟨l,xs,i,y,rfl,rfl,hH,h0,h1,hz,q⟩:=h
 cases rx
 obtain⟨ui,u,rfl,ri,ru⟩:=rv.two
 obtain⟨t,rfl⟩:=ri
 obtain⟨z,its,n,r,hl,e⟩:=I.tG hH
 have hs:its.toArray.size<=sizeLine:=by rw[au];omega
 have hf:Builtin.List.listFitsIndex i=true:=by
  unfold Builtin.List.listFitsIndex
  have h63:(sizeLine:Nat)<2 ^ 62:=by rw[aO];decide
  simp only[bW,cG]
  constructor<;>omega
 refine call_meets PySem.F.slot_list_insert ⟨_,e,rfl⟩ PySem.F.entry_list_insert (PySem.F.args_list_insert_3 _ _ _) (PySem.AutoSeq1.list_insert_list_int_val_1 l its.toArray n i t u (by simp[hf]) hs) ⟨e,?_⟩
 refine⟨.non,_,I.wt (its':=its.take i.toNat++u::its.drop i.toNat) (ys:=xs.take i.toNat++y::xs.drop i.toNat) hH e ?_ ((r.take i.toNat).append (.cons ru (r.drop i.toNat))) ?_,rfl,q⟩
 ·have hk:(if i<0 then(i+(its.toArray.size:Int)).toNat else min i.toNat its.toArray.size)=i.toNat:=by
   rw[ao (by omega),au]
   omega
  show(its.toArray.extract 0 (if i<0 then(i+(its.toArray.size:Int)).toNat else min i.toNat its.toArray.size)).push u++its.toArray.extract (if i<0 then(i+(its.toArray.size:Int)).toNat else min i.toNat its.toArray.size)=_
  rw[hk,tN]
 ·rw[aY,aT,bj,bU]
  omega
end
def srt (ns:List Int):List Int:=ns.mergeSort (λa b=>decide (a<=b))
theorem jW (ns:List Int):(srt ns).Perm ns:=List.mergeSort_perm ns _
theorem oh (ns:List Int):(srt ns).Pairwise (· <= ·):=by
 have h:=List.pairwise_mergeSort (le:=λa b:Int=>decide (a<=b)) (by intro a b c h1 h2;simp only[cG]at *;omega) (by intro a b;simp only[Bool.or_eq_true,cG];omega) ns
 exact h.imp (by intro a b h;simpa using h)
theorem pC {a b:List Int}(hp:a.Perm b)(ha:a.Pairwise (· <= ·))(hb:b.Pairwise (· <= ·)):a=b:=PySem.W.ksm_same hp ha hb
theorem rD {a ns:List Int}(hp:a.Perm ns)(ha:a.Pairwise (· <= ·)):a=srt ns:=pC (hp.trans (jW ns).symm) ha (oh ns)
theorem qP {a b:List Int}(hp:a.Perm b):srt a=srt b:=rD ((jW a).trans hp) (oh a)
theorem sY {ns:List Int}{x:Int} :x∈srt ns↔x∈ns:=(jW ns).mem_iff
theorem jF (ns:List Int):(srt ns).length=ns.length:=(jW ns).length_eq
section
variable {X:Cx}
end
theorem Inv.qK {X:Cx}{pins:List (Addr×Obj)}{σ:St}{H:Hp}{s:Shared}{h':Heap}{t':Nat}{ch:List Addr}{xs:List V}{us:List Value}(I:Inv X pins σ H s)(hf:∀ b∈ch,iO X pins H b)
  (keep:∀ b o,b∉ch->s.heap.get? b=some o->h'.get? b=some o) (r:Vals xs us) (hz:xs.length<=sizeLine) (ht:h'.get? s.heap.objs.size=some {cls:=.type "tuple",data:=.seq us.toArray}):
  Inv X pins σ (upd H s.heap.objs.size (.tup xs)) {s with heap:=h',toks:=t'} :=by
 have hn:H s.heap.objs.size=none:=I.fresh
 have nch:∀ b u,H b=some u->b∉ch:=λb u q z=>by rw[(hf b z).1]at q;cases q
 refine I.step (g':=s.gens) (d':=s.drawn) (ch:=ch) (λb hb=>?_) (λb o _ _ hc q _=>keep b o hc q) (λb o _ _ hc q _=>⟨o.slots,keep b o hc q⟩) (λb o _ q n=>?_)
  (λb o hc q=>⟨o,keep b o hc q⟩) (λb ys q=>by rw[dj (cZ q hn)];exact q) (λb o ys q=>by rw[dj (cZ q hn)];exact q) (λb ps q=>⟨#[],by rw[dj (cZ q hn),q];simp⟩) (λm hm=>?_) (λb u q=>?_) I.bare
 ·obtain⟨f0,f1,f2,f3,f4,f5⟩:=hf b hb
  exact⟨f3,f1,f4,f5⟩
 ·rw[dj (aJ (ai q))];exact n
 ·obtain⟨o,es,ep,ho,r⟩:=hm
  exact⟨o,es,ep,keep _ o (λz=>(hf _ z).2.1 rfl) ho,r⟩
 ·by_cases hb:b=s.heap.objs.size
  ·subst hb
   rw[cT]at q
   cases q
   exact⟨hz,us,r,⟨_,ht,rfl,_,rfl⟩⟩
  ·rw[dj hb]at q
   refine(I.hok b u q).m7 (λc v hc q'=>keep c v ?_ q') (λc z=>by rw[dj (cZ z hn)];exact z) λc ys z=>by rw[dj (cZ z hn)];exact z
   rcases hc with z |z
   ·rw[z];exact nch b u q
   ·exact nch c _ z
section
variable {X:Cx}
end
section
variable {X:Cx}{tg:Expr}
end
section
variable {X:Cx}{e:Expr}{te:TE}{pos p2:Pos}
end
theorem i7 {X:Cx} :fQ X (.builtin "isinstance") (λxs H Q=>∃ x c t b,xs = [x,.ty c]/\ko X.K H x t/\PySem.W.kitOne X.K t (.type c)=some b/\Q (.bl b) H):=by
 intro pins s σ H xs us Q I r h
 obtain⟨x,c,t,b,rfl,ty,e,q⟩:=h
 obtain⟨u,u2,rfl,ru,rc⟩:=vals2 r
 cases rc
 exact q9 I ru ty e λtk=>⟨.bl b,H,I.tok tk,rfl,q⟩
theorem iV {K:PySem.W.Frag}{t:Value} :PySem.W.kitOne K t t=some true:=by unfold PySem.W.kitOne;rw[ar (by simp)]
structure Bl (mg:Str->Option Value):Prop where
 len:mg "len" = none
 range:mg "range" = none
 sorted:mg "sorted" = none
 enumerate:mg "enumerate" = none
 reversed:mg "reversed" = none
 min:mg "min" = none
 max:mg "max" = none
 list:mg "list" = none
 int:mg "int" = none
 isinstance:mg "isinstance" = none
structure Fn (K:PySem.W.Frag)(mg:Str->Option Value)(x:Str)(st:Stmt)(ps:List Str)(f:Addr)(fd:FuncData):Prop where
 F:Fun K x x st f fd
 m:mg x=some (.ref f)
 b:Binds K fd ps []
def below (js:List (Int×Int))(e:Int):List Int:=(js.filter λp=>decide (p.2=e)).map (·.1)
def above (js:List (Int×Int))(e:Int):List Int:=(js.filter λp=>decide (p.1=e)).map (·.2)
def inc (js:List (Int×Int))(e:Int):Nat:=(below js e).length+(above js e).length
def jn (js:List (Int×Int))(e:Int):List Int:=srt (below js e++above js e)
structure fO (l:Int×List (Int×Int)):Prop where
 one:1<=l.1
 most:l.1<=40
 len:l.2.length<=80
 inc:∀ e,inc l.2 e<=160
 ends:∀ p∈l.2,0<=p.1/\p.1<=p.2/\p.2<2*l.1
theorem inc_le (js:List (Int×Int))(e:Int):inc js e<=2*js.length:=by
 unfold inc below above
 rw[aa,aa]
 have h1:=bt (λp:Int×Int=>decide (p.2=e)) js
 have h2:=bt (λp:Int×Int=>decide (p.1=e)) js
 omega
def qI (H:Hp)(ns:List Int)(Q:VK):Prop:=∀ (p:Addr) (H':Hp),dc H H'->H p=none->H' p=some (.lst (ns.map V.int))->Q (.ref p) H'
theorem dc.upd {H H':Hp}{l:Addr}{o:HO}(s:dc H H')(hn:H l=none):dc H (upd H' l o):=λb u e=>by rw[dj (cZ e hn)];exact s b u e
theorem ki {K:PySem.W.Frag}{H:Hp}{ns:List Int}{v:V} :Da K H (dI ns) v↔∃ a,v = .ref a/\SqL K H a (ns.map V.int):=by
 unfold dI
 refine Iff.trans eF ?_
 constructor
 ·rintro⟨a,vs,rfl,h,q⟩
  rw[gU.mp q]at h
  exact⟨a,rfl,h⟩
 ·rintro⟨a,rfl,h⟩
  exact⟨a,_,rfl,h,gU.mpr rfl⟩
theorem fZ {K:PySem.W.Frag}{H:Hp}{ns:List Int}{p:Addr}(h:H p=some (.lst (ns.map V.int))):Da K H (dI ns) (.ref p):=ki.mpr ⟨p,rfl,SqL.of h⟩
theorem qD {K:PySem.W.Frag}{H:Hp}{l:Int×List (Int×Int)}{v:V}(h:Da K H (dL l) v):∃ a b,v = .ref a/\SqT K H a [.int l.1,.ref b]/\∃ vs,SqL K H b vs/\Das K H (l.2.map dP) vs:=by
 unfold dL at h
 obtain⟨a,vs,rfl,ht,q⟩:=eA.mp h
 obtain⟨v1,r,rfl,h1,q⟩:=dD.mp q
 obtain⟨v2,r,rfl,h2,q⟩:=dD.mp q
 cases eE.mp q
 cases eO.mp h1
 unfold dJ at h2
 obtain⟨b,us,rfl,hl,q⟩:=eF.mp h2
 exact⟨a,b,rfl,ht,us,hl,q⟩
theorem sE {K:PySem.W.Frag}{H:Hp}{js:List (Int×Int)}{vs:List V}{i:Nat}{x:V}(h:Das K H (js.map dP) vs)(e:vs[i]? = some x):∃ a p,js[i]? = some p/\x = .ref a/\SqT K H a [.int p.1,.int p.2]:=by
 obtain⟨d,e1,hd⟩:=Dgs.get h e
 rw[ay]at e1
 cases q:js[i]? with
 |none=>rw[q]at e1;cases e1
 |some p=>
  rw[q]at e1
  cases e1
  unfold dP at hd
  obtain⟨a,us,rfl,ht,q⟩:=eA.mp hd
  obtain⟨v1,r,rfl,h1,q⟩:=dD.mp q
  obtain⟨v2,r,rfl,h2,q⟩:=dD.mp q
  cases eE.mp q
  cases eO.mp h1
  cases eO.mp h2
  exact⟨a,p,rfl,rfl,ht⟩
theorem pP (ms:List Int):vE (ms.map PyData.int):=⟨fM (λ_=>rfl) ms,by have:=d6 (f:=PyData.int) (k:=0) (λ_=>by simp[PyData.depth]) ms;omega⟩
theorem sQ (ms:List Int)(x:Int):((ms.map PyData.int).any λz=>PyData.eqv z (.int x))=decide (x∈ms):=by
 rw[List.any_map,bH,List.any_eq_true,decide_eq_true_iff]
 constructor
 ·rintro⟨y,hy,e⟩
  have e':PyData.eqv (.int y) (.int x)=true:=e
  simp only[PyData.eqv,beq_iff_eq]at e'
  rw[<-e'];exact hy
 ·intro h
  exact⟨x,h,by show PyData.eqv (.int x) (.int x)=true;simp[PyData.eqv]⟩
theorem il {i:Nat}{x:V}{σ:St}{H:Hp}{te:TE}{P1:VK}{P0:Hp->Prop}(h:te (σ.set i (some x)) H P1):oY i x σ H (λσ2 H2=>rC σ2 H2 λb H3=>if b=true then te σ2 H3 P1 else P0 H3):=vc (A:=te (σ.set i (some x)) H P1) (B:=P0 H) h
theorem fY {α:Type}(xs:List α):(xs.filter λ_=>true)=xs:=by simp
section
variable {X:Cx}{K:PySem.W.Frag}
theorem pM (hK:X.K=K)(hu:X.A.units+64<cLine):OpR X (compareOp .NotIn) (v5 K true):=hK ▸ jk hu
theorem tK (hK:X.K=K):IxR X (v3 K):=hK ▸ pW
end
structure JS (J:It)(n:Nat)(H1:Hp)(it:Nat->V->Prop):Prop where
 go:∀ i H,dc H1 H->i<n->J.go i H
 yld:∀ i H x H',dc H1 H->i<n->J.yld i H x H'->H'=H/\it i x
 stop:∀ H,dc H1 H->J.stop n H
theorem eu {K:PySem.W.Frag}{a:Addr}{xs:List V}{H1:Hp}(hx:SqL K H1 a xs):JS (Itl K a) xs.length H1 (λi x=>xs[i]? = some x):=
 ⟨λi H s hi=>⟨xs,xs[i],s.seq hx,by simp⟩,λi H x H' s hi y=>⟨y.1,y.2 xs (s.seq hx)⟩,λH s=>⟨xs,s.seq hx,ah _⟩⟩
theorem sf {α:Type}{J:It}{n:Nat}{it:Nat->V->Prop}{l:Addr}{g:TG}{tt:TT}{te:TE}{cap:List (Option Nat)}{σ:St}{Q:VK}{H1:Hp}(S:JS J n H1 it)(ds:List α)(p:α->Bool)(f:α->V)(hn:H1 l=none)(hlen:n=ds.length)(hz:n<sizeLine)
  (hs:∀ (i:Nat) x d H,it i x->ds[i]? = some d->dc H1 H->∀ (P1:VK) (P0:Hp->Prop),(p d=true->P1 (f d) H)->(p d=false->P0 H)->
   g x (fP cap σ) H λσ2 H2=>tt σ2 H2 λb H3=>if b=true then te σ2 H3 P1 else P0 H3)
  (hq:Q (.ref l) (upd H1 l (.lst ((ds.filter p).map f)))):LcW J g tt te cap σ Q l H1:=by
 refine⟨λi m acc H=>m=n-i/\i<=n/\acc=((ds.take i).filter p).map f/\H=upd H1 l (.lst acc),⟨n,by simp,aQ _,rfl,rfl⟩,?_⟩
 rintro i m acc H ⟨rfl,hi,e1,e2⟩
 have sm:dc H1 H:=by rw[e2];exact cS hn
 by_cases hlt:i<n
 ·refine .inr ⟨S.go i H sm hlt,λmz H'=>mz=((ds.take (i+1)).filter p).map f/\H'=upd H1 l (.lst mz),λmz H' ⟨p1,p2⟩=>⟨n-(i+1),by omega,rfl,hlt,p1,p2⟩,λx H' y0=>?_⟩
  obtain⟨e,y⟩:=S.yld i H x H' sm hlt y0
  clear y0
  subst e
  have hd:ds[i]? = some (ds[i]'(by omega)):=by simp
  generalize ds[i]'(by omega)=d at hd
  have step:((ds.take (i+1)).filter p).map f=acc++(if p d=true then[f d]else[]):=by
   rw[take_succ_filter p ds i d hd,aZ,e1]
   cases p d<;>rfl
  refine hs i x d H' y hd sm _ _ (λhp=>?_) (λhp=>?_)
  ·refine⟨by rw[e2,cT],?_,?_,?_⟩
   ·have h1:acc.length<=i:=by
     rw[e1,aa]
     exact ba (bt _ _) (by rw[bj];omega)
    omega
   ·rw[step,hp];rfl
   ·rw[e2,qd]
  ·refine⟨?_,e2⟩
   rw[step,hp,ao aA,bE]
 ·have e:i=n:=by omega
  subst e
  refine .inl ⟨S.stop H sm,?_⟩
  rw[hlen,cO]at e1
  rw[e2,e1]
  exact hq
abbrev Mv:=(Str×Int)×List Int
def dMv (m:Mv):PyData:=.tuple [.tuple [.str m.1.1,.int m.1.2],dI m.2]
def dMs (ms:List Mv):PyData:=.list (ms.map dMv)
def fr (l:Int×List (Int×Int))(ns:List Int)(e:Int):List Int:=(jn l.2 e).filter λt=> !decide (t/2∈ns.map (· / 2))
def onM (ns:List Int)(e:Int):Mv:=(("on",e),ns.drop 1 ++ [e])
def qG (ns:List Int)(e:Int):Mv:=(("back",e),oth e::ns.dropLast)
def mvs (l:Int×List (Int×Int))(ns:List Int):List Mv:=(fr l ns (oth (ns.getLastD 0))).map (onM ns)++(fr l ns (ns.headD 0)).map (qG ns)
def Lf (H H2:Hp)(t:Addr):Addr->List V->Prop:=λa us=>H2 a=some (.lst us)/\H a=none/\a≠t
theorem je {K:PySem.W.Frag}{H:Hp}{t b:Addr}{vs xs:List V}{o:HO}(ht:H t=some (.lst vs))(h:SqT K H b xs):SqT K (upd H t o) b xs:=by
 rcases h with(h |⟨o,h⟩)|h
 ·exact .inl (.inl (by rw[dj (qt h ht (by intro z;cases z))];exact h))
 ·exact .inl (.inr ⟨o,by rw[dj (qt h ht (by intro z;cases z))];exact h⟩)
 ·exact .inr h
theorem Dgs.grow {K:PySem.W.Frag}{H H2 H5:Hp}{t:Addr}{o:HO}{vs:List V}{ds:List PyData}{us:List V}(D:Dgs (Lf H H2 t) (SqT K H2) ds us)(S5:dc H2 H5)(ht:H5 t=some (.lst vs)):
  Dgs (Lf H (upd H5 t o) t) (SqT K (upd H5 t o)) ds us:=
 Dgs.mono (λa us ⟨h1,h2,h3⟩=>⟨by rw[dj h3];exact S5 _ _ h1,h2,h3⟩) (λa us h=>je ht (fT S5 h)) D
theorem mI {K:PySem.W.Frag}{H H2 H5:Hp}{t p1 p4 p5:Addr}{vs:List V}{ms:List Mv}{w:Str}{e:Int}{xs:List Int}(S:dc H H2)(hn:H t=none)(ht:H2 t=some (.lst vs))(D:Dgs (Lf H H2 t) (SqT K H2) (ms.map dMv) vs)
  (S5:dc H2 H5) (h1:H5 p1=some (.tup [.str w,.int e])) (n4:H2 p4=none) (h4:H5 p4=some (.lst (xs.map V.int))) (h5:H5 p5=some (.tup [.ref p1,.ref p4])):
  dc H (upd H5 t (.lst (vs ++ [.ref p5])))/\(upd H5 t (.lst (vs ++ [.ref p5]))) t=some (.lst (vs ++ [.ref p5]))/\
   Dgs (Lf H (upd H5 t (.lst (vs ++ [.ref p5]))) t) (SqT K (upd H5 t (.lst (vs ++ [.ref p5])))) ((ms ++ [((w,e),xs)]).map dMv) (vs ++ [.ref p5]):=by
 have ht5:=S5 _ _ ht
 have q4:p4≠t:=(cZ ht n4).symm
 refine⟨dc.upd (S.trans S5) hn,cT,?_⟩
 rw[aZ]
 refine Dgs.append (D.grow S5 ht5) (Dgs.one ?_)
 refine eA.mpr ⟨p5,_,rfl,je ht5 (SqT.of h5),Dgs.two ?_ ?_⟩
 ·exact eA.mpr ⟨p1,_,rfl,je ht5 (SqT.of h1),Dgs.two (jM.mpr rfl) (eO.mpr rfl)⟩
 ·exact eF.mpr ⟨p4,_,rfl,⟨by rw[dj q4];exact h4,dc.free S n4,q4⟩,gU.mpr rfl⟩
def sS (K:PySem.W.Frag)(H:Hp)(ms:List Mv)(Q:VK):Prop:=∀ (p:Addr) (vs:List V) (H':Hp),dc H H'->H p=none->H' p=some (.lst vs)->Dgs (Lf H H' p) (SqT K H') (ms.map dMv) vs->Q (.ref p) H'
theorem sH {K:PySem.W.Frag}{H H':Hp}{ms:List Mv}{p:Addr}{vs:List V}(h:H' p=some (.lst vs))(D:Dgs (Lf H H' p) (SqT K H') (ms.map dMv) vs):Da K H' (dMs ms) (.ref p):=
 eF.mpr ⟨p,vs,rfl,SqL.of h,Dgs.mono (λa us h=>SqL.of h.1) (λ_ _ h=>h) D⟩
theorem sJ (ns:List Int):l0 (ns.map V.int) (some 1) none=(ns.drop 1).map V.int:=by
 unfold l0
 rw[HT.ox]
 have e:HT.sIx (ns.map V.int).length 0 (some 1)=min 1 (ns.map V.int).length:=HT.sZ _ _ 1
 rw[e,aa,List.map_drop]
 cases ns with
 |nil=>rfl
 |cons a r=>
  have e1:min 1 (a::r).length=1:=by simp
  rw[e1]
  simp
  exact aM (by simp)
theorem sL (ns:List Int):l0 (ns.map V.int) none (some (-1))=ns.dropLast.map V.int:=by
 unfold l0
 have e:HT.sIx (ns.map V.int).length (ns.map V.int).length (some (-1))=ns.length-1:=by
  have h:=HT.tW (-1) (ns.map V.int).length (ns.map V.int).length
  rw[aa]at h ⊢
  rw[ar (by decide)]at h
  omega
 rw[e,HT.ox,List.drop_zero,Nat.sub_zero,<-List.map_take,List.dropLast_eq_take]
theorem km {ns:List Int}(h:ns≠ []):atI (ns.map V.int) (-1)=some (V.int (ns.getLastD 0)):=by
 obtain⟨r,x,rfl⟩:∃ r x,ns=r ++ [x]:=⟨ns.dropLast,ns.getLast h,(List.dropLast_concat_getLast h).symm⟩
 rw[aZ]
 show atI (r.map V.int ++ [V.int x]) (-1)=_
 rw[ph]
 have e:(r ++ [x]).getLastD 0=x:=by simp[List.getLastD_eq_getLast?]
 rw[e]
theorem sP {ns:List Int}(h:ns≠ []):atI (ns.map V.int) 0=some (V.int (ns.headD 0)):=by
 cases ns with
 |nil=>exact absurd rfl h
 |cons a r=>exact hV (j:=0) rfl
abbrev NoL:Addr->List V->Prop:=λ_ _=>False
abbrev Ps (K:PySem.W.Frag)(H:Hp)(js:List (Int×Int))(vs:List V):Prop:=Dgs NoL (SqT K H) (js.map dP) vs
theorem Ps.same {K:PySem.W.Frag}{H H':Hp}{js:List (Int×Int)}{vs:List V}(D:Ps K H js vs)(S:dc H H'):Ps K H' js vs:=Dgs.mono (λ_ _ h=>h) (λ_ _ h=>fT S h) D
theorem Ps.w6 {K:PySem.W.Frag}{H:Hp}{js:List (Int×Int)}{vs us:List V}{t:Addr}{o:HO}(D:Ps K H js vs)(ht:H t=some (.lst us)):Ps K (upd H t o) js vs:=Dgs.mono (λ_ _ h=>h) (λ_ _ h=>je ht h) D
theorem Ps.das {K:PySem.W.Frag}{H:Hp}{js:List (Int×Int)}{vs:List V}(D:Ps K H js vs):Das K H (js.map dP) vs:=Dgs.mono (λ_ _ h=>h.elim) (λ_ _ h=>h) D
theorem Ps.da {K:PySem.W.Frag}{H:Hp}{js:List (Int×Int)}{vs:List V}{t:Addr}(D:Ps K H js vs)(ht:H t=some (.lst vs)):Da K H (dJ js) (.ref t):=eF.mpr ⟨t,vs,rfl,SqL.of ht,D.das⟩
theorem Ps.len {K:PySem.W.Frag}{H:Hp}{js:List (Int×Int)}{vs:List V}(D:Ps K H js vs):vs.length=js.length:=by rw[D.length,aa]
theorem tw {K:PySem.W.Frag}{H:Hp}{p:Addr}{x:Int×Int}(h:H p=some (.tup [.int x.1,.int x.2])):Dg NoL (SqT K H) (dP x) (.ref p):=eA.mpr ⟨p,_,rfl,SqT.of h,Dgs.two (eO.mpr rfl) (eO.mpr rfl)⟩
theorem Ps.ins {K:PySem.W.Frag}{H:Hp}{js:List (Int×Int)}{vs:List V}{t p:Addr}{x:Int×Int}{o:HO}(i:Nat)(D:Ps K H js vs)(ht:H t=some (.lst vs))(hp:H p=some (.tup [.int x.1,.int x.2])):Ps K (upd H t o) (js.take i++x::js.drop i) (vs.take i ++ .ref p::vs.drop i):=by
 show Dgs _ _ ((js.take i++x::js.drop i).map dP) _
 rw[aZ,bg,List.map_take,List.map_drop]
 exact Dgs.insert i (D.w6 ht) (Dg.mono (λ_ _ h=>h) (λ_ _ h=>je ht h) (tw hp))
theorem rf {K:PySem.W.Frag}{H:Hp}{l:Int×List (Int×Int)}{p t:Addr}(h:H p=some (.tup [.int l.1,.ref t]))(hd:Da K H (dJ l.2) (.ref t)):Da K H (dL l) (.ref p):=eA.mpr ⟨p,_,rfl,SqT.of h,Dgs.two (eO.mpr rfl) hd⟩
theorem rN {α:Type}(l:List α)(i:Nat)(x:α):(l.take i++x::l.drop i).Perm (x::l):=by
 have h:=List.perm_middle (a:=x) (l₁:=l.take i) (l₂:=l.drop i)
 rw[cn]at h
 exact h
theorem uR (i j:Int):(if j<i then j else i)=min i j:=by omega
theorem uS (i j:Int):(if j>i then j else i)=max i j:=by omega
theorem vA {ns:List Int}{i:Int}(h0:0<=i)(h1:i<ns.length):∃ x,ns[i.toNat]? = some x/\x∈ns/\atI (ns.map V.int) i=some (V.int x):=by
 have hlt:i.toNat<ns.length:=by omega
 refine⟨ns[i.toNat],by simp,List.getElem_mem _,?_⟩
 have h:=hV (xs:=ns.map V.int) (j:=i.toNat) (v:=V.int ns[i.toNat]) (by rw[ay];simp)
 have e1:((i.toNat:Nat):Int)=i:=by omega
 rw[e1]at h
 exact h
end TL
namespace L2
open PySem PySem.Spec PySem.Calls PyProof.Rows PySem.W
section
variable {prog:Program}{w:World}{A:Around}{E:Value->Shared->Prop}{s:Shared}{K:Frag}{a C:Addr}{o:Obj}
structure ExC (K:Frag)(C:Addr):Prop where
 obj:mroIn K C (.type "object")=some true
 bex:mroIn K C (.type "BaseException")=some true
 cls:findIn K (.ref C) "__class__" = some (some (.builtin "object.__class__"))
 ga:findIn K (.ref C) "__getattribute__" = some (some (.builtin "BaseException.__getattribute__"))
 gn:findIn K (.ref C) "__getattr__" = some none
 isc:(clsIn K C).isSome=true
end
section
variable {P:Program}{w:World}{H H1:Hp}{h:Heap}{a:Addr}{o:HO}
theorem fm.some (x:fm P w H h a o):∃ u,h.get? a=Option.some u:=by
 cases o with
 |lst xs=>obtain⟨_,_,_,_,e⟩:=x;exact⟨_,e⟩
 |tup xs=>obtain⟨_,_,_,p⟩:=x;obtain⟨u,e,_⟩:=p;exact⟨u,e⟩
 |dK kvs=>obtain⟨_,_,_,_,o,_,_,e,_⟩:=x;exact⟨_,e⟩
 |dT kvs=>obtain⟨_,_,_,_,o,_,_,e,_⟩:=x;exact⟨_,e⟩
 |set S n=>obtain⟨o,_,_,_,e,_⟩:=x;exact⟨_,e⟩
 |ins C dx fs=>obtain⟨_,_,_,e,_⟩:=x;exact⟨_,e⟩
 |own y=>obtain⟨_,e⟩:=x;exact⟨_,e⟩
 |xd fs=>obtain⟨_,⟨_,_,_,e,_⟩,_⟩:=x;exact⟨_,e⟩
 |rng lo hi=>obtain⟨_,_,_,e⟩:=x;exact⟨_,e⟩
 |frz ob u=>obtain⟨e,_⟩:=x;exact⟨_,e⟩
 |tbl ps=>exact⟨_,(show h.get? a=Option.some _ from x)⟩
 |met f y=>exact⟨_,(show h.get? a=Option.some _ from x)⟩
 |ext φ=>obtain⟨_,⟨_,e⟩,_⟩:=x;exact⟨_,e⟩
theorem HOk.none_of (x:HOk P w H h)(e:h.get? a=Option.none):H a=Option.none:=by
 cases q:H a with
 |none=>rfl
 |some u=>obtain⟨v,z⟩:=(x a u q).some;rw[e]at z;cases z
end
structure Fl0 (P:Program)(w:World)(base:Heap)(l:List Env)(H H1:Hp)(h0 B h:Heap):Prop where
 bas:base.StaysIn B
 hok:HOk P w H1 B
 kp:∀ b o,h0.get? b=some o->H b=none->b∉frs l->B.get? b=some o
 thr:∀ b o,h0.get? b=some o->b∉frs l->∃ o',B.get? b=some o'
 un:Un (frs l) [] H H1 h0 h
theorem Fl0.step {P:Program}{w:World}{base:Heap}{l:List Env}{H H1:Hp}{h0 B h h':Heap}(x:Fl0 P w base l H H1 h0 B h)(st:B.StaysIn h')(ff:h.FunFrames B l)(ff':h'.FunFrames B l)(sm:h.UpToSlots h'):
  Fl0 P w base l H H1 h0 B h':=by
 refine⟨x.bas,x.hok,x.kp,x.thr,⟨λb o q n hb _=>st b o (x.kp b o q n hb),λb o q n hb _=>?_,x.un.free,λb o q _=>?_,x.un.kz,x.un.kf,x.un.kA⟩⟩
 ·obtain⟨sl,e⟩:=x.un.slot b o q n hb (by simp)
  obtain⟨_,o2,e2,nf⟩:=ff.mem hb
  rw[e]at e2;cases e2
  obtain⟨sl',e'⟩:=sm b _ e nf
  exact⟨sl',e'⟩
 ·by_cases hb:b∈frs l
  ·obtain⟨_,o2,e2,_⟩:=ff'.mem hb
   exact⟨o2,e2⟩
  ·obtain⟨o',e⟩:=x.thr b o q hb
   exact⟨o',st b o' e⟩
structure Fl (P:Program)(w:World)(base:Heap)(l:List Env)(H H1:Hp)(h0:Heap)(e C:Addr)(B h:Heap):Prop extends Fl0 P w base l H H1 h0 B h where
 fly:∃ a0,Heap.FlyingW B l e (.ref C) a0 h
def CXr (P:Program)(w:World)(base:Heap):CXT:=λl H s E ev s'=>
 ∃ e C H1 B,ev = .ref e/\s'.os=s.os/\AllBare s'.gens/\Fl P w base l H H1 s.heap e C B s'.heap/\E (.ref C) (some e) H1
section
variable {X:Cx}{pins:List (Addr×Obj)}{σ:St}{H H1:Hp}{s s':Shared}{e C:Addr}{B:Heap}
theorem Fl.inv (x:Fl X.prog X.w X.base X.stack H H1 s.heap e C B s'.heap)(I:Inv X pins σ H s)(ho:s'.os=s.os)(hg:AllBare s'.gens):Inv X pins σ H1 s':=by
 obtain⟨a0,f⟩:=x.fly
 exact I.sO (ch:=[]) ho x.un (x.hok.kept f.1) hg (λb z=>absurd z (by simp))
theorem rM {M:Model}{E:Value->Shared->Prop}{Q:Unit->Shared->Prop}{h':Heap}{vs:List Value}(I:Inv X pins σ H s)(hst:X.stack=X.env::X.outer)(hf:X.env.frame=some X.env.locals)(hex:X.ex = [])
  (hx:Heap.MadeExcOf s.heap h' e (.ref C) vs) (hQ:∀ B h'',Fl X.prog X.w X.base X.outer X.H₀ H X.s₀.heap e C B h''->Q () {s with heap:=h''}):
  wpAny M X.A (leaving X.env (.ref e)) Q E {s with heap:=h'} :=by
 have hfr:=I.ok.frames
 rw[hst]at hfr
 have tO:=I.stack
 rw[hst]at tO
 have hin:∀ env∈(X.env::X.outer),∀ b,env.frame=some b->b∈frs (X.env::X.outer):=λenv he b hb=>List.mem_filterMap.mpr ⟨env,he,hb⟩
 have nb:∀ b,b≠X.env.locals->b∉X.fs->b∉frs (X.env::X.outer):=λb h1 h2 hb=>by
  unfold frs at hb
  rw[bR,hf]at hb
  rcases aG.mp hb with z |z
  ·exact h1 z
  ·exact h2 z
 have neL:∀ b o,X.s₀.heap.get? b=some o->b≠X.env.locals:=λb o e=>aJ (aE (ai e) I.ok.above)
 refine wpAny_leaves_madeW (base:=hideAll s.heap (frs (X.env::X.outer))) hfr hf (λb o q=>of_hideAll _ q) (funFrames_hide tO hin) hx λh'' t x1 x2 x3 x4=>?_
 have hok:HOk X.prog X.w H (hideAll s.heap (frs (X.env::X.outer))):=λb u q=>by
  refine(I.hok b u q).m7 (λc v hc z=>hideAll_get _ z λhm=>?_) (λ_ z=>z) λ_ _ z=>z
  have hn:H c=none:=I.m6 c (by rw[hst];exact hm)
  rcases hc with rfl |hc
  ·rw[hn]at q;cases q
  ·rw[hn]at hc;cases hc
 have z0:Fl0 X.prog X.w X.base X.outer X.H₀ H X.s₀.heap (hideAll s.heap (frs (X.env::X.outer))) h':=by
  have ub:Un X.fs [] X.H₀ H X.s₀.heap s.heap:=by have:=I.base;rw[hex]at this;exact this
  refine⟨λb o q=>hideAll_get _ (I.bk b o q) λhm=>?_,hok,λb o q n hb=>hideAll_get _ (ub.keep b o q n hb (by simp)) (nb b (neL b o q) hb),λb o q hb=>?_,ub.trans (Un.kept hx.keeps)⟩
  ·have:=(tO.mem hm).1
   rw[q]at this;cases this
  ·obtain⟨o',e1⟩:=ub.there b o q (by simp)
   exact⟨o',hideAll_get _ e1 (nb b (neL b o q) hb)⟩
 have ff:h'.FunFrames (hideAll s.heap (frs (X.env::X.outer))) X.outer:=by
  obtain⟨_,_,z⟩:=(funFrames_hide tO hin).of_keeps λb o hb _=>⟨o,hx.keeps b o hb,rfl⟩
  exact z
 exact hQ _ h'' ⟨z0.step x1.1 ff x1.2.2.1 x4,_,x1⟩
theorem tq {M:Model}{E:Value->Shared->Prop}{Q:Unit->Shared->Prop}(I:Inv X pins σ H s)(hst:X.stack=X.env::X.outer)(hf:X.env.frame=some X.env.locals)(hex:X.ex = [])
  (ho:s'.os=s.os) (hg:AllBare s'.gens) (x:Fl X.prog X.w X.base X.stack H H1 s.heap e C B s'.heap) (hQ:∀ B h'',Fl X.prog X.w X.base X.outer X.H₀ H1 X.s₀.heap e C B h''->Q () {s' with heap:=h''}):
  wpAny M X.A (leaving X.env (.ref e)) Q E s':=by
 have J:=x.inv I ho hg
 have hfr:=I.ok.frames
 obtain⟨a0,f⟩:=x.fly
 have nb:∀ b,b≠X.env.locals->b∉X.fs->b∉frs X.stack:=λb h1 h2 hb=>(aG.mp (I.jE b hb)).elim h1 h2
 have neL:∀ b o,X.s₀.heap.get? b=some o->b≠X.env.locals:=λb o e=>aJ (aE (ai e) I.ok.above)
 rw[hst]at hfr f
 have ub:Un X.fs [] X.H₀ H X.s₀.heap s.heap:=by have:=I.base;rw[hex]at this;exact this
 have uj:Un X.fs [] X.H₀ H1 X.s₀.heap s'.heap:=by have:=J.base;rw[hex]at this;exact this
 have z0:Fl0 X.prog X.w X.base X.outer X.H₀ H1 X.s₀.heap B s'.heap:=by
  refine⟨x.bas,x.hok,λb o q n hb=>x.kp b o (ub.keep b o q n hb (by simp)) (ub.free b o q n (by simp)) (nb b (neL b o q) hb),λb o q hb=>?_,uj⟩
  obtain⟨o',e1⟩:=ub.there b o q (by simp)
  exact x.thr b o' e1 (nb b (neL b o q) hb)
 have ff:s'.heap.FunFrames B X.outer:=f.2.2.1.2.2
 exact wpAny_leaves_onW hfr hf f λh'' x1 x2=>hQ B h'' ⟨z0.step x1.1 ff x1.2.2.1 x2,a0,x1⟩
end
section
variable {P:Program}{w:World}{K:PySem.W.Frag}{mg:Str->Option Value}{base:Heap}{N:List Str}{qual:Str}{scope:Scope}{f:Addr}{cd:Value}{A:Around}{outer:List Env}{s₀:Shared}{H₀:Hp}{E:XK}
def Raises (X:Cx)(E:XK):Prop:=∀ (pins:List (Addr×Obj)) (σ:St) (H:Hp) (s:Shared) (h':Heap) (e C:Addr) (vs:List Value),Inv X pins σ H s->Heap.MadeExcOf s.heap h' e (.ref C) vs->E (.ref C) (some e) H->X.xe (.ref e) {s with heap:=h'}
theorem gH:Raises (mv (CXr P w base) P w K mg base N qual scope f cd A outer s₀ H₀ E) E:=λpins σ H s h' e C vs I hx q=>
 rM I rfl rfl rfl hx λB h'' z=>⟨e,C,H,B,rfl,I.os,I.bare,z,q⟩
theorem mL:Passes (CXr P w base) (mv (CXr P w base) P w K mg base N qual scope f cd A outer s₀ H₀ E) E:=λpins σ H s e s' I hx=>by
 obtain⟨a,C,H1,B,rfl,ho,hg,z,q⟩:=hx
 exact tq I rfl rfl rfl ho hg z λB' h'' z'=>⟨a,C,H1,B',rfl,ho.trans I.os,hg,z',q⟩
end
theorem tV {K:Frag}{h:Heap}{C:Addr}{bmB:List Value}{newId:String}(X:K.In h)(q:excIn K C bmB newId=true):
  ∃ bm N nm qn bs hdct sn sub ab col dd k0 k1 k2 k3 k5 mN,h.get? C=some (excClassObj nm qn C N bs bm hdct sn sub ab col dd k0 k1 k2 k3 k5 newId)/\h.Ns N mN/\mN "__init__" = none/\OwnTail h bmB bm:=by
 unfold excIn at q
 split at q
 ·rename_i d1 c1 l1 lk
  split at q
  ·rename_i D1 tl j0 j1 j2 j3 nn j5 e1 e2
   simp only[bW,beq_iff_eq,Bool.not_eq_true']at q
   obtain⟨⟨⟨⟨⟨q1,q2⟩,q3⟩,q4⟩,q5⟩,q6⟩:=q
   subst q1 q2
   cases c1
   dsimp only at e1 q3 q5 q6
   subst e1 q3
   cases l1
   dsimp only at e2
   subst e2
   exact⟨tl,_,_,_,_,_,_,_,_,_,d1,j0,j1,j2,j3,j5,_,X _ _ lk,.of_isNs (isNs_of_in X q5),nsMap_none_of_in X q5 q6,tail_of_in X q4⟩
  ·cases q
 ·cases q
section
variable {X:Cx}{E:XK}{x:Str}{np jN pos:Pos}{C:Addr}{bmB:List Value}{Bn newId ve:String}{e₀:Expr}{rest:List Expr}{ta:TA}
def ux (C:Addr)(E:XK)(ta:TA):TS:=λ_ σ H=>ta σ H λvs H1=>vs.length<=sizeLine/\∀ e,H1 e=none->E (.ref C) (some e) H1
theorem ig (hR:Raises X E)(hc:X.calm=true)(hg:Gl X x)(hm:X.mg x=some (.ref C))(q:excIn X.K C bmB newId=true)(FB:ExcBaseFacts Bn newId ve bmB)(ha:PA X (e₀::rest) ta)
  (he:starEach (e₀::rest) X.env=(false,eval e₀ X.env)::starEach rest X.env:=by rfl) (hpl:(backTo jN (starEach rest X.env)).any (·.1)=false:=by rfl) (hd:(x==("__debug__" :Str))=false:=by decide):
  PS X (.Raise (some (.Call (.Name x np) (e₀::rest) [] jN)) none pos) (ux C E ta):=by
 intro pins s σ H D I h
 obtain⟨tl,N,nm,qn,bs,hdct,sn,sub,ab,col,dd,k0,k1,k2,k3,k5,mN,hC,hN,hni,T⟩:=tV I.mod.kin q
 refine wpAny_Raise_call_subT (C:=C) (nm:=nm) (q:=qn) (N:=N) (bs:=bs) (bm:=tl) (hdct:=hdct) (sn:=sn) (sub:=sub) (ab:=ab) (col:=col) (dd:=dd) (k0:=k0) (k1:=k1) (k2:=k2) (k3:=k3) (k5:=k5)
  FB (mN:=mN) (T.hasType FB.hasBase) (I.ok.hd hc) (by rw[he];show(false||(backTo jN (starEach rest X.env)).any (·.1))=false;rw[hpl];rfl) hni (ly I hg hm ⟨rfl,?_⟩ hd)
 have h2:=ha jN pins s σ H _ I h
 rw[he]at h2 ⊢
 exact Calls.evalArgs_plain (aX h2 (λus s1 ⟨vs,H1,I1,r,z1,z2⟩=>⟨rfl,r.length ▸ z1,I1.bk _ _ hC,hN.keeps I1.bk,T.keeps I1.bk,λh' e hx=>hR pins σ H1 s1 h' e C us I1 hx (z2 e (I1.hok.none_of hx.new))⟩) λ_ _ y=>y)
end
section
variable {X:Cx}{pins:List (Addr×Obj)}{σ:St}{H H1:Hp}{s s':Shared}{e C:Addr}{B:Heap}
abbrev Cx.Aq (X:Cx)(e:Addr):Cx:={X with A:=X.A.mark (some (.ref e)),calm:=false,xe:=λ_ _=>False}
end
section
variable {X:Cx}{CX:CXT}{k:Nat}{f:Addr}{fd:FuncData}{ps:List Str}{sp:Sp}{dvs:List V}{ds:List Value}{E:St->XK}{x:Str}{p pos:Pos}{e:Expr}{es:List Expr}{t:TA}
end
abbrev Cx.xa (X:Cx)(pn:List (Addr×Obj))(W:Value->Shared->Prop):Cx:={X with pn:=X.pn++pn,xe:=W}
section
variable {X:Cx}{pins pn:List (Addr×Obj)}{σ:St}{H:Hp}{s:Shared}{W:Value->Shared->Prop}
end
abbrev Ends.gone (D:Ends)(j:Nat):Ends:={nx:=λσ H=>D.nx (σ.set j none) H,rt:=D.rt,bk:=λσ H=>D.bk (σ.set j none) H,ct:=λσ H=>D.ct (σ.set j none) H}
section
variable {X:Cx}{body AO:List Stmt}{b₀:Stmt}{x n:Str}{np wD pos:Pos}{D:Addr}{j:Nat}{tb:(St->XK)->TS}{th:TS}
end
open TL
section
variable {P:Program}{w:World}{K:PySem.W.Frag}{mg:Str->Option Value}{base:Heap}
theorem Fun.okX {x qual:Str}{st:Stmt}{f:Addr}{fd:FuncData}{N ps:List Str}{k:Nat}{sp:Sp}(F:Fun K x qual st f fd)(S:dE N ps (cW st))(len:∀ vs H Q E,sp vs H Q E->vs.length=ps.length)
  (oX:∀ (cdv:Value) (A:Around) (outer:List Env) (s:Shared) (H:Hp) (vs:List V) (Q:VK) (E:XK),iN k (A.deeper (envOfC qual (cW st) s.heap.objs.size f cdv))->sp vs H Q E->
   ∃ t,PSs (mv (CXr P w base) P w K mg base N qual (cW st) f cdv A outer s H E) (gp st) t/\t {nx:=λ_ H'=>Q .non H',rt:=Q} (start N vs) H):dw P w K mg base (CXr P w base) (k+1) f fd ps sp:=by
 obtain⟨oc,od,kV,doc,pm,an,cdv,ct,osl,rfl,lk,hcd⟩:=F.ex
 exact uh lk hcd S len λA outer s H vs Q E hr hsp=>oX cdv A outer s H vs Q E hr hsp
end
abbrev bmV:List Value:=[.type "ValueError",.type "Exception",.type "BaseException",.type "object"]
structure Xc (K:Frag)(mg:Str->Option Value)(x:Str)(C:Addr):Prop where
 m:mg x=some (.ref C)
 q:excIn K C bmV "ValueError.__new__" = true
 e:ExC K C
section
variable {X:Cx}
end
structure p9 (K:Frag)(x:Str)(C:Addr):Prop where
 b:nsIn K mainGlobals x=some (some (.ref C))
 q:excIn K C bmV "ValueError.__new__" = true
 o:mroIn K C (.type "object")=some true
 p:mroIn K C (.type "BaseException")=some true
 r:findIn K (.ref C) "__class__" = some (some (.builtin "object.__class__"))
 g:findIn K (.ref C) "__getattribute__" = some (some (.builtin "BaseException.__getattribute__"))
 h:findIn K (.ref C) "__getattr__" = some none
 i:isClsIn K C=true
 t:typeIn K (.ref C)=some (.type "type")
section
variable {K:Frag}{h:Heap}{mg:Str->Option Value}{x:Str}{C D:Addr}
theorem p9.isc (a:p9 K x C):(clsIn K C).isSome=true:=by
 have:=a.i
 unfold isClsIn at this
 exact this
theorem p9.ex (a:p9 K x C):ExC K C:=⟨a.o,a.p,a.r,a.g,a.h,a.isc⟩
theorem p9.xc (a:p9 K x C)(X:K.In h)(G:h.Ns mainGlobals mg):Xc K mg x C:=⟨mg_of X G a.b,a.q,a.ex⟩
variable {c1 c2 c3 c4 c5 c6 c7:Addr}
end
end L2
namespace TL
open PySem PySem.Spec PyProof.Rows L2
structure Bm (mg:Str->Option Value):Prop extends Bl mg where
 zip:mg "zip" = none
 sum:mg "sum" = none
 all:mg "all" = none
 set:mg "set" = none
 tuple:mg "tuple" = none
 abs:mg "abs" = none
 bool:mg "bool" = none
 dict:mg "dict" = none
 str:mg "str" = none
theorem Inv.sW {X:Cx}{pins:List (Addr×Obj)}{σ:St}{H:Hp}{s:Shared}{h':Heap}{t':Nat}{ch:List Addr}(I:Inv X pins σ H s)(hf:∀ b∈ch,iO X pins H b)
  (keep:∀ b o,b∉ch->s.heap.get? b=some o->h'.get? b=some o):Inv X pins σ H {s with heap:=h',toks:=t'} :=by
 have nch:∀ b u,H b=some u->b∉ch:=λb u q z=>by rw[(hf b z).1]at q;cases q
 refine I.step (g':=s.gens) (d':=s.drawn) (ch:=ch) (λb hb=>?_) (λb o _ _ hc q _=>keep b o hc q) (λb o _ _ hc q _=>⟨o.slots,keep b o hc q⟩) (λ_ _ _ _ n=>n)
  (λb o hc q=>⟨o,keep b o hc q⟩) (λ_ _ e=>e) (λ_ _ _ e=>e) (λb ps e=>⟨#[],by rw[e];simp⟩) (λm hm=>?_) (λb u q=>?_) I.bare
 ·obtain⟨f0,f1,f2,f3,f4,f5⟩:=hf b hb
  exact⟨f3,f1,f4,f5⟩
 ·obtain⟨o,es,ep,ho,r⟩:=hm
  exact⟨o,es,ep,keep _ o (λz=>(hf _ z).2.1 rfl) ho,r⟩
 ·refine(I.hok b u q).m7 (λc v hc q'=>keep c v ?_ q') (λc z=>z) λc ys z=>z
  rcases hc with z |z
  ·rw[z];exact nch b u q
  ·exact nch c _ z
def Itz (K:PySem.W.Frag)(a b:Addr):It:=
 ⟨λi H=>∃ xs ys x y,SqL K H a xs/\SqL K H b ys/\xs[i]? = some x/\ys[i]? = some y,
  λi H v H'=>∃ p,H p=none/\v = .ref p/\∀ xs ys x y,SqL K H a xs->SqL K H b ys->xs[i]? = some x->ys[i]? = some y->H'=upd H p (.tup [x,y]),
  λi H=>∃ xs ys,SqL K H a xs/\SqL K H b ys/\(xs.length<=i\/ys.length<=i)⟩
theorem rB {P:Program}{w:World}{K:PySem.W.Frag}{es:List Expr}{x1:Nat}{pt:Pos}{a b z TI TO i1 i2:Addr}(D:ZipApart z TI TO i1 i2 a b):
  Turn P w K (.Tuple es x1 pt) (Itz K a b) [z,TI,TO,i1,i2] z (λi h=>IsZip h z TI TO .none/\IsPair h TI (.ref i1) (.ref i2)/\(∃ u v,IsPair h TO u v)/\h.IsListIter i1 a i/\h.IsListIter i2 b i) where
 mem:=by simp
 obj:=λi h st c hc=>by
  obtain⟨hz,h1,⟨u,v,h2⟩,h3,h4⟩:=st
  obtain⟨o3,q3,_,d3⟩:=h3
  obtain⟨o4,q4,_,d4⟩:=h4
  simp only[aG,b6,or_false]at hc
  rcases hc with rfl |rfl |rfl |rfl |rfl
  ·exact⟨_,hz,λv z=>by cases z⟩
  ·exact⟨_,h1,λv z=>by cases z⟩
  ·exact⟨_,h2,λv z=>by cases z⟩
  ·exact⟨_,q3,λv z=>by rw[d3]at z;cases z⟩
  ·exact⟨_,q4,λv z=>by rw[d4]at z;cases z⟩
 keep:=λi h h' ⟨hz,h1,⟨u,v,h2⟩,h3,h4⟩ k=>⟨k z (by simp) _ hz,k TI (by simp) _ h1,⟨u,v,k TO (by simp) _ h2⟩,h3.at λo q=>k i1 (by simp) o q,h4.at λo q=>k i2 (by simp) o q⟩
 item:=by
  intro X hP hw hK hc i pins s σ H E I hf st hg
  subst hP hw hK
  obtain⟨hz,h1,⟨u0,v0,h2⟩,h3,h4⟩:=st
  obtain⟨xs,ys,x,y,hx,hy,ex,ey⟩:=hg
  obtain⟨its,rv,p,hzx⟩:=I.list hx
  obtain⟨jts,rw',p',hzy⟩:=I.list hy
  obtain⟨u,hu,ru⟩:=rv.get ex
  obtain⟨v,hv,rv'⟩:=rw'.get ey
  refine wpAny_pyNext_zip_item D hz h1 h2 h3 h4 p.isList p'.isList (x:=u) (y:=v) (by simpa using hu) (by simpa using hv) λh' a1 a2 a3 a4 a5 a6 hk=>?_
  refine⟨_,rfl,?_⟩
  refine wpAny_letOwnedTupleGo_zip (s:={s with heap:=h'}) a1 λh'' m1 m2=>?_
  have lt:∀ {c o},s.heap.get? c=some o->s.heap.objs.size≠c:=λe=>Nat.ne_of_gt (ai e)
  have keep:∀ b o,b∉ [z,TI,TO,i1,i2]->s.heap.get? b=some o->h''.get? b=some o:=λb o hb q=>m2.extBut b o (λz=>hb (by simp[z])) (hk b o (λz=>hb (by simp[z])) (λz=>hb (by simp[z])) (λz=>hb (by simp[z])) (λz=>hb (by simp[z])) q)
  have ht:h''.get? s.heap.objs.size=some {cls:=.type "tuple",data:=.seq [u,v].toArray} :=m2.extBut _ _ (lt hz) a5
  have J1:Inv X pins σ (upd H s.heap.objs.size (.tup [x,y])) {s with heap:=h'',toks:=s.toks} :=Inv.qK I hf keep (.cons ru (.cons rv' .nil)) (by show 2<=sizeLine;decide) ht
  have hn:H s.heap.objs.size=none:=I.fresh
  refine⟨.ref s.heap.objs.size,_,J1,rfl,⟨_,hn,rfl,λxs' ys' x' y' q1 q2 q3 q4=>?_⟩,⟨m1,?_,⟨_,_,m2.extBut _ _ D.TOz a2⟩,a3.extBut m2.extBut D.i1z,a4.extBut m2.extBut D.i2z⟩,λc hb=>?_⟩
  ·have e1:=I.lR q1 hx
   have e2:=I.lR q2 hy
   subst e1 e2
   rw[ex]at q3
   rw[ey]at q4
   cases q3
   cases q4
   rfl
  ·exact m2.extBut _ _ D.TIz (hk _ _ D.TIz D.TITO D.TIi1 D.TIi2 h1)
  ·have q:∃ o,s.heap.get? c=some o:=by
    obtain⟨o3,q3,_,d3⟩:=h3
    obtain⟨o4,q4,_,d4⟩:=h4
    have hb':=hb
    simp only[aG,b6,or_false]at hb'
    rcases hb' with rfl |rfl |rfl |rfl |rfl
    ·exact⟨_,hz⟩
    ·exact⟨_,h1⟩
    ·exact⟨_,h2⟩
    ·exact⟨_,q3⟩
    ·exact⟨_,q4⟩
   obtain⟨o,q⟩:=q
   rw[dj (aJ (ai q))]
   exact(hf c hb).1
 done:=by
  intro X hP hw hK hc i pins s σ H E I hf st hg
  subst hP hw hK
  obtain⟨hz,h1,⟨u0,v0,h2⟩,h3,h4⟩:=st
  obtain⟨xs,ys,hx,hy,e⟩:=hg
  obtain⟨its,rv,p,hzx⟩:=I.list hx
  obtain⟨jts,rw',p',hzy⟩:=I.list hy
  have l1:=rv.length
  have l2:=rw'.length
  refine wpAny_pyNext_zip_end (I.ok.hd hc) D hz h1 h2 h3 h4 p.isList p'.isList ?_ λh' hk=>⟨rfl,Inv.sW (t':=s.toks) I hf λb o hb q=>hk b o (λz=>hb (by simp[z])) (λz=>hb (by simp[z])) (λz=>hb (by simp[z])) (λz=>hb (by simp[z])) q⟩
  rcases e with e |e
  ·left;simp;omega
  ·right;simp;omega
 self:=λ_ _ _ _ _ ⟨hz,_⟩ h=>wpAny_pyIter_zip hz h
section
variable {X:Cx}
def ze (K:PySem.W.Frag)(ta:TA):TI:=λσ H R=>ta σ H λvs H1=>∃ a b,vs = [.ref a,.ref b]/\(∃ xs,SqL K H1 a xs)/\(∃ ys,SqL K H1 b ys)/\R (Itz K a b) H1
theorem uG {a b:Expr}{ta:TA}{p pos:Pos}{es:List Expr}{x1:Nat}{pt:Pos}(hg:Gl X "zip")(hm:X.mg "zip" = none)(ha:PA X [a,b] ta)(hs:starEach [a,b] X.env = [(false,eval a X.env),(false,eval b X.env)]:=by rfl)(hs2:starEach [b] X.env = [(false,eval b X.env)]:=by rfl):
  PI X (.Tuple es x1 pt) (.Call (.Name "zip" p) [a,b] [] pos) (ze X.K ta):=by
 intro pins s σ H R I h
 refine Call_ (lS I hg hm boot_zip (cz (thn (ha pos pins s σ H _ I h) λus s1 ⟨vs,H1,I1,r1,q1⟩=>?_) (by rw[hs,hs2]) (by rw[hs2];rfl)))
 obtain⟨a,b,e,⟨xs,hx⟩,⟨ys,hy⟩,q⟩:=q1
 subst e
 obtain⟨u,v,rfl,ru,rv⟩:=vals2 r1
 cases ru
 cases rv
 obtain⟨its,rv,p,hzx⟩:=I1.list hx
 obtain⟨jts,rw',p',hzy⟩:=I1.list hy
 have la:a<s1.heap.objs.size:=by obtain⟨o,n,e,_⟩:=p;exact ai e
 have lb:b<s1.heap.objs.size:=by obtain⟨o,n,e,_⟩:=p';exact ai e
 refine call_zip_2 p.isList p'.isList λh' k1 k2 k3 k4 k5 k6 k7=>?_
 refine wpAny_pyIter_zip (s:={s1 with heap:=h'}) k1 ?_
 have D:ZipApart (s1.heap.objs.size+4) (s1.heap.objs.size+2) (s1.heap.objs.size+3) s1.heap.objs.size (s1.heap.objs.size+1) a b:=by
  generalize s1.heap.objs.size=z at la lb
  have la':@LT.lt Nat _ a z:=la
  have lb':@LT.lt Nat _ b z:=lb
  constructor<;>first |exact(show @Ne Nat _ _ by omega)
 refine⟨s1.heap.objs.size+4,[s1.heap.objs.size+4,s1.heap.objs.size+2,s1.heap.objs.size+3,s1.heap.objs.size,s1.heap.objs.size+1],_,_,H1,rfl,I1.kept (t':=s1.toks) k7,rB D,⟨k1,k2,⟨_,_,k3⟩,k4,k5⟩,λc hc=>?_,q⟩
 have hb':s1.heap.objs.size<=c:=by
  simp only[aG,b6,or_false]at hc
  rcases hc with rfl |rfl |rfl |rfl |rfl
  ·exact cN _ _
  ·exact cN _ _
  ·exact cN _ _
  ·exact ah _
  ·exact cN _ _
 exact I1.tT hb' (I1.hok.fresh hb')
theorem kW:∀ {bs:List Bool}{us:List Value},Vals (bs.map V.bl) us->us=bs.map Value.bool
 |[],_,.nil=>rfl
 |b::bs,_,.cons r t=>by
  cases r
  rw[kW t];rfl
theorem sN (hc:X.calm=true):fQ X (.builtin "all") (λxs H Q=>∃ (a:Addr) (bs:List Bool),xs = [.ref a]/\SqL X.K H a (bs.map V.bl)/\Q (.bl (bs.all id)) H):=by
 intro pins s σ H xs us Q I r h
 obtain⟨a,bs,rfl,hx,q⟩:=h
 obtain⟨u,rfl,ru⟩:=vals1 r
 cases ru
 obtain⟨its,rv,p,hz⟩:=I.list hx
 have e:=kW rv
 subst e
 have hl:=p.isList
 have hlt:a<s.heap.objs.size:=by obtain⟨_,e,_⟩:=hl;exact ai e
 refine call_all_walk (wpAny_pyIter_list hl ?_)
 refine⟨s.heap.objs.size,[s.heap.objs.size,a],[s.heap.objs.size],(bs.map Value.bool).toArray.size,_,_,λi=>(bs[i]?).getD true,rfl,Walks.list (A:=X.A.in1) (I.ok.hd hc) _ a (aJ hlt) (bs.map Value.bool).toArray,
  ⟨⟨_,aV _ rfl,rfl,rfl⟩,hl.push _⟩,λi v s' Q' E' hP hQ=>?_,λh' tk hk=>?_⟩
 ·have hP':(bs.map Value.bool)[i]? = some v:=by simpa using hP
  rw[ay]at hP'
  cases q:bs[i]? with
  |none=>rw[q]at hP';cases hP'
  |some b=>
   rw[q]at hP'
   cases hP'
   have hQ':Q' b s':=by simpa [q]using hQ
   exact bS hQ'
 ·have e:((List.range (bs.map Value.bool).toArray.size).all λi=>(bs[i]?).getD true)=bs.all id:=by
   rw[au,aa];exact PyProof.Rows.LSm.range_all bs
  rw[e]
  have kk:∀ b x,s.heap.get? b=some x->h'.get? b=some x:=λb x e=>hk b x (λhm=>by rw[aS.mp hm]at e;exact bK _ (ai e)) (ak _ e)
  exact⟨.bl (bs.all id),H,I.kept (t':=tk) kk,rfl,q⟩
end
section
variable {K:PySem.W.Frag}{l:Addr}{g:TG}{tt:TT}{te:TE}{cap:List (Option Nat)}{σ:St}{Q:VK}{H1:Hp}{J:It}
theorem si (n:Nat)(Pv:Nat->List V->Hp->Prop)(h0:Pv 0 [] (upd H1 l (.lst [])))(go:∀ i acc H,i<n->Pv i acc H->J.go i H)(st:∀ acc H,Pv n acc H->J.stop n H)
  (hs:∀ i x acc H H',i<n->Pv i acc H->J.yld i H x H'->g x (fP cap σ) H' λσ2 H2=>tt σ2 H2 λb H3=>
    if b=true then te σ2 H3 λy H4=>H4 l=some (.lst acc)/\acc.length<sizeLine/\Pv (i+1) (acc ++ [y]) (upd H4 l (.lst (acc ++ [y])))
    else Pv (i+1) acc H3) (hd:∀ acc H,Pv n acc H->Q (.ref l) H):LcW J g tt te cap σ Q l H1:=by
 refine⟨λi m acc H=>m=n-i/\i<=n/\Pv i acc H,⟨n,by simp,aQ _,h0⟩,?_⟩
 rintro i m acc H ⟨rfl,hi,p⟩
 by_cases hlt:i<n
 ·exact .inr ⟨go i acc H hlt p,λmz H'=>Pv (i+1) mz H',λmz H' p'=>⟨n-(i+1),by omega,rfl,hlt,p'⟩,λx H' y=>hs i x acc H H' hlt p y⟩
 ·have e:i=n:=by omega
  subst e
  exact .inl ⟨st acc H p,hd acc H p⟩
theorem j9 {α:Type}(n:Nat)(ds:List α)(p:α->Bool)(f:α->V)(hn:H1 l=none)(hlen:n=ds.length)(hz:n<sizeLine)(go:∀ i H,dc H1 H->i<n->J.go i H)(st:∀ H,dc H1 H->J.stop n H)
  (hs:∀ i x d H H',dc H1 H->J.yld i H x H'->ds[i]? = some d->∀ (P1:VK) (P0:Hp->Prop),(∀ H2,p d=true->dc H H2->P1 (f d) H2)->(∀ H2,p d=false->dc H H2->P0 H2)->
   g x (fP cap σ) H' λσ2 H2=>tt σ2 H2 λb H3=>if b=true then te σ2 H3 P1 else P0 H3)
  (hq:∀ H',dc H1 H'->H' l=some (.lst ((ds.filter p).map f))->Q (.ref l) H'):LcW J g tt te cap σ Q l H1:=by
 refine si n (λi acc H=>acc=((ds.take i).filter p).map f/\dc H1 H/\H l=some (.lst acc)) ⟨rfl,cS hn,cT⟩ (λi acc H hi ⟨_,s,_⟩=>go i H s hi) (λacc H ⟨_,s,_⟩=>st H s) ?_ ?_
 ·rintro i x acc H H' hi ⟨e1,s,hl⟩ y
  have hd:ds[i]? = some (ds[i]'(by omega)):=by simp
  generalize ds[i]'(by omega)=d at hd
  have step:((ds.take (i+1)).filter p).map f=acc++(if p d=true then[f d]else[]):=by
   rw[cH,hd,List.filter_append,aZ,e1]
   congr 1
   by_cases hp:p d=true
   ·simp[hp]
   ·have hp':p d=false:=by simpa using hp
    simp[hp']
  have la:acc.length<sizeLine:=by
   have h1:acc.length<=i:=by
    rw[e1,aa]
    exact ba (bt _ _) (by rw[bj];omega)
   omega
  refine hs i x d H H' s y hd _ _ (λH2 hp s2=>?_) (λH2 hp s2=>?_)
  ·refine⟨s2 _ _ hl,la,?_,dc.upd (s.trans s2) hn,cT⟩
   rw[step,ar hp]
  ·refine⟨?_,s.trans s2,s2 _ _ hl⟩
   rw[step,ao (by rw[hp];exact aA),bE]
 ·rintro acc H ⟨e1,s,hl⟩
  rw[aM (by omega)]at e1
  subst e1
  exact hq H s hl
end
section
variable {X:Cx}{pins:List (Addr×Obj)}{σ:St}{H:Hp}{s:Shared}
end
section
variable {X:Cx}{pins:List (Addr×Obj)}{σ:St}{H1:Hp}{s2:Shared}{scope:Scope}{N:List Str}{own:Nat}{cap:List (Option Nat)}{cl:List (Str×Addr)}{fp:List Addr}
 {tg iter elt:Expr}{ifs:List Expr}{pos:Pos}{g:TG}{tt:TT}{te:TE}{wi:TI}
end
section
variable {X:Cx}
end
section
variable {l:Addr}{g:TG}{tt:TT}{te:TE}{cap:List (Option Nat)}{σ:St}{Q:VK}{H1:Hp}{J:It}
end
def hid (p:Addr)(H:Hp):Hp:=λb=>if b=p then none else H b
theorem kc {p:Addr}{H:Hp} :dc (hid p H) H:=λb o h=>by
 unfold hid at h
 by_cases e:b=p
 ·rw[ar e]at h;cases h
 ·rw[ao e]at h;exact h
theorem iW {p b:Addr}{H:Hp}(h:b≠p):hid p H b=H b:=by unfold hid;rw[ao h]
theorem lW {p:Addr}{H:Hp} :hid p H p=none:=by unfold hid;rw[ar rfl]
theorem kd {p:Addr}{H H':Hp}(s:dc H H'):dc (hid p H) (hid p H'):=λb o h=>by
 by_cases e:b=p
 ·subst e;rw[lW]at h;cases h
 ·rw[iW e]at h ⊢;exact s _ _ h
theorem nN {p:Addr}{H:Hp}{o:HO} :hid p (upd H p o)=hid p H:=by
 funext b
 by_cases e:b=p
 ·subst e;rw[lW,lW]
 ·rw[iW e,iW e,dj e]
theorem rJ {p:Addr}{H H':Hp}(s:dc H H')(hn:H p=none):dc H (hid p H'):=λb o h=>by
 rw[iW (cZ h hn)];exact s _ _ h
theorem tQ {K:PySem.W.Frag}{p a:Addr}{H:Hp}{vs xs:List V}(hp:H p=some (.lst vs))(h:SqT K H a xs):SqT K (hid p H) a xs:=by
 rcases h with(h |⟨o,h⟩)|h
 ·exact .inl (.inl (by rw[iW (qt h hp (by intro z;cases z))];exact h))
 ·exact .inl (.inr ⟨o,by rw[iW (qt h hp (by intro z;cases z))];exact h⟩)
 ·exact .inr h
section
variable {L T:Addr->List V->Prop}
end
theorem vz {xs:List V}{v:V}{i:Int}(h0:0<=i)(h:xs[i.toNat]? = some v):atI xs i=some v:=by
 have:=hV h
 rw[show((i.toNat:Nat):Int)=i by omega]at this
 exact this
section
variable {K:PySem.W.Frag}{l:Addr}{g:TG}{tt:TT}{te:TE}{cap:List (Option Nat)}{σ:St}{Q:VK}{H1:Hp}{J:It}
end
open PySem.W
theorem mq {e:Value}{env env':Env}(h:env.frame=env'.frame):noteFrame e env=noteFrame e env':=by
 unfold noteFrame PySem.frameOf
 rw[h]
structure FlH (P:Program)(w:World)(base:Heap)(l:List Env)(H H1:Hp)(h0:Heap)(e C L:Addr)(B h:Heap):Prop extends Fl0 P w base l H H1 h0 B h where
 held:∃ a0,Heap.HeldW B l e (.ref C) a0 L h
section
variable {X:Cx}{pins:List (Addr×Obj)}{σ:St}{H H1:Hp}{s s':Shared}{e C:Addr}{B:Heap}
theorem rT {M:Model}{E:Value->Shared->Prop}{Q:Unit->Shared->Prop}(I:Inv X pins σ H s)(hst:X.stack=X.env::X.outer)(hf:X.env.frame=some X.env.locals)(hex:X.ex = [])
  (ho:s'.os=s.os) (hg:AllBare s'.gens) (x:FlH X.prog X.w X.base X.stack H H1 s.heap e C X.env.locals B s'.heap) (hQ:∀ B h'',Fl X.prog X.w X.base X.outer X.H₀ H1 X.s₀.heap e C B h''->Q () {s' with heap:=h''}):
  wpAny M X.A (leaving X.env (.ref e)) Q E s':=by
 obtain⟨a0,f⟩:=x.held
 have J:Inv X pins σ H1 s':=I.sO (ch:=[]) ho x.un (x.hok.kept f.1) hg (λb z=>absurd z (by simp))
 have nb:∀ b,b≠X.env.locals->b∉X.fs->b∉frs X.stack:=λb h1 h2 hb=>(aG.mp (I.jE b hb)).elim h1 h2
 have neL:∀ b o,X.s₀.heap.get? b=some o->b≠X.env.locals:=λb o e=>aJ (aE (ai e) I.ok.above)
 have ub:Un X.fs [] X.H₀ H X.s₀.heap s.heap:=by have:=I.base;rw[hex]at this;exact this
 have uj:Un X.fs [] X.H₀ H1 X.s₀.heap s'.heap:=by have:=J.base;rw[hex]at this;exact this
 have z0:Fl0 X.prog X.w X.base X.outer X.H₀ H1 X.s₀.heap B s'.heap:=by
  refine⟨x.bas,x.hok,λb o q n hb=>x.kp b o (ub.keep b o q n hb (by simp)) (ub.free b o q n (by simp)) (nb b (neL b o q) hb),λb o q hb=>?_,uj⟩
  obtain⟨o',e1⟩:=ub.there b o q (by simp)
  exact x.thr b o' e1 (nb b (neL b o q) hb)
 rw[hst]at f
 have ff:s'.heap.FunFrames B X.outer:=f.2.2.1.2.2
 unfold leaving
 refine aw (wpAny_noteFrame_againW hf f.2.2.2 ?_)
 refine wpAny_landsW f λh'' hfl sm=>?_
 obtain⟨k1,k2,⟨_,_,k3⟩,k4⟩:=hfl
 exact hQ B h'' ⟨z0.step k1 ff k3 sm,a0,k1,k2,k3,k4⟩
end
def qH (X:Cx)(E:XK):Prop:=X.stack=X.env::X.outer/\X.env.frame=some X.env.locals/\∀ (pins:List (Addr×Obj)) (σ:St) (H:Hp) (s s':Shared) (e C:Addr) (H1:Hp) (B:Heap),Inv X pins σ H s->s'.os=s.os->AllBare s'.gens->
 FlH X.prog X.w X.base X.stack H H1 s.heap e C X.env.locals B s'.heap->E (.ref C) (some e) H1->X.xe (.ref e) s'
theorem oB {P:Program}{w:World}{K:PySem.W.Frag}{mg:Str->Option Value}{base:Heap}{N:List Str}{qual:Str}{scope:Scope}{f:Addr}{cd:Value}{A:Around}{outer:List Env}{s₀:Shared}{H₀:Hp}{E:XK} :
  qH (mv (CXr P w base) P w K mg base N qual scope f cd A outer s₀ H₀ E) E:=
 ⟨rfl,rfl,λpins σ H s s' e C H1 B I ho hg x q=>rT I rfl rfl rfl ho hg x λB' h'' z'=>⟨e,C,H1,B',rfl,ho.trans I.os,hg,z',q⟩⟩
section
variable {prog:Program}{w:World}{A:Around}{R:Result->Shared->Prop}{s:Shared}{XE:Value->Shared->Prop}
theorem nQ {elt target iter:Expr}{ifs:List Expr}{scope:Scope}{pos:Pos}{it acc:Value}{env:Env}(I:Nat->Shared->Prop)(err:∀ x s',XE x s'->notedBy (model prog w) A env (λx s''=>R (.error x) s'') x s')
  (turn:∀ n s,I n s->wpAny (model prog w) A (pyNext it) (λr s₁=>match r with
   |none=>R (.ok .next) s₁
   |some v=>wpAny (model prog w) A (letOwnedTupleGo target it v) (λ_ s₀=>wpAny (model prog w) A (assign target env v) (λ_ s₂=>
     wpAny (model prog w) A (mZ ifs env) (λok s₃=>
      if ok=true then wpAny (model prog w) A (eval elt env) (λx s₄=>
       wpAny (model prog w) A (call (.builtin "list.append") [acc,x]) (λ_ s₅=>∃ m,m<n/\I m s₅) XE s₄) XE s₃
      else ∃ m,m<n/\I m s₃) XE s₂) XE s₀) XE s₁) XE s)
  (n:Nat) (h:I n s):
  codeAny (model prog w) A (.compLoop (.ListComp elt [⟨target,iter,ifs,0⟩] scope pos) 0 it acc env) R s:=by
 refine codeAny_loop rfl I (λn s hI=>?_) n h
 show wpAny _ A ((compTurn (.ListComp elt [⟨target,iter,ifs,0⟩] scope pos) 0 it acc env).onRaise (λx=>do noteFrame x env;theTreesLotGoes x)) _ _ s
 refine wpAny_noted ?_
 rw[compTurn_list]
 refine aw (wpAny_standAt (aw (aX (turn n s hI) (λr s₁ h₁=>?_) err)))
 cases r with
 |none=>exact aP h₁
 |some v=>
  refine aw (aX h₁ (λ_ s₀ h₀=>?_) err)
  refine aw (aX h₀ (λ_ s₂ h₂=>aw (aX h₂ (λok s₃ h₃=>?_) err)) err)
  cases ok with
  |false=>exact aP ⟨rfl,h₃⟩
  |true=>
   exact aw (aw (aX h₃ (λx s₄ h₄=>aw (aX h₄ (λ_ s₅ h₅=>aP (aP ⟨rfl,h₅⟩)) err)) err))
end
section
variable {M:Model}{A:Around}{E:Value->Shared->Prop}{s:Shared}{env:Env}
def jv (M:Model)(A:Around)(E:Value->Shared->Prop)(Q:Value->Shared->Prop)(acc:Value)(cenv:Env)(r:Result)(s':Shared):Prop:=
 match r with
 |.ok _=>∃ m,s'.heap.Ns cenv.locals m/\∀ h',Heap.SameBut cenv.locals s'.heap h'->Q acc {s' with heap:=h'}
 |.error x=>∃ m,s'.heap.Ns cenv.locals m/\∀ h',Heap.SameBut cenv.locals s'.heap h'->wpAny M A (passOn "comprehension.variables-let-go" x cenv:Sem Value) (λ_ _=>False) E {s' with heap:=h'}
theorem jx {e:Expr}{scope:Scope}{pos:Pos}{rY first:Sem Value}{g:Comprehension}{gs:List Comprehension}{cl:List (Str×Addr)}{Q:Value->Shared->Prop}
  (hcl:clausesOf e=g::gs) (hs:∀ x,foldedSetIterable g.iter env x=pure x) (wJ:closureFor scope env=pure cl)
  (qw:scope.kind = .function) (vj:∀ x∈scope.names,x.2 = .local->scope.names.lookup x.1=some .local)
  (h:wpAny M A first (λx s₁=>wpAny M A (pyIter x) (λit s₂=>wpAny M A rY (λacc s₃=>
   wpAny M A (newFunctionEnv scope env.globals cl [] env.qual none .none (some env)) (λcenv s₄=>
    codeAny M A (.compStart e 0 it acc {cenv with scope:=relabel scope env}) (jv M A E Q acc {cenv with scope:=relabel scope env}) s₄) E s₃) E s₂) E s₁) E s):
  wpAny M A (comprehension e scope env pos rY false first none) Q E s:=by
 unfold comprehension
 rw[wJ,hcl]
 refine aw (aX h (λx s₁ h₁=>aw (wpAny_standAt (aw (wpAny_of_eq (hs x) (aw (cg (aX h₁ (λit s₂ h₂=>
  wpAny_standIf (aw (aX h₂ (λacc s₃ h₃=>aw (aP (aw (aX h₃ (λcenv s₄ h₄=>?_) λ_ _ h'=>h')))) λ_ _ h'=>h')))
   λ_ _ h'=>h'))))))) λ_ _ h'=>h')
 dsimp only
 have hv:∀ x∈(scope.names.filter λx=>(x.2 == .local||x.2 == .cell)&&x.1 !=(".0" :Str)).reverse,x.2 = .local->
   Env.kindOf {cenv with scope:=relabel scope env} x.1=some .local:=λx hx hl=>lookup_relabel_local (vj x (bG.mp (cu.mp hx)).1 hl)
 refine cg (aw (wpAny_attempt (cg (wpAny_run (codeAny_mono h₄ λr s' hr=>?_)))))
 cases r with
 |ok f=>
  obtain⟨m,hn,hr⟩:=hr
  exact aw (cg (wpAny_comp_letGo (cenv:={cenv with scope:=relabel scope env}) qw _ s' m hv hn λh' m' _ hs'=>aP (hr h' hs')))
 |error x=>
  obtain⟨m,hn,hr⟩:=hr
  exact aw (cg (wpAny_comp_letGo (cenv:={cenv with scope:=relabel scope env}) qw _ s' m hv hn λh' m' _ hs'=>aX (hr h' hs') (λ_ _ f=>f.elim) λ_ _ y=>y))
end
theorem ke {h h' base uo:Heap}(k:∀ b,base.get? b=none->uo.get? b=none):∀ {l:List Env},h.FunFrames base l->(∀ b∈frs l,h'.get? b=h.get? b)->h'.FunFrames uo l
 |[],_,_=>trivial
 |env::r,⟨hk,⟨L,o,hf,hn,ho,hd⟩,hr⟩,hs=>by
  have hL:L∈frs (env::r):=by unfold frs;rw[bR,hf];exact az
  refine⟨hk,⟨L,o,hf,k L hn,(hs L hL).trans ho,hd⟩,ke k hr λb hb=>hs b ?_⟩
  unfold frs at hb ⊢
  rw[bR,hf]
  exact aB _ hb
theorem iH {M:Model}{A:Around}{E:Value->Shared->Prop}{s:Shared}{base:Heap}{l:List Env}{e L:Addr}{cls a0:Value}{Q:Unit->Shared->Prop}(R:Heap.HeldW base l e cls a0 L s.heap)
  (h:∀ h',Heap.HeldW base l e cls a0 L h'->s.heap.UpToSlots h'->Q () {s with heap:=h'}):wpAny M A (setFlight (.ref e) (some L)) Q E s:=by
 obtain⟨hkb,hen,hl,oe,vs,T,oT,ts,he,vn,hd,h1,hnT,hTe,hT,hdT,h3⟩:=R
 have wB:3<ts.size:=(Array.getElem?_eq_some_iff.mp h3).1
 have other:∀ b,b≠T->(s.heap.update T (Obj.mapFields (·.setIfInBounds 3 ((some L).elim Value.none λf=>rawInt f)))).get? b=s.heap.get? b:=
  λb hb=>Heap.get?_update_other _ _ (cA hb)
 have oU:∀ b o,s.heap.get? b=some o->(∀ vs,o.data≠ .fields vs)->b≠T:=λb o hb hnf q=>by
  rw[q,hT]at hb;injection hb with hb;subst hb;exact hnf ts hdT
 unfold setFlight
 refine aw (wpAny_field he hd h1 ?_)
 rw[ar (show(Value.ref T !=Value.none)=true from by simp)]
 refine wpAny_setField hT hdT wB (h _ ⟨λb o hbo=>(other b λq=>by rw[q,hnT]at hbo;cases hbo).trans (hkb b o hbo),hen,
  hl.of_keeps λb o hb hnf=>⟨o,(other b (oU b o hb hnf)).trans hb,rfl⟩,?_⟩ λb o hb hnf=>⟨o.slots,(other b (oU b o hb hnf)).trans hb⟩)
 exact⟨oe,vs,T,_,_,(other e (cA hTe)).trans he,vn,hd,h1,hnT,hTe,Heap.get?_update_self _ hT (Obj.isFreed_of_fields (Obj.data_mapFields hdT _)),Obj.data_mapFields hdT _,by simp[wB]⟩
theorem nC {M:Model}{A:Around}{E:Value->Shared->Prop}{s:Shared}{base:Heap}{l:List Env}{env:Env}{vL:String}{e L:Addr}{cls a0:Value}{Q:Value->Shared->Prop}(R:Heap.HeldW base l e cls a0 L s.heap)(hf:env.frame=some L)
  (h:∀ h',Heap.HeldW base l e cls a0 L h'->s.heap.UpToSlots h'->E (.ref e) {s with heap:=h'}):wpAny M A (passOn vL (.ref e) env:Sem Value) Q E s:=by
 obtain⟨_,_,_,oe,vs,T,oT,ts,he,_,hd,h1,_⟩:=id R
 unfold PySem.passOn
 refine aw (wpAny_field he hd h1 ?_)
 rw[ao (show ¬((Value.ref T==Value.none)=true) from by simp),hf]
 first
  |exact aw (iH R λh' hh sm=>wpAny_throw (h h' hh sm))
  |exact aw (aP (aw (iH R λh' hh sm=>wpAny_throw (h h' hh sm))))
section
variable {X:Cx}{pins:List (Addr×Obj)}{σ:St}{H H3:Hp}{s s3:Shared}{scope:Scope}{N:List Str}{own:Nat}{cap:List (Option Nat)}{cl:List (Str×Addr)}{fp:List Addr}{E:XK}
def XC (X:Cx)(scope:Scope)(cl:List (Str×Addr))(N:List Str)(fp:List Addr)(s3:Shared)(H3:Hp)(E:XK):Value->Shared->Prop:=λev s'=>∃ (lH:List (Addr×Obj)) (σ':St) (H':Hp) (s0:Shared),Inv (eP X scope cl N fp s3 H3) lH σ' H' s0/\CXr X.prog X.w X.base X.stack H' s0 E ev s'
abbrev eZ (X:Cx)(scope:Scope)(cl:List (Str×Addr))(N:List Str)(fp:List Addr)(s3:Shared)(H3:Hp)(E:XK):Cx:=(eP X scope cl N fp s3 H3).kY (XC X scope cl N fp s3 H3 E)
theorem kS:Passes (CXr X.prog X.w X.base) (eZ X scope cl N fp s3 H3 E) E:=λpins σ H s e s' I hx=>⟨pins,σ,H,s,I.hX,hx⟩
theorem p7 {ev:Value}{s':Shared}{acc:Value}{Q:Value->Shared->Prop}(I3:Inv X pins σ H3 s3)(f3:∀ b∈fp,iO X pins H3 b)(pH:qH X E)(hx:XC X scope cl N fp s3 H3 E ev s'):
  notedBy (model X.prog X.w) X.A (compEnvC scope cl s3.heap.objs.size X.env) (λx s''=>jv (model X.prog X.w) X.A X.xe Q acc (compEnvC scope cl s3.heap.objs.size X.env) (.error x) s'') ev s':=by
 obtain⟨lH,σ',H',s0,I',e,C,H1,B,rfl,ho,hg,z,q⟩:=hx
 have J:Inv X pins σ H' s0:=comp_back I3 f3 I'
 obtain⟨hst,hfr,pass⟩:=pH
 obtain⟨a0,fl⟩:=z.fly
 have hF:X.A.frames=some (X.env::X.outer):=by rw[<-hst];exact J.ok.frames
 unfold notedBy
 rw[mq (env:=compEnvC scope cl s3.heap.objs.size X.env) (env':=X.env) rfl]
 have fl':=fl
 rw[hst]at fl'
 refine wpAny_looks_onW hF hfr fl' λh1 held sm=>?_
 rw[<-hst]at held
 have hCs:s3.heap.objs.size∉frs X.stack:=λhm=>by
  obtain⟨_,o,ho,_⟩:=I3.stack.mem hm
  exact absurd (ai ho) (bK _)
 obtain⟨m,hns,_⟩:=I'.loc
 have hns:s0.heap.Ns s3.heap.objs.size m:=hns
 obtain⟨oC,es,ep,hoC,hdC,hrC⟩:=id hns
 have hfC:H' s3.heap.objs.size=none:=I'.free
 have hC':=z.un.keep _ oC hoC hfC hCs (by simp)
 have zk:s'.heap.Ns s3.heap.objs.size m:=⟨oC,es,ep,hC',hdC,hrC⟩
 have wG:=sm.ns zk
 have hH1:H1 s3.heap.objs.size=none:=z.un.free _ oC hoC hfC (by simp)
 refine⟨m,wG,λh' sb=>?_⟩
 have z1:Fl0 X.prog X.w X.base X.stack H' H1 s0.heap B h1:=z.toFl0.step held.1 fl.2.2.1 held.2.2.1 sm
 have sbn:∀ b,b≠s3.heap.objs.size->h'.get? b=h1.get? b:=sb.2
 have hid:∀ (g:Heap) b o,(g.hide s3.heap.objs.size).get? b=some o->g.get? b=some o/\b≠s3.heap.objs.size:=λg b o q=>⟨Heap.of_hide q,λe=>by rw[e,Heap.hide_self]at q;cases q⟩
 have toh:∀ (g:Heap) b o,b≠s3.heap.objs.size->g.get? b=some o->(g.hide s3.heap.objs.size).get? b=some o:=λg b o hb q=>(Heap.hide_ne g hb).trans q
 have z2:Fl0 X.prog X.w X.base X.stack H' H1 (s0.heap.hide s3.heap.objs.size) (B.hide s3.heap.objs.size) h':=by
  refine⟨λb o q=>toh B b o (aJ (ai (I3.bk b o q))) (z1.bas b o q),λb u q=>(z1.hok b u q).m7 (λc v hc zc=>toh B c v (λe=>?_) zc) (λ_ z=>z) (λ_ _ z=>z),λb o q n hb=>?_,λb o q hb=>?_,?_⟩
  ·rcases hc with r |r
   ·rw[<-r,e,hH1]at q;cases q
   ·rw[e,hH1]at r;cases r
  ·obtain⟨q1,q2⟩:=hid _ b o q
   exact toh B b o q2 (z1.kp b o q1 n hb)
  ·obtain⟨q1,q2⟩:=hid _ b o q
   obtain⟨o',e'⟩:=z1.thr b o q1 hb
   exact⟨o',toh B b o' q2 e'⟩
  ·refine⟨λb o q n hb hx=>?_,λb o q n hb hx=>?_,λb o q n hx=>z1.un.free b o (hid _ b o q).1 n hx,λb o q hx=>?_,z1.un.kz,z1.un.kf,z1.un.kA⟩
   ·obtain⟨q1,q2⟩:=hid _ b o q
    exact(sbn b q2).trans (z1.un.keep b o q1 n hb hx)
   ·obtain⟨q1,q2⟩:=hid _ b o q
    obtain⟨sl,e'⟩:=z1.un.slot b o q1 n hb hx
    exact⟨sl,(sbn b q2).trans e'⟩
   ·obtain⟨q1,q2⟩:=hid _ b o q
    obtain⟨o',e'⟩:=z1.un.there b o q1 hx
    exact⟨o',(sbn b q2).trans e'⟩
 have wk:∀ b o vs,h1.get? b=some o->o.data = .fields vs->b≠s3.heap.objs.size:=λb o vs q d e=>by
  obtain⟨o2,es2,ep2,h2,d2,_⟩:=wG
  rw[e,h2]at q
  cases q
  rw[d2]at d
  cases d
 have ue:Heap.HeldW (B.hide s3.heap.objs.size) X.stack e (.ref C) a0 X.env.locals h':=by
  obtain⟨k1,k2,k3,oe,vs,T,oT,ts,he,hc,hd,h1',hnT,hTe,hT,hdT,h3⟩:=held
  have kH:∀ b,B.get? b=none->(B.hide s3.heap.objs.size).get? b=none:=λb hb=>by
   cases q:(B.hide s3.heap.objs.size).get? b with
   |none=>rfl
   |some o=>have:=(hid B b o q).1;rw[hb]at this;cases this
  refine⟨λb o q=>?_,kH _ k2,ke kH k3 λb hb=>sbn b λe=>hCs (e ▸ hb),oe,vs,T,oT,ts,(sbn e (wk e oe vs he hd)).trans he,hc,hd,h1',kH _ hnT,hTe,(sbn T (wk T oT ts hT hdT)).trans hT,hdT,h3⟩
  obtain⟨q1,q2⟩:=hid B b o q
  exact(sbn b q2).trans (k1 b o q1)
 refine nC (s:={s' with heap:=h'}) (base:=B.hide s3.heap.objs.size) (l:=X.stack) ue hfr λh'' hh sm'=>?_
 have z3:Fl0 X.prog X.w X.base X.stack H' H1 (s0.heap.hide s3.heap.objs.size) (B.hide s3.heap.objs.size) h'':=z2.step hh.1 ue.2.2.1 hh.2.2.1 sm'
 have IJ:Inv X pins σ H' {s0 with heap:=s0.heap.hide s3.heap.objs.size} :=ju J (TL.Inv.apart I3) hfC ⟨Heap.hide_size _ _,λb hb=>Heap.hide_ne _ hb⟩
 exact pass pins σ H' _ {s' with heap:=h''} e C H1 (B.hide s3.heap.objs.size) IJ ho hg ⟨z3,a0,hh⟩ q
end
section
variable {X:Cx}{pins:List (Addr×Obj)}{σ:St}{H1:Hp}{s2:Shared}{scope:Scope}{N:List Str}{own:Nat}{cap:List (Option Nat)}{cl:List (Str×Addr)}{fp:List Addr}
 {tg iter elt:Expr}{ifs:List Expr}{pos:Pos}{g:TG}{tt:TT}{te:TE}{wi:TI}{E:XK}
theorem rh {it:Addr}{tn:Nat->Heap->Prop}{J:It}{Q:VK}{Q2:Value->Shared->Prop}{E0:Value->Shared->Prop}(pH:qH X E)(I:Inv X pins σ H1 s2)(T:Turn X.prog X.w X.K tg J fp it tn)(t0:tn 0 s2.heap)
  (f:∀ b∈fp,iO X pins H1 b) (hc:X.calm=true) (C:d7 X.env.scope X.N scope N own cap) (ho:mB own g)
  (iM:∀ x c,cl.lookup x=some c->X.env.cells.lookup x=some c) (lq:∀ y∈scope.names,y.2 = .free->∃ c,cl.lookup y.1=some c)
  (hg:∀ s3 H3,PG (eZ X scope cl N fp s3 H3 E) tg g) (ht:∀ s3 H3,qa (eZ X scope cl N fp s3 H3 E) ifs tt) (he:∀ s3 H3,PE (eZ X scope cl N fp s3 H3 E) elt te)
  (hw:∀ l,H1 l=none->LcW J g tt te cap σ Q l H1)
  (fin:∀ l C s' H',Inv X pins σ H' s'->H' C=none->Apart X pins C->Q (.ref l) H'->∀ h',Heap.SameBut C s'.heap h'->Q2 (.ref l) {s' with heap:=h'}):
  wpAny (model X.prog X.w) X.A (newList []) (λacc s₃=>wpAny (model X.prog X.w) X.A (newFunctionEnv scope X.env.globals cl [] X.env.qual none .none (some X.env)) (λcenv s₄=>
   codeAny (model X.prog X.w) X.A (.compStart (.ListComp elt [⟨tg,iter,ifs,0⟩] scope pos) 0 (.ref it) acc {cenv with scope:=relabel scope X.env}) (jv (model X.prog X.w) X.A X.xe Q2 acc {cenv with scope:=relabel scope X.env}) s₄) E0 s₃) E0 s2:=by
 refine wpAny_newObj_type (wpAny_newFunctionEnv C.pS (by intro y hy;simp at hy) (λh₁ jK jJ=>?_) C.kind)
 dsimp only at jK jJ ⊢
 obtain⟨W,⟨m0,w0⟩,turn⟩:=hw s2.heap.objs.size I.fresh
 have I3:Inv X pins σ (upd H1 s2.heap.objs.size (.lst [])) {s2 with heap:=s2.heap.push {cls:=.type "list",dict:=none,data:=.seq ([]:List Value).toArray}} :=I.uU (ys:=[]) (its:=[]) (t':=s2.toks) .nil (aQ _)
 generalize hs3:({s2 with heap:=s2.heap.push {cls:=.type "list",dict:=none,data:=.seq ([]:List Value).toArray}} :Shared)=s3 at I3
 have hh3:s3.heap=s2.heap.push {cls:=.type "list",dict:=none,data:=.seq ([]:List Value).toArray} :=by rw[<-hs3]
 rw[<-hh3]at jK jJ ⊢
 have e4:({s2 with heap:=h₁,toks:=s2.toks+([]:List (Str×Value)).length} :Shared) = {s3 with heap:=h₁,toks:=s2.toks} :=by rw[<-hs3];rfl
 rw[e4]
 have k4:∀ b u,s3.heap.get? b=some u->h₁.get? b=some u:=λb u e=>jJ.extBut b u (aJ (ai e)) (ak _ e)
 have k3:∀ b u,s2.heap.get? b=some u->s3.heap.get? b=some u:=λb u e=>by rw[hh3];exact ak _ e
 have hb2:∀ b∈fp,b<s2.heap.objs.size:=λb hb=>by obtain⟨o,e,_⟩:=T.obj _ _ t0 b hb;exact ai e
 have f3:∀ b∈fp,iO X pins (upd H1 s2.heap.objs.size (.lst [])) b:=λb hb=>by
  obtain⟨f0,fr⟩:=f b hb
  exact⟨by rw[dj (aJ (hb2 b hb))];exact f0,fr⟩
 have hb3:∀ b∈fp,b<s3.heap.objs.size:=λb hb=>by obtain⟨o,e,_⟩:=T.obj _ _ t0 b hb;exact ai (k3 b o e)
 have I4:=(oW (tk:=s2.toks) I3 C iM lq (λb hb=>⟨f3 b hb,hb3 b hb⟩) jK k4).kY (XC X scope cl N fp s3 (upd H1 s2.heap.objs.size (.lst [])) E)
 generalize hH3:upd H1 s2.heap.objs.size (.lst [])=H3 at *
 have st4:tn 0 h₁:=T.keep _ _ _ t0 λb hb o e=>k4 b o (k3 b o e)
 have fpX:∀ {H':Hp},(∀ b∈fp,H' b=none)->∀ b∈fp,iO (eZ X scope cl N fp s3 H3 E) [] H' b:=λ{H'} hn b hb=>by
  obtain⟨f0,f1,f2,f3',f4,f5⟩:=f3 b hb
  refine⟨hn b hb,aJ (hb3 b hb),λhz=>?_,.inl hb,λx c e=>f4 x c (iM x c e),λp hp=>absurd (show p∈([]:List (Addr×Obj)) from hp) (by simp)⟩
  rcases aG.mp (I3.jE b hz)with z |z
  ·exact f1 z
  ·exact f2 z
 have loop:codeAny (model X.prog X.w) X.A (.compLoop (.ListComp elt [⟨tg,iter,ifs,0⟩] scope pos) 0 (.ref it) (.ref s2.heap.objs.size) (compEnvC scope cl s3.heap.objs.size X.env)) (jv (model X.prog X.w) X.A X.xe Q2 (.ref s2.heap.objs.size) (compEnvC scope cl s3.heap.objs.size X.env)) {s3 with heap:=h₁,toks:=s2.toks} :=by
  refine nQ (XE:=XC X scope cl N fp s3 H3 E) (λn s'=>∃ i acc H',Inv (eZ X scope cl N fp s3 H3 E) [] (fP cap σ) H' s'/\tn i s'.heap/\(∀ b∈fp,H' b=none)/\W i n acc H') (λx s' hx=>p7 I3 f3 pH hx) ?_ m0 ⟨0,[],H3,I4,st4,λb hb=>(f3 b hb).1,w0⟩
  rintro n s' ⟨i,acc,H',I',st,fr,w⟩
  rcases turn i n acc H' w with⟨stop,q⟩|⟨go,NN,hNN,step⟩
  ·refine thn (T.done (eZ X scope cl N fp s3 H3 E) rfl rfl rfl hc i [] s' _ H' (XC X scope cl N fp s3 H3 E) I' (fpX fr) st stop) λr s5 ⟨hr,I5⟩=>?_
   subst hr
   obtain⟨m5,hn5,_⟩:=id I5.loc
   exact⟨m5,hn5,λh' sb=>fin _ _ s5 H' (comp_back I3 f3 I5.hX) I5.free (TL.Inv.apart I3) q h' sb⟩
  ·refine thn (T.item (eZ X scope cl N fp s3 H3 E) rfl rfl rfl hc i [] s' _ H' (XC X scope cl N fp s3 H3 E) I' (fpX fr) st go) λr s5 ⟨u,hr,h5⟩=>?_
   subst hr
   refine thn h5 λ_ s6 ⟨x,H6,I6,r6,y6,st6,fr6⟩=>?_
   have I6':=I6.pinned (fpX fr6) (T.obj _ _ st6)
   refine thn (hg s3 H3 _ s6 _ H6 x u _ I6' r6 (ho.own _ _ _ _ (step x H6 y6))) λ_ s7 ⟨σ7,H7,I7,q7,l7,o7⟩=>?_
   have cov:∀ (i:Nat) v,(fP cap σ)[i]? = some (some v)->σ7[i]? = some (some v):=λi v e=>by
    obtain⟨j,c1,c2⟩:=kI e
    by_cases hi:i<own
    ·exact(C.oE hi c1).elim
    ·rw[o7 i (by omega)];exact e
   have back:∀ {H8:Hp}{s8:Shared},Inv (eZ X scope cl N fp s3 H3 E) ([]++kC fp s6.heap) σ7 H8 s8->Inv (eZ X scope cl N fp s3 H3 E) [] (fP cap σ) H8 s8/\tn (i+1) s8.heap/\∀ b∈fp,H8 b=none:=λ{H8 s8} I8=>by
    refine⟨(Inv.iP (pins:=[]) I8).weak l7.symm cov,T.keep _ _ _ st6 λb hb o e=>(I8.pin (b,o) (aH _ (aH _ (fX hb e)))).1,λb hb=>?_⟩
    obtain⟨o,e,d⟩:=T.obj _ _ st6 b hb
    exact(I8.pin (b,o) (aH _ (aH _ (fX hb e)))).2.1
   refine thn (ht s3 H3 _ s7 σ7 H7 _ I7 q7) λb s8 ⟨H8,I8,q8⟩=>?_
   cases b with
   |false=>
    rw[ao aA]at q8 ⊢
    obtain⟨m',hm,w8⟩:=hNN _ _ q8
    obtain⟨J1,J2,J3⟩:=back I8
    exact⟨m',hm,i+1,acc,H8,J1,J2,J3,w8⟩
   |true=>
    rw[ar rfl]at q8 ⊢
    refine thn (he s3 H3 _ s8 σ7 H8 _ I8 q8) λv s9 ⟨y,H9,I9,r9,ha,hz,n9⟩=>?_
    obtain⟨m',hm,w9⟩:=hNN _ _ n9
    refine thn (eY _ s9 σ7 H9 (.ref s2.heap.objs.size) [y] (.ref s2.heap.objs.size) [v] (λ_ H10=>W (i+1) m' (acc ++ [y]) H10) I9 rfl (.cons r9 .nil) ⟨_,acc,y,rfl,rfl,ha,hz,w9⟩) λ_ s10 ⟨_,H10,I10,_,w10⟩=>?_
    obtain⟨J1,J2,J3⟩:=back I10
    exact⟨m',hm,i+1,acc ++ [y],H10,J1,J2,J3,w10⟩
 exact codeAny_compStart_list loop (T.self X.A 0 _ _ _ st4 loop)
theorem rQ (pH:qH X E)(hi:PI X tg iter wi)(hc:X.calm=true)(C:d7 X.env.scope X.N scope N own cap)(ho:mB own g)
  (hg:∀ cl fp s3 H3,PG (eZ X scope cl N fp s3 H3 E) tg g) (ht:∀ cl fp s3 H3,qa (eZ X scope cl N fp s3 H3 E) ifs tt) (he:∀ cl fp s3 H3,PE (eZ X scope cl N fp s3 H3 E) elt te)
  (hs:∀ x,foldedSetIterable iter X.env x=pure x:=by intro _;rfl):PE X (.ListComp elt [⟨tg,iter,ifs,0⟩] scope pos) (tLC wi cap g tt te):=by
 intro pins s σ H Q I h
 obtain⟨cl,ecl,iM,lq⟩:=jO (scope:=scope) (env:=X.env) λy hy hf=>I.ok.has y.1 (C.fre y hy hf)
 rw[eval_ListComp]
 refine jx rfl hs ecl C.kind C.loc (thn (hi pins s σ H _ I h) λxv s1 h1=>thn h1 λitv s2 h2=>?_)
 obtain⟨it,fp,tn,J,H2,e,I2,T,st2,f2,hw⟩:=h2
 subst e
 exact rh (Q2:=EP X pins σ Q) pH I2 T st2 f2 hc C ho iM lq (hg cl fp) (ht cl fp) (he cl fp) hw λl Ca s' H' I' kT hP q h'' sq=>⟨.ref l,H',ju I' hP kT sq,rfl,q⟩
end
end TL
namespace TL
open PySem PySem.Spec PyProof.Rows L2
theorem mK {P:Program}{w:World}{base:Heap}{X:Cx} :Passes (CXr P w base) X E0:=λ_ _ _ _ _ _ _ hx=>by
 obtain⟨_,_,_,_,_,_,_,_,q⟩:=hx
 exact q.elim
section
variable {X:Cx}{pins:List (Addr×Obj)}{σ:St}{H:Hp}{s:Shared}{a:Addr}{kvs:List (List Key×V)}
end
section
variable {prog:Program}{w:World}{A:Around}{E:Value->Shared->Prop}{s:Shared}{d it:Addr}{o:Obj}{es:Array DictEntry}{ep i:Nat}
end
section
variable {X:Cx}
end
section
variable {X:Cx}{pins:List (Addr×Obj)}{σ:St}{H:Hp}{s:Shared}{a b:Addr}{kvs:List (List Key×V)}{k:List Key}{v:V}{r:Value}{A:Around}{E:Value->Shared->Prop}
theorem rS {x y n:Str}{i:Int}{u:Value}{k1 k2:Nat}{p1 p2 p3 p4 pos:Pos}(hg:Gl X n)(hm:X.mg n=some u)(r:RelV (.int i) u)(hi:i.natAbs.log2<1920)(hz:x.length<=1000/\y.length<=1000/\(Str.ofString (toString i)).length<=1000)
  (hd:(n==("__debug__" :Str))=false:=by decide):PE X (.JoinedStr [.Constant (.str x) k1 p1,.FormattedValue (.Name n p2) (-1) none p3,.Constant (.str y) k2 p4] pos) (λ_ H Q=>∀ z,Q (.str z) H):=by
 intro pins s σ H Q I q
 obtain⟨t,rfl⟩:=r
 have hl:∀ a b:Str,(a++b).length=a.length+b.length:=strLen_append
 have he:Str.empty.length=0:=rfl
 refine wpAny_JoinedStr ?_
 refine cI ⟨x,_,rfl,by rw[hl,he,aO];omega,?_⟩
 refine wpAny_FormattedValue_plain (ly (I.tok _) hg hm (wpAny_formatField_int hi ⟨_,_,rfl,by rw[hl,hl,he,aO];omega,?_⟩) hd)
 refine cI ⟨y,_,rfl,by rw[hl,hl,hl,he,aO];omega,?_⟩
 refine⟨by rw[hl,hl,hl,he,aO];omega,⟨.str _,H,?_,⟨_,rfl⟩,q _⟩⟩
 exact I.tok _
end
section
variable {X:Cx}{K:PySem.W.Frag}
end
abbrev Ln:=Int×List (Int×Int)
structure sR (l:Ln)(ns:List Int):Prop where
 ends:∀ e∈ns,0<=e/\e<2*l.1
 nd:(ns.map (· / 2)).Nodup
 ch:∀ (i:Nat) x y,ns[i]? = some x->ns[i+1]? = some y->y∈jn l.2 (oth x)
theorem va {l:Ln}(ok:fO l){e x:Int} :x∈jn l.2 e↔(min e x,max e x)∈l.2:=by
 unfold jn
 rw[sY,aI]
 constructor
 ·rintro(z |z)
  ·obtain⟨p,hp,rfl⟩:=aL.mp z
   obtain⟨h1,h2⟩:=bG.mp hp
   have h2:p.2=e:=by simpa using h2
   have:=ok.ends p h1
   have e1:(min e p.1,max e p.1)=p:=Prod.ext (by show min e p.1=p.1;omega) (by show max e p.1=p.2;omega)
   rw[e1];exact h1
  ·obtain⟨p,hp,rfl⟩:=aL.mp z
   obtain⟨h1,h2⟩:=bG.mp hp
   have h2:p.1=e:=by simpa using h2
   have:=ok.ends p h1
   have e1:(min e p.2,max e p.2)=p:=Prod.ext (by show min e p.2=p.1;omega) (by show max e p.2=p.2;omega)
   rw[e1];exact h1
 ·intro h
  by_cases hx:e<=x
  ·have e1:(min e x,max e x)=(e,x):=Prod.ext (by show min e x=e;omega) (by show max e x=x;omega)
   rw[e1]at h
   exact .inr (aL.mpr ⟨(e,x),bG.mpr ⟨h,by simp⟩,rfl⟩)
  ·have e1:(min e x,max e x)=(x,e):=Prod.ext (by show min e x=x;omega) (by show max e x=e;omega)
   rw[e1]at h
   exact .inl (aL.mpr ⟨(x,e),bG.mpr ⟨h,by simp⟩,rfl⟩)
theorem pV {l:Ln}(ok:fO l){e x:Int}(h:x∈jn l.2 e):0<=x/\x<2*l.1:=by
 have:=ok.ends _ ((va ok).mp h)
 dsimp only at this
 omega
theorem sA {l:Ln}{ns:List Int}{e x:Int}(h:x∈fr l ns e):x∈jn l.2 e/\x/2∉ns.map (· / 2):=by
 obtain⟨h1,h2⟩:=bG.mp h
 exact⟨h1,by simpa using h2⟩
abbrev Ent:=List Int×Option (List Int×(Str×Int))
def okJ (m:Int)(p:Int×Int):Prop:=(0<=p.1/\p.1<2*m)/\(0<=p.2/\p.2<2*m)/\p.1<=p.2/\p.1/2≠p.2/2
def jI (l:Ln):Prop:=1<=l.1/\l.1<=40/\l.2.length<=80/\(∀ p∈l.2,okJ l.1 p)/\l.2.Nodup
end TL
namespace TL
open PySem PySem.Spec PyProof.Rows L2
section
variable {prog:Program}{w:World}{A:Around}{E:Value->Shared->Prop}{s:Shared}{l b:Addr}{items y9:Array Value}{n n2:Nat}
end
section
variable {X:Cx}
end
def mkS (l:List Nat):Str:=⟨l.toArray⟩
theorem lO (l:List Nat):(mkS l).cps.toList=l:=List.toList_toArray
theorem nK (x:Str):mkS x.cps.toList=x:=by cases x;simp[mkS]
theorem qu (l:List Nat):(mkS l).length=l.length:=by simp[mkS,Str.length]
abbrev TF:=St->Hp->Str->(Str->Hp->Prop)->Prop
def PF (X:Cx)(es:List Expr)(t:TF):Prop:=
 ∀ (pins:List (Addr×Obj)) (s:Shared) (σ:St) (H:Hp) (acc:Str) (Q:Str->Hp->Prop),Inv X pins σ H s->t σ H acc Q->
  Joins (model X.prog X.w) X.A X.xe (evalEach es X.env) acc (λout s'=>∃ H',Inv X pins σ H' s'/\Q out H') s
section
variable {X:Cx}{e:Expr}{es:List Expr}{te:TE}{tf:TF}{pos:Pos}
def tFN:TF:=λ_ H acc Q=>Q acc H
def tFC (x:Str)(tf:TF):TF:=λσ H acc Q=>(acc++x).length<=sizeLine/\tf σ H (acc++x) Q
def tFV (te:TE)(tf:TF):TF:=λσ H acc Q=>te σ H λv H1=>∃ y,((∃ i:Int,v = .int i/\i.natAbs.log2<1920/\y=Str.ofString (toString i))\/(v = .str y/\y.length<=sizeLine))/\(acc++y).length<=sizeLine/\tf σ H1 (acc++y) Q
theorem pI:PF X [] tFN:=λpins s σ H acc Q I h=>⟨H,I,h⟩
theorem lI {x:Str}{k:Nat}{p:Pos}(h:PF X es tf):PF X (.Constant (.str x) k p::es) (tFC x tf):=by
 intro pins s σ H acc Q I q
 exact cI ⟨x,_,rfl,q.1,h pins _ σ H _ Q (I.tok _) q.2⟩
theorem nz {p:Pos}(he:PE X e te)(h:PF X es tf):PF X (.FormattedValue e (-1) none p::es) (tFV te tf):=by
 intro pins s σ H acc Q I q
 show wpAny _ _ (eval (.FormattedValue e (-1) none p) X.env) _ _ s
 refine wpAny_FormattedValue_plain (thn (he pins s σ H _ I q) λu s1 ⟨v,H1,I1,r,y,hy,hz,q1⟩=>?_)
 rcases hy with⟨i,rfl,hi,rfl⟩|⟨rfl,hl⟩
 ·obtain⟨t,rfl⟩:=r
  exact wpAny_formatField_int hi ⟨_,_,rfl,hz,h pins _ σ H1 _ Q (I1.tok _) q1⟩
 ·obtain⟨t,rfl⟩:=r
  exact wpAny_formatField_str ⟨_,_,rfl,hz,h pins _ σ H1 _ Q I1 q1⟩ ⟨_,_,rfl,hz,h pins _ σ H1 _ Q (I1.tok _) q1⟩ hl
theorem nA {v1 v2:Expr}{rest:List Expr}(h:PF X (v1::v2::rest) tf):PE X (.JoinedStr (v1::v2::rest) pos) (λσ H Q=>tf σ H Str.empty λz H1=>z.length<=sizeLine/\Q (.str z) H1):=by
 intro pins s σ H Q I q
 refine wpAny_JoinedStr ?_
 have:=h pins s σ H Str.empty (λz H1=>z.length<=sizeLine/\Q (.str z) H1) I q
 refine lT ?_ this
 rintro out s' ⟨H',I',hz,q'⟩
 exact⟨hz,.str out,H',I'.tok _,⟨_,rfl⟩,q'⟩
where
 lT {M:Model}{A:Around}{E:Value->Shared->Prop}{Q Q':Str->Shared->Prop} (hq:∀ o s,Q o s->Q' o s):∀ {parts:List (Sem Value)}{acc:Str}{s:Shared},Joins M A E parts acc Q s->Joins M A E parts acc Q' s
  |[],acc,s,h=>hq _ _ h
  |x::rest,acc,s,h=>aX h (λv s1 ⟨y,t,e,hz,h1⟩=>⟨y,t,e,hz,lT hq h1⟩) λ_ _ x=>x
end
theorem Vals.strs:∀ {ts:List Str}{its:List Value},Vals (ts.map V.str) its->∃ l:List (Str×Tok),its=strValues l/\l.map (·.1)=ts
 |[],_,.nil=>⟨[],rfl,rfl⟩
 |x::ts,_,.cons r t=>by
  obtain⟨l,rfl,e⟩:=Vals.strs t
  obtain⟨k,rfl⟩:=r
  exact⟨(x,k)::l,rfl,by rw[bg,e]⟩
theorem mC:∀ l:List (Str×Tok),Vals ((l.map (·.1)).map V.str) (strValues l)
 |[]=>.nil
 |p::l=>.cons ⟨p.2,rfl⟩ (mC l)
theorem nM {sep:Str}{ts:List Str}(h1:∀ y∈ts,y.length<=1000)(h2:ts.length<=1000)(h3:sep.length<=10):JoinOk sep ts=true:=by
 unfold JoinOk
 rw[PySem.StrLaws.joinTotal]
 have h:=PySem.StrLaws.sumLen_le ts h1
 have h4:ts.length*sep.length<=1000*10:=Nat.mul_le_mul h2 h3
 have h5:ts.length*1000<=1000*1000:=Nat.mul_le_mul_right _ h2
 unfold Builtin.Str.tooLong
 rw[aO]
 simp
 omega
section
variable {X:Cx}
theorem lr:MtR X "str.join" (λx vs H Q=>∃ sep a ts,x = .str sep/\vs = [.ref a]/\SqL X.K H a (ts.map V.str)/\(∀ y∈ts,y.length<=1000)/\ts.length<=1000/\sep.length<=10/\Q (.str (Str.join sep ts)) H):=by
 intro pins s σ H x vs v us Q I rx rv h
 obtain⟨sep,a,ts,rfl,rfl,ha,h1,h2,h3,q⟩:=h
 obtain⟨t,rfl⟩:=rx
 obtain⟨u,rfl,ru⟩:=rv.one
 cases ru
 obtain⟨its,r,p,hz⟩:=I.list ha
 obtain⟨l,rfl,e⟩:=Vals.strs r
 refine SC.join (texts:=ts) p.isList e (nM h1 h2 h3) λt' k=>⟨.str _,H,I.tok _,⟨_,rfl⟩,?_⟩
 show Q (.str (Builtin.Str.glued sep ts)) H
 rw[PySem.StrLaws.glued_eq_join]
 exact q
theorem split_len (z y:Str)(hy:1<=y.length):(Txt.split z y).length<=z.length+1/\(Builtin.Str.partsBetween z (Builtin.Str.occurrences z y 0 z.length (z.length+1)) y.length).length<=z.length+2:=by
 have h1:=PySem.StrLaws.occ_length_le z y 0 z.length (z.length+1)
 have h2:(Builtin.Str.partsBetween z (Builtin.Str.occurrences z y 0 z.length (z.length+1)) y.length).length<=z.length+2:=by
  unfold Builtin.Str.partsBetween
  simp
  omega
 refine⟨?_,h2⟩
 have:∀ (ws:List Str),ws≠ []->ws.length<=(Str.join y ws).length+1:=by
  intro ws
  induction ws with
  |nil=>intro h;exact absurd rfl h
  |cons w r ih=>
   intro _
   cases r with
   |nil=>show 1<=w.length+1;omega
   |cons w' r'=>
    have:=ih (by simp)
    show(w'::r').length+1<=(w++y++Str.join y (w'::r')).length+1
    rw[PySem.Str.length_append,PySem.Str.length_append]
    omega
 by_cases c:Txt.split z y = []
 ·rw[c];exact aQ _
 ·have h:=this _ c
  rw[b8]at h
  exact h
theorem oV:MtR X "str.split" (λx vs H Q=>∃ z y,x = .str z/\vs = [.str y]/\1<=y.length/\z.length<=100000/\∀ p,H p=none->Q (.ref p) (upd H p (.lst ((Txt.split z y).map V.str)))):=by
 intro pins s σ H x vs v us Q I rx rv h
 obtain⟨z,y,rfl,rfl,hy,hz,q⟩:=h
 obtain⟨t,rfl⟩:=rx
 obtain⟨u,rfl,ru⟩:=rv.one
 obtain⟨tu,rfl⟩:=ru
 have hy0:(y.length==0)=false:=by simp;omega
 have hx:z.length<=sizeLine:=by rw[aO];omega
 have hl:=split_len z y hy
 have hn:(Builtin.Str.partsBetween z (Builtin.Str.occurrences z y 0 z.length (z.length+1)) y.length).length<=sizeLine:=by rw[aO];omega
 have fin:∀ (l:List (Str×Tok)) (tk:Nat),l.map (·.1)=Txt.split z y->EP X pins σ Q (.ref s.heap.objs.size) {s with toks:=tk,heap:=s.heap.push {cls:=.type "list",data:=.seq (strValues l).toArray}} :=λl tk e=>by
  refine⟨.ref _,_,I.laid (t':=tk) (o:=.lst ((Txt.split z y).map V.str)) (λb ob q=>ak _ q) (ah _) ⟨?_,strValues l,0,?_,aV _ rfl⟩,rfl,q _ I.fresh⟩
  ·rw[aa,aO];omega
  ·rw[<-e];exact mC l
 cases h1:(decide (z.length<y.length)||decide (Builtin.Str.strKind z<Builtin.Str.strKind y))
 ·cases hf:(Builtin.Str.occurrences z y 0 z.length (z.length+1)).isEmpty
  ·refine call_meets bY (typeIs_str _ _ _) cM (cJ _ _) (meets_str_split_sep z y t tu h1 hy0 hf hx hn) ?_
   show EP X pins σ Q _ {s with toks:=_,heap:=s.heap.push {cls:=.type "list",data:=.seq (strsFrom s.toks (Builtin.Str.partsBetween z (Builtin.Str.occurrences z y 0 z.length (z.length+1)) y.length)).toArray}}
   rw[strsFrom_eq]
   exact fin _ _ ((numbered_texts _ _).trans ((ao (ne_true_of_eq_false h1)).trans (ao (ne_true_of_eq_false hf))).symm)
  ·refine call_meets bY (typeIs_str _ _ _) cM (cJ _ _) (meets_str_split_not_found z y t tu h1 hy0 hf) ?_
   exact fin [(z,t)] s.toks ((ao (ne_true_of_eq_false h1)).trans (ar hf)).symm
 ·refine call_meets bY (typeIs_str _ _ _) cM (cJ _ _) (meets_str_split_cannot_occur z y t tu h1) ?_
  exact fin [(z,t)] s.toks (ar h1).symm
end
section
variable {prog:Program}{w:World}{A:Around}{E:Value->Shared->Prop}{s:Shared}
end
section
variable {X:Cx}{pos:Pos}
end
section
variable {prog:Program}{w:World}{A:Around}{E:Value->Shared->Prop}{s:Shared}
end
section
variable {X:Cx}{pos:Pos}
end
theorem oA (z:Str):(Builtin.Str.strSliceIndices none (some (-1)) 1 z.length).filterMap (z.cps[·]?)=z.cps.toList.dropLast:=by
 have e:Builtin.Str.strSliceIndices none (some (-1)) 1 z.length=Builtin.Str.strSliceIndices (some ((0:Nat):Int)) (some ((z.length-1:Nat):Int)) 1 z.length:=by
  unfold Builtin.Str.strSliceIndices
  dsimp only
  have h1:((1:Int)>0):=by decide
  simp only[h1,if_true]
  have e1:max (0:Int) (min ((0:Nat):Int) (z.length:Int))=0:=by omega
  have e2:(if(-1:Int)<0 then -1+(z.length:Int)else -1)=(z.length:Int)-1:=by rw[ar (by decide)];omega
  have e3:(if((z.length-1:Nat):Int)<0 then((z.length-1:Nat):Int)+(z.length:Int)else((z.length-1:Nat):Int))=((z.length-1:Nat):Int):=by rw[ao (by omega)]
  have e4:(if((0:Nat):Int)<0 then((0:Nat):Int)+(z.length:Int)else((0:Nat):Int))=0:=by rw[ao (by omega)];rfl
  rw[e2,e3,e4]
  have e5:max (0:Int) (min ((z.length:Int)-1) (z.length:Int))=max (0:Int) (min ((z.length-1:Nat):Int) (z.length:Int)):=by omega
  have e6:max (0:Int) (min 0 (z.length:Int))=0:=by omega
  rw[e5,e6]
 rw[e,PySem.StrLaws.sliced_plain z (aQ _) (by omega),List.drop_zero,List.dropLast_eq_take]
 simp[Str.length]
section
variable {X:Cx}
def ti:V->Option Int->Option Int->Hp->VK->Prop:=λx lo hi H Q=>∃ z,x = .str z/\lo=none/\hi=some (-1)/\z.length<=sizeLine/\Q (.str (mkS z.cps.toList.dropLast)) H
theorem pE:SlR X ti:=by
 intro pins s σ H x v vl vu lo hi sl Q I rx hs pl pu h
 obtain⟨z,rfl,rfl,rfl,hz,q⟩:=h
 obtain⟨t,rfl⟩:=rx
 cases pl
 cases pu with
 |int i tk=>
  refine⟨"str",_,slot_str_getitem.lookup,typeIs_str _ _ _,?_⟩
  refine wpAny_getItem_str_slice (l:=none) (u:=some (-1,tk)) (st:=none) hs rfl ?_
  unfold sliceMade
  have e:(⟨((slicePicked z none (some (-1,tk)) none).filterMap (z.cps[·]?)).toArray⟩:Str)=mkS z.cps.toList.dropLast:=by
   unfold mkS slicePicked
   congr 2
   exact oA z
  rw[e]
  refine post_val_or_str ?_
  by_cases c:(((none:Option (Int×Tok)).map (·.1)).getD 1==1&&(slicePicked z none (some (-1,tk)) none).length==z.length)=true
  ·rw[ar c]
   have hz0:z=mkS z.cps.toList.dropLast:=by
    have c2:(slicePicked z none (some (-1,tk)) none).length=z.length:=by
     rw[bW]at c;exact eq_of_beq c.2
    have hl:(Builtin.Str.strSliceIndices none (some (-1)) 1 z.length).length=z.length:=c2
    have:z.cps.toList.dropLast.length=z.cps.toList.length->z=mkS z.cps.toList.dropLast:=λh=>by
     rw[bP]at h
     have h0:z.cps.toList.length=0:=by omega
     have:z.cps.toList = []:=List.eq_nil_of_length_eq_zero h0
     rw[this]
     rw[<-nK z,this];rfl
    refine this ?_
    have e2:Builtin.Str.strSliceIndices none (some (-1)) 1 z.length=Builtin.Str.strSliceIndices (some ((0:Nat):Int)) (some ((z.length-1:Nat):Int)) 1 z.length:=by
     unfold Builtin.Str.strSliceIndices
     dsimp only
     have h1:((1:Int)>0):=by decide
     simp only[h1,if_true]
     have e2:(if(-1:Int)<0 then -1+(z.length:Int)else -1)=(z.length:Int)-1:=by rw[ar (by decide)];omega
     have e3:(if((z.length-1:Nat):Int)<0 then((z.length-1:Nat):Int)+(z.length:Int)else((z.length-1:Nat):Int))=((z.length-1:Nat):Int):=by rw[ao (by omega)]
     have e4:(if((0:Nat):Int)<0 then((0:Nat):Int)+(z.length:Int)else((0:Nat):Int))=0:=by rw[ao (by omega)];rfl
     rw[e2,e3,e4]
     have e5:max (0:Int) (min ((z.length:Int)-1) (z.length:Int))=max (0:Int) (min ((z.length-1:Nat):Int) (z.length:Int)):=by omega
     have e6:max (0:Int) (min 0 (z.length:Int))=0:=by omega
     rw[e5,e6]
    rw[e2,PySem.StrLaws.strSliceIndices_plain (aQ _) (by omega),aa,List.length_range]at hl
    have hzl:z.cps.toList.length=z.length:=by simp[Str.length]
    rw[bP]
    omega
   rw[<-hz0]at q
   exact⟨hz,λt' k=>⟨.str z,H,I.tok _,⟨_,rfl⟩,q⟩⟩
  ·rw[ao c]
   refine⟨?_,λt' k=>⟨.str _,H,I.tok _,⟨_,rfl⟩,q⟩⟩
   rw[qu,bP]
   have hzl:z.cps.toList.length=z.length:=by simp[Str.length]
   omega
end
def Its (x:Str):It:=⟨λi _=>i<x.cps.size,λi H v H'=>H'=H/\∃ c,x.cps[i]? = some c/\v = .str ⟨#[c]⟩,λi _=>x.cps.size<=i⟩
theorem qM {P:Program}{w:World}{K:PySem.W.Frag}{tg:Expr}(x:Str)(t:Tok)(it:Addr):Turn P w K tg (Its x) [it] it (λi h=>h.IsStrIter it "str_ascii_iterator" x t i) where
 mem:=by simp
 obj:=λi h st b hb=>by
  have e:b=it:=by simpa using hb
  subst e
  obtain⟨o,e,c,d⟩:=st
  exact⟨o,e,λv z=>by rw[d]at z;cases z⟩
 keep:=λi h h' st k=>let ⟨o,ho,r⟩:=st;⟨o,k it (by simp) o ho,r⟩
 item:=by
  intro X hP hw hK hc i pins s σ H E I hf st hg
  subst hP hw hK
  have hg:i<x.cps.size:=hg
  obtain⟨f0,f1,f2,f3,f4,f5⟩:=hf it (by simp)
  refine wpAny_pyNext_ascii_item st (c:=x.cps[i]) (by simp[hg]) λh' st' sb=>?_
  have I1:Inv X pins σ H {s with heap:=h',toks:=s.toks+1} :=I.turned (t':=s.toks+1) (λb o hb e=>(sb.2 b hb).trans e) f0 f1 f3 f4 f5
  obtain⟨o,e,c,d⟩:=id st'
  exact⟨_,rfl,qy (s:={s with heap:=h',toks:=s.toks+1}) e c d (by decide) ⟨.str ⟨#[x.cps[i]]⟩,H,I1,⟨_,rfl⟩,⟨rfl,_,by simp[hg],rfl⟩,st',λb hb=>(hf b hb).1⟩⟩
 done:=by
  intro X hP hw hK hc i pins s σ H E I hf st hg
  subst hP hw hK
  have hg:x.cps.size<=i:=hg
  obtain⟨f0,f1,f2,f3,f4,f5⟩:=hf it (by simp)
  exact wpAny_pyNext_ascii_end (I.ok.hd hc) st (by simp[hg]) λh' eb=>⟨rfl,I.turned (t':=s.toks) (λb o hb e=>eb b o hb e) f0 f1 f3 f4 f5⟩
 self:=λ_ _ _ _ _ st h=>wpAny_pyIter_striter_ascii st h
theorem qL {P:Program}{w:World}{K:PySem.W.Frag}{tg:Expr}(x:Str)(t:Tok)(it:Addr):Turn P w K tg (Its x) [it] it (λi h=>h.IsStrIter it "str_iterator" x t i) where
 mem:=by simp
 obj:=λi h st b hb=>by
  have e:b=it:=by simpa using hb
  subst e
  obtain⟨o,e,c,d⟩:=st
  exact⟨o,e,λv z=>by rw[d]at z;cases z⟩
 keep:=λi h h' st k=>let ⟨o,ho,r⟩:=st;⟨o,k it (by simp) o ho,r⟩
 item:=by
  intro X hP hw hK hc i pins s σ H E I hf st hg
  subst hP hw hK
  have hg:i<x.cps.size:=hg
  obtain⟨f0,f1,f2,f3,f4,f5⟩:=hf it (by simp)
  refine wpAny_pyNext_wide_item st (c:=x.cps[i]) (by simp[hg]) λh' st' sb=>?_
  have I1:Inv X pins σ H {s with heap:=h',toks:=s.toks+1} :=I.turned (t':=s.toks+1) (λb o hb e=>(sb.2 b hb).trans e) f0 f1 f3 f4 f5
  obtain⟨o,e,c,d⟩:=id st'
  exact⟨_,rfl,qy (s:={s with heap:=h',toks:=s.toks+1}) e c d (by decide) ⟨.str ⟨#[x.cps[i]]⟩,H,I1,⟨_,rfl⟩,⟨rfl,_,by simp[hg],rfl⟩,st',λb hb=>(hf b hb).1⟩⟩
 done:=by
  intro X hP hw hK hc i pins s σ H E I hf st hg
  subst hP hw hK
  have hg:x.cps.size<=i:=hg
  obtain⟨f0,f1,f2,f3,f4,f5⟩:=hf it (by simp)
  exact wpAny_pyNext_wide_end (I.ok.hd hc) st (by simp[hg]) λh' eb=>⟨rfl,I.turned (t':=s.toks) (λb o hb e=>eb b o hb e) f0 f1 f3 f4 f5⟩
 self:=λ_ _ _ _ _ st h=>wpAny_pyIter_striter_wide st h
section
variable {X:Cx}{tg e:Expr}{te:TE}
def zf (te:TE):TI:=λσ H R=>te σ H λv H1=>∃ x,v = .str x/\R (Its x) H1
theorem uH (he:PE X e te):PI X tg e (zf te):=by
 intro pins s σ H R I h
 refine thn (he pins s σ H _ I h) λu s1 ⟨v,H1,I1,r,x,ex,q⟩=>?_
 subst ex
 obtain⟨t,rfl⟩:=r
 have fp:∀ (o:Obj) (b:Addr),b∈ [s1.heap.objs.size]->iO X pins H1 b:=λo b hb=>by
  have e:b=s1.heap.objs.size:=by simpa using hb
  subst e
  exact I1.tT (ah _) (I1.hok.fresh (ah _))
 cases ha:x.cps.all (· < 128)
 ·refine wpAny_pyIter_wide ha ?_
  exact⟨s1.heap.objs.size,[s1.heap.objs.size],_,_,H1,rfl,I1.kept (t':=s1.toks) (λb o e=>ak _ e),qL x t _,⟨_,aV _ rfl,rfl,rfl⟩,fp default,q⟩
 ·refine wpAny_pyIter_ascii ha ?_
  exact⟨s1.heap.objs.size,[s1.heap.objs.size],_,_,H1,rfl,I1.kept (t':=s1.toks) (λb o e=>ak _ e),qM x t _,⟨_,aV _ rfl,rfl,rfl⟩,fp default,q⟩
theorem uZ {x:Str}{H1:Hp} :JS (Its x) x.cps.size H1 (λi v=>∃ c,x.cps[i]? = some c/\v = .str ⟨#[c]⟩):=
 ⟨λi H s hi=>hi,λi H v H' s hi y=>y,λH s=>ah _⟩
end
theorem rn {X:Cx} :fQ X (.type "int") (λxs H Q=>∃ z n,xs = [.str z]/\PySem.intText? z=some n/\z.length<=640/\Q (.int n) H):=by
 intro pins s σ H xs us Q I r h
 obtain⟨z,n,rfl,hn,hl,q⟩:=h
 obtain⟨u,rfl,ru⟩:=vals1 r
 obtain⟨t,rfl⟩:=ru
 exact PySem.W.KIN.call_text hn hl ⟨.int n,H,I.tok _,⟨_,rfl⟩,q⟩
end TL
namespace TS
open PySem
open SetTable
def adv (mask:Nat)(p:Probe):Probe:=
 if p.more>0 then {p with j:=p.j+1,more:=p.more-1} else
 {p with j:=(leap mask p.i p.perturb).1,more:=runEnd mask (leap mask p.i p.perturb).1-(leap mask p.i p.perturb).1,i:=(leap mask p.i p.perturb).1,perturb:=(leap mask p.i p.perturb).2}
def pAt (mask:Nat)(h:Int):Nat->Probe
 | 0=>{j:=bits h%(mask+1),more:=runEnd mask (bits h%(mask+1))-bits h%(mask+1),i:=bits h%(mask+1),perturb:=bits h,dummy:=none}
 |n+1=>adv mask (pAt mask h n)
open SetTable
def tZ (mask:Nat)(taken:List Nat)(h:Int)(j:Nat):Prop:=∃ n,(pAt mask h n).j=j/\∀ m,m<n->(pAt mask h m).j∈taken
structure WFT (t:SetTable)(hs:List Int):Prop where
 pow:∃ k,3<=k/\t.mask+1=2 ^ k
 small:t.mask<=8191
 dum:t.dummies = #[]
 rise:t.place.toList.Pairwise (· < ·)
 all:∀ j∈t.place.toList,j<=t.mask
 len:t.place.size=hs.length
 room:hs.length*5<t.mask*3
 reach:∀ i (h:i<hs.length) j,t.place[i]? = some j->tZ t.mask t.place.toList hs[i] j
open SetTable
end TS
namespace TL
open PySem TS
section
variable {prog:Program}{w:World}{K:Type} [DecidableEq K] {knd:KeyKind prog w K}{A:Around}{E:Value->Shared->Prop}{s:Shared}
def zw (knd:KeyKind prog w K)(x:List K×Addr):Int×Value:=(tupleKeyHash knd x.1,.ref x.2)
def AL (knd:KeyKind prog w K)(h:Heap)(a:Addr)(xs:List (List K×Addr)):Prop:=
 ∃ o es ep t,h.get? a=some o/\o.ExactSet/\o.data = .set es ep t/\es.toList=xs.map (zw knd)/\(xs.map (·.1)).Nodup/\WFT t (xs.map λx=>tupleKeyHash knd x.1)
end
section
variable {prog:Program}{w:World}{K:Type} [DecidableEq K] {knd:KeyKind prog w K}{A:Around}{E:Value->Shared->Prop}{s:Shared}
end
open PySem.Spec PyProof.Rows L2
def AK (P:Program)(w:World)(a:Addr)(xs:List (List Key×Addr)):HO:=.ext λh=>AL (lx P w) h a xs
abbrev keysOf (xs:List (List Key×Addr)):List (List Key):=xs.map λx=>x.1
section
variable {X:Cx}{pins:List (Addr×Obj)}{σ:St}{H:Hp}{s:Shared}
end
section
variable {prog:Program}{w:World}{A:Around}{R:Result->Shared->Prop}{I:Addr}{fp wr:List Addr}{G:Array GenState->Array GenState->Prop}{n:Nat}{P:Nat->Value->Prop}{St:Nat->Shared->Prop}
end
section
variable {prog:Program}{w:World}{A:Around}{E:Value->Shared->Prop}{s:Shared}
end
section
variable {X:Cx}
end
section
variable {X:Cx}{o e:Expr}{es:List Expr}{to:TE}{t:TA}{name:Str}{apos jN:Pos}{id:String}{r:V->List V->Hp->VK->Prop}
end
open HT
section
variable {prog:Program}{w:World}{A:Around}{E:Value->Shared->Prop}{s:Shared}
end
section
variable {X:Cx}{e:Expr}{te:TE}{pos p2:Pos}
end
section
variable {X:Cx}{a b c d:Expr}{ta tb tc td:TE}{pos:Pos}
end
end TL
namespace TL
open PySem PySem.Spec PyProof.Rows L2
def chS (c:Nat):Str:=⟨#[c]⟩
theorem dZ (sep a b:Str)(r:List Str):Str.join sep (a::b::r)=a++sep++Str.join sep (b::r):=rfl
theorem join_one (sep a:Str):Str.join sep [a]=a:=rfl
theorem fb (a b:Str):(a++b).cps.toList=a.cps.toList++b.cps.toList:=by rw[Str.cps_append,Array.toList_append]
theorem jV {a b:Str}(h:a.cps.toList=b.cps.toList):a=b:=by rw[<-nK a,h,nK]
theorem oZ {c:Nat} :∀ {a b x y:List Nat},c∉a->c∉b->a++c::x=b++c::y->a=b/\x=y
 |[],[],x,y,_,_,h=>⟨rfl,by injection h⟩
 |[],q::b,x,y,_,hb,h=>by
  injection h with h1 _
  exact absurd (by rw[h1];exact az) hb
 |p::a,[],x,y,ha,_,h=>by
  injection h with h1 _
  exact absurd (by rw[<-h1];exact az) ha
 |p::a,q::b,x,y,ha,hb,h=>by
  injection h with h1 h2
  obtain⟨e1,e2⟩:=oZ (λz=>ha (aB _ z)) (λz=>hb (aB _ z)) h2
  exact⟨by rw[h1,e1],e2⟩
theorem mP {c:Nat} :∀ {ws vs:List Str},ws≠ []->vs≠ []->(∀ w∈ws,c∉w.cps.toList)->(∀ v∈vs,c∉v.cps.toList)->Str.join (chS c) ws=Str.join (chS c) vs->ws=vs
 |[],_,h,_,_,_,_=>absurd rfl h
 |_,[],_,h,_,_,_=>absurd rfl h
 |[w],[v],_,_,_,_,h=>by rw[join_one,join_one]at h;rw[h]
 |[w],v::v'::vs,_,_,hw,_,h=>by
  rw[join_one,dZ]at h
  refine absurd ?_ (hw w az)
  rw[h,fb,fb]
  exact bA _ (aH _ (by show c∈ [c];simp))
 |w::w'::ws,[v],_,_,_,hv,h=>by
  rw[join_one,dZ]at h
  refine absurd ?_ (hv v az)
  rw[<-h,fb,fb]
  exact bA _ (aH _ (by show c∈ [c];simp))
 |w::w'::ws,v::v'::vs,_,_,hw,hv,h=>by
  rw[dZ,dZ]at h
  have h2:(w++chS c++Str.join (chS c) (w'::ws)).cps.toList=(v++chS c++Str.join (chS c) (v'::vs)).cps.toList:=by rw[h]
  rw[fb,fb,fb,fb,aK,aK]at h2
  obtain⟨e1,e2⟩:=oZ (hw w az) (hv v az) (show w.cps.toList++c::_=v.cps.toList++c::_ from h2)
  have:=mP (c:=c) (ws:=w'::ws) (vs:=v'::vs) (by simp) (by simp) (λx hx=>hw x (aB _ hx)) (λx hx=>hv x (aB _ hx)) (jV e2)
  rw[jV e1,this]
theorem oi (x:Str)(c:Nat):Txt.split x (chS c)≠ []:=by
 unfold Txt.split
 split
 ·simp
 ·split
  ·simp
  ·rw[PySem.StrLaws.partsBetween_eq]
   obtain⟨p,r,e⟩:=PySem.StrLaws.partsFrom_ne x (chS c).length 0 (Builtin.Str.occurrences x (chS c) 0 x.length (x.length+1))
   rw[e];simp
theorem lA {c:Nat}{ws:List Str}(h0:ws≠ [])(h:∀ w∈ws,c∉w.cps.toList):Txt.split (Str.join (chS c) ws) (chS c)=ws:=
 mP (oi _ c) h0 (PySem.StrLaws.split_free _ c) h (b8 _ (chS c))
def gw (c:Nat):Bool:=decide (48<=c/\c<=57)
def iI (l:List Nat):Option Int:=
 if l = []\/40<l.length then none else if l.all gw=false then none else if l.head?=some 48/\l≠ [48]then none else some ((NumText.digitsVal l:Nat):Int)
def hE (l:List Nat):Option Int:=(iI l.dropLast).bind λn=>if l.getLast?=some 60 then some (2*n)else if l.getLast?=some 62 then some (2*n+1)else none
def txN (n:Int):Str:=Str.ofString (toString n)
def txE (e:Int):Str:=txN (e/2)++chS (if e%2=0 then 60 else 62)
theorem sV {n:Int}(h:0<=n):(txN n).cps.toList=(Nat.toDigits 10 n.toNat).map Char.toNat:=by
 have:=PySem.W.KIN.signs_num n.toNat
 rw[show((n.toNat:Nat):Int)=n by omega]at this
 exact this
theorem rd:∀ m,m<41->iI ((Nat.toDigits 10 m).map Char.toNat)=some (m:Int)/\((Nat.toDigits 10 m).map Char.toNat).all gw=true/\((Nat.toDigits 10 m).map Char.toNat).length<=2:=by decide +kernel
theorem pq {n:Int}(h0:0<=n)(h1:n<41):iI (txN n).cps.toList=some n/\(txN n).cps.toList.all gw=true/\(txN n).length<=2:=by
 obtain⟨a,b,c⟩:=rd n.toNat (by omega)
 have e:=sV h0
 refine⟨by rw[e,a];congr 1;omega,by rw[e];exact b,?_⟩
 have:(txN n).length=(txN n).cps.toList.length:=by simp[Str.length]
 rw[this,e];exact c
theorem fD {e:Int}(h0:0<=e)(h1:e<82):hE (txE e).cps.toList=some e/\(∀ c∈(txE e).cps.toList,48<=c/\c<=62)/\(txE e).length<=3:=by
 obtain⟨a,b,c⟩:=pq (n:=e/2) (by omega) (by omega)
 have ec:(txE e).cps.toList=(txN (e/2)).cps.toList ++ [if e%2=0 then 60 else 62]:=by unfold txE;rw[fb];rfl
 refine⟨?_,λd hd=>?_,?_⟩
 ·unfold hE
  rw[ec,List.dropLast_concat,a]
  show(if _ then _ else _)=_
  rw[List.getLast?_concat]
  by_cases z:e%2=0
  ·rw[ar z,ar rfl];congr 1;omega
  ·rw[ao z,ao (by decide),ar rfl];congr 1;omega
 ·rw[ec]at hd
  rcases aI.mp hd with z |z
  ·have:=b7.mp b d z
   unfold gw at this
   have:=cF this
   omega
  ·have z:d=if e%2=0 then 60 else 62:=by simpa using z
   rw[z];split<;>omega
 ·unfold txE
  rw[aN]
  show _+1<=3
  omega
section
variable {X:Cx}
theorem nW:fQ X (.builtin "isinstance") (λxs H Q=>∃ a ys c b,xs = [.ref a,.ty c]/\SqT X.K H a ys/\PySem.W.kitOne X.K (.type "tuple") (.type c)=some b/\Q (.bl b) H):=by
 intro pins s σ H xs us Q I r h
 obtain⟨a,ys,c,b,rfl,hq,e,q⟩:=h
 obtain⟨u,u2,rfl,ru,rc⟩:=vals2 r
 cases rc
 cases ru
 obtain⟨its,rv,p,hz⟩:=I.tuple hq
 obtain⟨o,h1,h2,_⟩:=p
 exact bf PySem.W.kitx_tuple I.kIn ⟨o,h1,h2⟩ e (λz=>nomatch z) λtk=>⟨.bl b,H,I.tok tk,rfl,q⟩
theorem kl:fQ X (.builtin "isinstance") (λxs H Q=>∃ a ys c b,xs = [.ref a,.ty c]/\SqL X.K H a ys/\PySem.W.kitOne X.K (.type "list") (.type c)=some b/\Q (.bl b) H):=by
 intro pins s σ H xs us Q I r h
 obtain⟨a,ys,c,b,rfl,hq,e,q⟩:=h
 obtain⟨u,u2,rfl,ru,rc⟩:=vals2 r
 cases rc
 cases ru
 obtain⟨its,rv,p,hz⟩:=I.list hq
 obtain⟨o,h1,h2,_⟩:=p.isList
 exact bf PySem.W.kitx_list I.kIn ⟨o,h1,h2⟩ e (λz=>nomatch z) λtk=>⟨.bl b,H,I.tok tk,rfl,q⟩
theorem nL {K:PySem.W.Frag} :PySem.W.kitOne K (.type "int") (.type "bool")=some false:=by
 unfold PySem.W.kitOne PySem.W.kitCls
 rfl
end
theorem jm {H H':Hp}(s:dc H H'){q:Addr}(h:H' q=none):H q=none:=by
 cases q0:H q with
 |none=>rfl
 |some o=>rw[s _ _ q0]at h;cases h
theorem oD {sep:Str} :∀ {ws:List Str}{x:Str},x∈ws->x.length<=(Str.join sep ws).length
 |[],_,h=>nomatch h
 |[a],x,h=>by
  have h:x=a:=by simpa using h
  rw[h];exact ah _
 |a::b::r,x,h=>by
  rw[dZ,aN,aN]
  rcases aG.mp h with rfl |h
  ·omega
  ·have:=oD (sep:=sep) h
   omega
def tot (ws:List Str):Nat:=(ws.map (·.length)).sum+ws.length
theorem oa (x:Str)(b:List Str):tot (x::b)=x.length+1+tot b:=by unfold tot;simp;omega
theorem tI (a:List Str):a.length<=tot a:=by unfold tot;omega
theorem n8 (c:Nat):∀ {ws:List Str},ws≠ []->tot ws=(Str.join (chS c) ws).length+1
 |[],h=>absurd rfl h
 |[a],_=>by rw[oa,TL.join_one];rfl
 |a::b::r,_=>by
  rw[oa,n8 c (ws:=b::r) (by simp),dZ,aN,aN]
  have e:(chS c).length=1:=rfl
  omega
theorem qO (z:Str)(c:Nat):tot (Txt.split z (chS c))=z.length+1:=by
 rw[n8 c (oi z c),b8]
section
variable {X:Cx}
end
section
variable {X:Cx}{K:PySem.W.Frag}{T:String}{name:Str}{id:String}{r:V->List V->Hp->VK->Prop}{o e:Expr}{es:List Expr}{to:TE}{t:TA}{apos jN:Pos}
theorem pN (e:X.K=K):OpR X (compareOp .In) (rIn K false):=by subst e;exact qU
end
section
variable {K:PySem.W.Frag}{l:Addr}{g:TG}{tt:TT}{te:TE}{cap:List (Option Nat)}{σ:St}{Q:VK}{H1:Hp}{J:It}
theorem sh {α:Type}(n:Nat)(rs:List (Option α))(d':α->PyData)(hn:H1 l=none)(hlen:n=rs.length)(hz:n<sizeLine)(go:∀ i H,dc H1 H->i<n->J.go i H)(st:∀ H,dc H1 H->J.stop n H)
  (hs:∀ i x r H H',dc H1 H->(∃ us,H l=some (.lst us))->J.yld i H x H'->rs[i]? = some r->∀ (P1:VK) (P0:Hp->Prop),(∀ d,r=some d->∀ v H2,dc H H2->Da K (hid l H2) (d' d) v->P1 v H2)->
   g x (fP cap σ) H' λσ2 H2=>tt σ2 H2 λb H3=>if b=true then te σ2 H3 P1 else P0 H3)
  (hq:∀ (ds:List α) vs H',rs=ds.map some->dc H1 H'->H' l=some (.lst vs)->Das K (hid l H') (ds.map d') vs->Q (.ref l) H'):LcW J g tt te cap σ Q l H1:=by
 refine si n (λi acc H=>(∃ ds:List α,rs.take i=ds.map some/\Das K (hid l H) (ds.map d') acc)/\dc H1 H/\H l=some (.lst acc)) ⟨⟨[],rfl,eE.mpr rfl⟩,cS hn,cT⟩ (λi acc H hi ⟨_,s,_⟩=>go i H s hi) (λacc H ⟨_,s,_⟩=>st H s) ?_ ?_
 ·rintro i x acc H H' hi ⟨⟨ds,e0,e1⟩,s,hl⟩ y
  have hd:rs[i]? = some (rs[i]'(by omega)):=by simp
  generalize rs[i]'(by omega)=r at hd
  refine hs i x r H H' s ⟨_,hl⟩ y hd _ _ (λd er v H2 s2 dv=>?_)
  have la:=Dgs.length e1
  have lb:=bM List.length e0
  rw[aa]at la lb
  rw[bj]at lb
  refine⟨s2 _ _ hl,by omega,⟨ds ++ [d],?_,?_⟩,dc.upd (s.trans s2) hn,cT⟩
  ·rw[cH,hd,e0,aZ,er];rfl
  ·rw[nN,aZ]
   exact Dgs.append (Das.same (kd s2) e1) (Dgs.one dv)
 ·rintro acc H ⟨⟨ds,e0,e1⟩,s,hl⟩
  rw[aM (by omega)]at e0
  exact hq ds acc H e0 s hl e1
end
section
variable {X:Cx}
end
open PySem.W
def ev {α:Type} :List α->List α
 |[]=>[]
 |[x]=>[x]
 |x::_::r=>x::ev r
theorem lZ {α:Type} :∀ (l:List α) (k:Nat),(ev l)[k]? = l[2*k]?
 |[],k=>by simp[ev]
 |[x],0=>by simp[ev]
 |[x],k+1=>by simp[ev]
 |x::y::r,0=>by simp[ev]
 |x::y::r,k+1=>by
  rw[ev,cP,lZ r k,show 2*(k+1)=2*k+1+1 by omega,cP,cP]
theorem jL {α:Type} :∀ (l:List α),(ev l).length=(l.length+1)/2
 |[]=>by simp[ev]
 |[x]=>by simp[ev]
 |x::y::r=>by rw[ev,aT,jL r,aT,aT];omega
theorem qm {α:Type}(its:Array α)(f:Nat->Nat)(n:Nat)(zs:List α)(hz:zs.length=n)(h:∀ k,k<n->its[f k]? = zs[k]?):((List.range n).map f).filterMap (its[·]?)=zs:=by
 rw[List.filterMap_map]
 have e:∀ m,m<=n->(List.range m).filterMap ((its[·]?) ∘ f)=zs.take m:=by
  intro m
  induction m with
  |zero=>intro _;rfl
  |succ m ih=>
   intro hm
   rw[List.range_succ,List.filterMap_append,ih (by omega),cH]
   have h1:=h m (by omega)
   rw[<-h1]
   show _++List.filterMap ((its[·]?) ∘ f) [m]=_
   cases q:its[f m]? with
   |none=>simp[q]
   |some x=>simp[q]
 rw[e n (ah _),aM (by omega)]
theorem pG (its:List Value):slicePick its.toArray none none (some 2)=(ev its).toArray:=by
 unfold slicePick
 show((sliceRange 0 ((its.toArray.size:Nat):Int) 2).filterMap (its.toArray[·]?)).toArray=_
 congr 1
 unfold sliceRange
 rw[ar (by decide)]
 have en:(if(0:Int)<((its.toArray.size:Nat):Int)then(((its.toArray.size:Nat):Int)-0+2-1)/2 else 0).toNat=(its.length+1)/2:=by
  rw[au]
  split<;>omega
 dsimp only
 rw[en]
 refine qm _ _ _ _ (jL its) λk hk=>?_
 rw[lZ]
 rw[show(0+2*(k:Int)).toNat=2*k by omega]
 simp
theorem pF (its:List Value):slicePick its.toArray (some 1) none (some 2)=(ev (its.drop 1)).toArray:=by
 unfold slicePick
 show((sliceRange (max 0 (min (1:Int) ((its.toArray.size:Nat):Int))) ((its.toArray.size:Nat):Int) 2).filterMap (its.toArray[·]?)).toArray=_
 congr 1
 unfold sliceRange
 rw[ar (by decide)]
 rw[au]
 by_cases h:its.length=0
 ·have e0:its = []:=cc.mp h
  subst e0
  rfl
 ·rw[show max (0:Int) (min 1 (its.length:Int))=1 by omega]
  have en:(if(1:Int)<(its.length:Int)then((its.length:Int)-1+2-1)/2 else 0).toNat=((its.drop 1).length+1)/2:=by
   rw[bU]
   split<;>omega
  dsimp only
  rw[en]
  refine qm _ _ _ _ (jL _) λk hk=>?_
  rw[lZ,b9]
  rw[show(1+2*(k:Int)).toNat=1+2*k by omega]
  simp
theorem mH:∀ {xs:List V}{vs:List Value} (n:Nat),Vals xs vs->Vals (xs.drop n) (vs.drop n)
 |_,_,0,h=>by simpa using h
 |_,_,n+1,.nil=>by simp;exact .nil
 |_,_,n+1,.cons a r=>by simpa using mH n r
theorem nu:∀ {xs:List V}{vs:List Value},Vals xs vs->Vals (ev xs) (ev vs)
 |_,_,.nil=>.nil
 |_,_,.cons a .nil=>.cons a .nil
 |_,_,.cons a (.cons b r)=>.cons a (nu r)
section
variable {X:Cx}{e st lo:Expr}{te ts tl:TE}{pos p2:Pos}
def uw (K:PySem.W.Frag)(te ts:TE):TE:=λσ H Q=>te σ H λx H1=>ts σ H1 λy H2=>∃ i,y = .int i/\∃ a xs,some i=some (2:Int)/\x = .ref a/\SqL K H2 a xs/\∀ p,H2 p=none->Q (.ref p) (upd H2 p (.lst (ev xs)))
def uu (K:PySem.W.Frag)(te tl ts:TE):TE:=λσ H Q=>te σ H λx H1=>tl σ H1 λz H2=>∃ j,z = .int j/\ts σ H2 λy H3=>∃ i,y = .int i/\∃ a xs,some j=some (1:Int)/\some i=some (2:Int)/\x = .ref a/\SqL K H3 a xs/\∀ p,H3 p=none->Q (.ref p) (upd H3 p (.lst (ev (xs.drop 1))))
theorem rP (he:PE X e te)(hs:PE X st ts):PE X (.Subscript e (.Slice none none (some st) p2) pos) (uw X.K te ts):=by
 intro pins s σ H Q I h
 refine Subscript_ (thn (he pins s σ H _ I h) λv s1 ⟨x,H1,I1,r1,q1⟩=>?_)
 refine wpAny_Slice ?_
 rw[evalPart_none]
 refine aP (aP (thn (jh hs pins s1 σ H1 (λo H2=>∃ a xs,o=some 2/\x = .ref a/\SqL X.K H2 a xs/\∀ p,H2 p=none->Q (.ref p) (upd H2 p (.lst (ev xs)))) I1 q1) λvk s3 ⟨o,H3,I3,pk,q3⟩=>?_))
 obtain⟨a,xs,rfl,rfl,hq,q⟩:=q3
 cases r1
 have I4:Inv X pins σ H3 {s3 with heap:=s3.heap.push {cls:=.type "slice",data:=.fields #[.none,.none,vk]}} :=I3.kept (t':=s3.toks) λb ob q=>ak _ q
 obtain⟨its,r,ht,hz⟩:=I4.list hq
 have hlen:=r.length
 refine tail_any (ops:=[.ref a,.ref s3.heap.objs.size]) ht.isList.typeIs slot_list_getitem.lookup ?_ (by with_unfolding_all rfl)
 refine wpAny_getItem_list_slice ht.isList (Heap.IsSliceOf.new ..) .none .none pk (by simp) ?_ (by rw[au]<;>omega)
 rw[pG]
 refine⟨.ref _,_,I4.laid (t':=s3.toks) (o:=.lst (ev xs)) (λb ob q=>ak _ q) (ah _) ⟨by rw[jL];omega,ev its,0,nu r,?_⟩,rfl,q _ (I4.hok.fresh (ah _))⟩
 exact aV _ rfl
theorem rO (he:PE X e te)(hl:PE X lo tl)(hs:PE X st ts):PE X (.Subscript e (.Slice (some lo) none (some st) p2) pos) (uu X.K te tl ts):=by
 intro pins s σ H Q I h
 refine Subscript_ (thn (he pins s σ H _ I h) λv s1 ⟨x,H1,I1,r1,q1⟩=>?_)
 refine wpAny_Slice ?_
 refine thn (jh hl pins s1 σ H1 (λol H2=>ts σ H2 λy H3=>∃ i,y = .int i/\∃ a xs,ol=some 1/\some i=some (2:Int)/\x = .ref a/\SqL X.K H3 a xs/\∀ p,H3 p=none->Q (.ref p) (upd H3 p (.lst (ev (xs.drop 1))))) I1 q1) λvl s2 ⟨ol,H2,I2,pl,q2⟩=>?_
 rw[evalPart_none]
 refine aP (thn (jh hs pins s2 σ H2 (λo H3=>∃ a xs,ol=some 1/\o=some 2/\x = .ref a/\SqL X.K H3 a xs/\∀ p,H3 p=none->Q (.ref p) (upd H3 p (.lst (ev (xs.drop 1))))) I2 q2) λvk s3 ⟨o,H3,I3,pk,q3⟩=>?_)
 obtain⟨a,xs,rfl,rfl,rfl,hq,q⟩:=q3
 cases r1
 have I4:Inv X pins σ H3 {s3 with heap:=s3.heap.push {cls:=.type "slice",data:=.fields #[vl,.none,vk]}} :=I3.kept (t':=s3.toks) λb ob q=>ak _ q
 obtain⟨its,r,ht,hz⟩:=I4.list hq
 have hlen:=r.length
 refine tail_any (ops:=[.ref a,.ref s3.heap.objs.size]) ht.isList.typeIs slot_list_getitem.lookup ?_ (by with_unfolding_all rfl)
 refine wpAny_getItem_list_slice ht.isList (Heap.IsSliceOf.new ..) pl .none pk (by simp) ?_ (by rw[au]<;>omega)
 rw[pF]
 refine⟨.ref _,_,I4.laid (t':=s3.toks) (o:=.lst (ev (xs.drop 1))) (λb ob q=>ak _ q) (ah _) ⟨by rw[jL,bU];omega,ev (its.drop 1),0,nu (mH 1 r),?_⟩,rfl,q _ (I4.hok.fresh (ah _))⟩
 exact aV _ rfl
end
section
variable {X:Cx}{tg:Expr}
end
section
variable {X:Cx}
theorem tD:OpR X (binaryOp .Mult) (λx y H Q=>∃ (z:Str) (n:Int),x = .str z/\y = .int n/\z.length<=1000/\(n=0\/n=1)/\Q (.str (if n=1 then z else Str.empty)) H):=by
 intro pins s σ H x y v u Q I rx ry h
 obtain⟨z,n,rfl,rfl,hz,hn,q⟩:=h
 obtain⟨t,rfl⟩:=rx
 obtain⟨t',rfl⟩:=ry
 refine P.mul_str (by rw[bD (by omega),bD (by omega)];rfl) (λh1 _ h2=>?_) (λh1 _=>?_) ?_
 ·rcases hn with rfl |rfl
  ·omega
  ·rw[Int.ediv_one]at h2;omega
 ·unfold Builtin.Str.tooLong
  rw[aO]
  rcases hn with rfl |rfl<;>simp<;>omega
 ·rcases hn with rfl |rfl
  ·rw[ar (by decide)]
   refine⟨by decide,⟨.str Str.empty,H,I.tok _,⟨_,rfl⟩,?_⟩⟩
   rw[ao (by decide)]at q
   exact q
  ·rw[ao (by decide),ar (by rfl)]
   refine⟨.str z,H,I,⟨_,rfl⟩,?_⟩
   rw[ar rfl]at q
   exact q
end
section
variable {X:Cx}
end
end TL
namespace TL
open PySem PySem.Spec PyProof.Rows L2
theorem fS {n:Nat}(h:n<=1000):n<sizeLine:=cC h (by decide)
theorem nP {K:PySem.W.Frag}{H:Hp}{js:List (Int×Int)}{vs:List V}(h:Das K H (js.map dP) vs):vs.length=js.length:=by rw[Dgs.length h,aa]
theorem lU {l:Int×List (Int×Int)}(h:fO l)(e:Int):(jn l.2 e).length<=160:=by
 unfold jn
 rw[jF,aY]
 exact h.inc e
theorem pZ {l:Int×List (Int×Int)}(h:fO l)(ns:List Int)(e:Int):(fr l ns e).length<=160:=ba (bt _ _) (lU h e)
theorem gW:∀ (ds:List PyData),(∀ d∈ds,d.canLay0=true)->PyData.canLayAll0 ds=true
 |[],_=>by simp[PyData.canLayAll0]
 |d::ds,h=>by
  simp only[PyData.canLayAll0,bW]
  exact⟨h d az,gW ds λx hx=>h x (aB _ hx)⟩
theorem qV {ms:List Mv}(h:∀ m∈ms,PyData.strOk m.1.1=true):OkD (dMs ms):=by
 have d1:∀ m:Mv,(dMv m).depth<=2:=λm=>by
  simp only[dMv,PyData.depth,PyData.depthAll,dI]
  have:=d6 (f:=PyData.int) (k:=0) (λ_=>by simp[PyData.depth]) m.2
  omega
 refine⟨?_,?_⟩
 ·simp only[dMs,PyData.canLay0]
  refine gW _ λd hd=>?_
  obtain⟨m,hm,rfl⟩:=aL.mp hd
  simp only[dMv,PyData.canLay0,PyData.canLayAll0,h m hm,cK,Bool.true_and]
  exact(gS m.2).1
 ·simp only[dMs,PyData.depth]
  have:=d6 d1 ms
  omega
theorem mE (l:Int×List (Int×Int))(ns:List Int):∀ m∈mvs l ns,PyData.strOk m.1.1=true:=λm hm=>by
 rcases aI.mp hm with z |z
 ·obtain⟨e,_,rfl⟩:=aL.mp z
  show PyData.strOk (Str.ofString "on")=true
  decide +kernel
 ·obtain⟨e,_,rfl⟩:=aL.mp z
  show PyData.strOk (Str.ofString "back")=true
  decide +kernel
def dM (k:Str×Int):PyData:=.tuple [.str k.1,.int k.2]
theorem we {k:Str×Int}(h:PyData.strOk k.1=true):OkD (dM k):=by
 refine⟨?_,?_⟩
 ·simp only[dM,PyData.canLay0,PyData.canLayAll0,h,cK]
 ·simp only[dM,PyData.depth,PyData.depthAll];decide
theorem wm {K:PySem.W.Frag}{H H1:Hp}{p:Addr}{ms:List Mv}{vs:List V}{i:Nat}{y:V}(D:Dgs (Lf H H1 p) (SqT K H1) (ms.map dMv) vs)(hy:vs[i]? = some y):
  ∃ m ad p1 b,ms[i]? = some m/\y = .ref ad/\SqT K H1 ad [.ref p1,.ref b]/\Da K H1 (dM m.1) (.ref p1)/\H1 b=some (.lst (m.2.map V.int))/\H b=none/\b≠p:=by
 obtain⟨d,e1,hd⟩:=Dgs.get D hy
 rw[ay]at e1
 cases q:ms[i]? with
 |none=>rw[q]at e1;cases e1
 |some m=>
  rw[q]at e1
  cases e1
  unfold dMv at hd
  obtain⟨ad,us,rfl,ht,q⟩:=eA.mp hd
  obtain⟨v1,r,rfl,h1,q⟩:=dD.mp q
  obtain⟨v2,r,rfl,h2,q⟩:=dD.mp q
  cases eE.mp q
  have h1':Da K H1 (dM m.1) v1:=Dg.mono (λa us h=>SqL.of h.1) (λ_ _ h=>h) h1
  obtain⟨p1,_,rfl,_,_⟩:=eA.mp h1
  unfold dI at h2
  obtain⟨b,zs,rfl,⟨l1,l2,l3⟩,hz⟩:=eF.mp h2
  rw[gU.mp hz]at l1
  exact⟨m,ad,p1,b,rfl,rfl,ht,h1',l1,l2,l3⟩
def dR (run:List (Str×Int)):PyData:=.list (run.map dM)
theorem sF {K:PySem.W.Frag}{H:Hp}{run:List (Str×Int)}{vs:List V}{i:Nat}{y:V}(h:Das K H (run.map dM) vs)(e:vs[i]? = some y):∃ k,run[i]? = some k/\Da K H (dM k) y:=by
 obtain⟨d,e1,hd⟩:=Dgs.get h e
 rw[ay]at e1
 cases q:run[i]? with
 |none=>rw[q]at e1;cases e1
 |some k=>rw[q]at e1;cases e1;exact⟨k,rfl,hd⟩
theorem oQ {run:List (Str×Int)}(h:∀ k∈run,PyData.strOk k.1=true):OkD (dR run):=by
 refine⟨?_,?_⟩
 ·simp only[dR,PyData.canLay0]
  refine gW _ λd hd=>?_
  obtain⟨m,hm,rfl⟩:=aL.mp hd
  exact(we (h m hm)).1
 ·simp only[dR,PyData.depth]
  have:=d6 (f:=dM) (k:=1) (λm=>by simp[dM,PyData.depth,PyData.depthAll]) run
  omega
structure kr (K:PySem.W.Frag)(H:Hp)(q:Addr)(run:List (Str×Int)):Prop where
 ex:∃ vs,H q=some (.lst vs)/\Das K (hid q H) (run.map dM) vs
 ok:∀ k∈run,PyData.strOk k.1=true
theorem kr.same {K:PySem.W.Frag}{H H':Hp}{q:Addr}{run:List (Str×Int)}(r:kr K H q run)(s:dc H H'):kr K H' q run:=by
 obtain⟨⟨vs,h1,h2⟩,h3⟩:=r
 exact⟨⟨vs,s _ _ h1,Das.same (kd s) h2⟩,h3⟩
theorem kr.da {K:PySem.W.Frag}{H:Hp}{q:Addr}{run:List (Str×Int)}(r:kr K H q run):Da K H (dR run) (.ref q):=by
 obtain⟨⟨vs,h1,h2⟩,h3⟩:=r
 exact eF.mpr ⟨q,vs,rfl,SqL.of h1,Das.same kc h2⟩
abbrev Ma:=Mv×Addr×Addr
def vG (K:PySem.W.Frag)(H H1:Hp)(p:Addr)(x:Ma):Prop:=(∃ p1,SqT K H1 x.2.1 [.ref p1,.ref x.2.2]/\Da K H1 (dM x.1.1) (.ref p1))/\H1 x.2.2=some (.lst (x.1.2.map V.int))/\H x.2.2=none/\x.2.2≠p
theorem uT {K:PySem.W.Frag}{H H1:Hp}{p:Addr}{ms:List Mv}{vs:List V}(D:Dgs (Lf H H1 p) (SqT K H1) (ms.map dMv) vs):
  ∃ bs:List Ma,bs.map (·.1)=ms/\vs=bs.map (λx=>V.ref x.2.1)/\∀ x∈bs,vG K H H1 p x:=by
 have hl:vs.length=ms.length:=by have:=D.length;rw[aa]at this;exact this
 have ex:∀ i:Nat,∃ x:Ma,∀ y,vs[i]? = some y->ms[i]? = some x.1/\y = .ref x.2.1/\vG K H H1 p x:=λi=>by
  cases q:vs[i]? with
  |none=>exact⟨(((Str.ofString "",0),[]),0,0),λy e=>nomatch e⟩
  |some y=>
   obtain⟨m,ad,p1,b,h1,h2,h3,h4,h5,h6,h7⟩:=wm D q
   exact⟨(m,ad,b),λy' e=>by cases e;exact⟨h1,h2,⟨p1,h3,h4⟩,h5,h6,h7⟩⟩
 let g:Nat->Ma:=λi=>Classical.choose (ex i)
 have hg:∀ i y,vs[i]? = some y->ms[i]? = some (g i).1/\y = .ref (g i).2.1/\vG K H H1 p (g i):=λi=>Classical.choose_spec (ex i)
 refine⟨(List.range vs.length).map g,List.ext_getElem? λi=>?_,List.ext_getElem? λi=>?_,λx hx=>?_⟩
 ·by_cases hi:i<vs.length
  ·rw[ay,ay,List.getElem?_range hi]
   exact((hg i _ (ax hi)).1).symm
  ·rw[cp (by simp;omega),cp (by omega)]
 ·by_cases hi:i<vs.length
  ·rw[ay,ay,List.getElem?_range hi,ax hi]
   exact bM some (hg i _ (ax hi)).2.1
  ·rw[cp (by omega),cp (by simp;omega)]
 ·obtain⟨i,hi,rfl⟩:=aL.mp hx
  have hi:i<vs.length:=by simpa using hi
  exact(hg i _ (ax hi)).2.2
theorem tF {l:Ln}(ok:fO l)(ns:List Int):(mvs l ns).length<=320:=by
 unfold mvs
 rw[aY,aa,aa]
 have h1:(TL.fr l ns (oth (ns.getLastD 0))).length<=160:=pZ ok ns (oth (ns.getLastD 0))
 have h2:(TL.fr l ns (ns.headD 0)).length<=160:=pZ ok ns (ns.headD 0)
 omega
theorem mM {l:Ln}{ns:List Int}(hne:ns≠ []){m:Mv}(hm:m∈mvs l ns):m.2≠ []/\m.2.length=ns.length:=by
 have hl:1<=ns.length:=by cases ns with |nil=>exact absurd rfl hne |cons x r=>simp
 have:m.2.length=ns.length:=by
  rcases aI.mp hm with z |z
  ·obtain⟨e,_,h⟩:=aL.mp z
   rw[<-h];simp only[onM,aY,bU,aT,List.length_nil];omega
  ·obtain⟨e,_,h⟩:=aL.mp z
   rw[<-h];simp only[qG,aT,bP];omega
 refine⟨λe=>?_,this⟩
 rw[e]at this
 simp at this
 omega
theorem sR.snoc {l:Int×List (Int×Int)}{ns:List Int}{x:Int}(ok:fO l)(T:sR l ns)(hne:ns≠ [])(hx:x∈fr l ns (oth (ns.getLastD 0))):sR l (ns ++ [x]):=by
 obtain⟨h1,h2⟩:=bG.mp hx
 have h2:¬x/2∈ns.map (· / 2):=by simpa using h2
 refine⟨λe he=>?_,?_,λi a b ha hb=>?_⟩
 ·rcases aI.mp he with z |z
  ·exact T.ends e z
  ·have z:e=x:=by simpa using z
   rw[z];exact pV ok h1
 ·rw[aZ,List.nodup_append]
  refine⟨T.nd,by simp,λa ha b hb=>?_⟩
  have hb:b=x/2:=by simpa using hb
  intro z
  exact h2 (by rw[<-hb,<-z];exact ha)
 ·by_cases hi:i+1<ns.length
  ·rw[bF hi]at hb
   rw[bF (by omega)]at ha
   exact T.ch i a b ha hb
  ·have hlt:i+1<(ns ++ [x]).length:=(aC.mp hb).1
   rw[aY,List.length_singleton]at hlt
   have e1:i+1=ns.length:=by omega
   rw[e1,bZ (ah _),Nat.sub_self]at hb
   cases hb
   rw[bF (by omega)]at ha
   have e2:ns.getLastD 0=a:=by
    rw[List.getLastD_eq_getLast?,List.getLast?_eq_getElem?]
    have:ns.length-1=i:=by omega
    rw[this,ha];rfl
   rw[e2]at h1
   exact h1
theorem sI {K:PySem.W.Frag}{H:Hp}{k:Str×Int}{v:V}(h:Da K H (dM k) v):∃ a,v = .ref a/\SqT K H a [.str k.1,.int k.2]:=by
 unfold dM at h
 obtain⟨a,vs,rfl,ht,q⟩:=eA.mp h
 obtain⟨v1,r,rfl,h1,q⟩:=dD.mp q
 obtain⟨v2,r,rfl,h2,q⟩:=dD.mp q
 cases eE.mp q
 cases jM.mp h1
 cases eO.mp h2
 exact⟨a,rfl,ht⟩
theorem wU {K:PySem.W.Frag}{H:Hp}{k:Str×Int}{a:Addr}(h:SqT K H a [.str k.1,.int k.2]):Da K H (dM k) (.ref a):=eA.mpr ⟨a,_,rfl,h,Dgs.two (jM.mpr rfl) (eO.mpr rfl)⟩
theorem wI {K:PySem.W.Frag}{H:Hp}{p:Addr}{vs:List V}{k:Str×Int}{v:V}(hp:H p=some (.lst vs))(h:Da K H (dM k) v):Da K (hid p H) (dM k) v:=by
 obtain⟨a,rfl,ht⟩:=sI h
 exact wU (tQ hp ht)
abbrev AU (cs:List Ma):List Mv:=cs.map (·.1)
theorem vv (ms:List Mv):PyData.eqv (dMs ms) (.list [])=ms.isEmpty:=by
 rw[dMs,iC];cases ms<;>rfl
theorem wO (run:List (Str×Int)):PyData.eqv (dR run) (.list [])=run.isEmpty:=by
 rw[dR,iC];cases run<;>rfl
theorem sk {js:List (Int×Int)}(h:∀ p∈js,p.1≠p.2)(e:Int):srt ((js.filter λp=>decide (p.1=e\/p.2=e)).map λp=>p.1+p.2-e)=jn js e:=by
 refine qP ?_
 induction js with
 |nil=>exact .refl _
 |cons p r ih=>
  have ih:=ih λq hq=>h q (aB _ hq)
  have hp:=h p az
  unfold below above at ih ⊢
  by_cases h1:p.1=e
  ·have h2:¬p.2=e:=λz=>hp (h1.trans z.symm)
   rw[cf (by simp[h1]),bV (by simp[h2]),cf (by simp[h1]),bg,bg]
   rw[show p.1+p.2-e=p.2 by omega]
   exact(List.Perm.cons _ ih).trans List.perm_middle.symm
  ·by_cases h2:p.2=e
   ·rw[cf (by simp[h2]),cf (by simp[h2]),bV (by simp[h1]),bg,bg,List.cons_append]
    rw[show p.1+p.2-e=p.1 by omega]
    exact List.Perm.cons _ ih
   ·rw[bV (by simp[h1,h2]),bV (by simp[h2]),bV (by simp[h1])]
    exact ih
theorem jI.ne {l:Ln}(h:jI l):∀ p∈l.2,p.1≠p.2:=λp hp z=>by
 obtain⟨_,_,_,d⟩:=h.2.2.2.1 p hp
 rw[z]at d
 exact d rfl
theorem qX {l:Ln}(ok:fO l){ns:List Int}{m:Mv}(hm:m∈mvs l ns):(m.1.1=Str.ofString "on" \/m.1.1=Str.ofString "back")/\0<=m.1.2/\m.1.2<2*l.1:=by
 rcases aI.mp hm with z |z
 ·obtain⟨e,he,h⟩:=aL.mp z
  rw[<-h]
  exact⟨.inl rfl,pV ok (sA he).1⟩
 ·obtain⟨e,he,h⟩:=aL.mp z
  rw[<-h]
  exact⟨.inr rfl,pV ok (sA he).1⟩
inductive mf (l:Ln) (ns:List Int):List (Str×Int)->List Int->Prop
 |nil:mf l ns [] ns
 |snoc {run:List (Str×Int)}{b:List Int}{m:Mv} :mf l ns run b->m∈mvs l b->mf l ns (run ++ [m.1]) m.2
theorem mf.words {l:Ln}(ok:fO l){ns:List Int}{run:List (Str×Int)}{b:List Int}(h:mf l ns run b):∀ k∈run,(k.1=Str.ofString "on" \/k.1=Str.ofString "back")/\0<=k.2/\k.2<2*l.1:=by
 induction h with
 |nil=>exact λk hk=>(nomatch hk)
 |snoc h hm ih=>
  intro k hk
  rcases aI.mp hk with z |z
  ·exact ih k z
  ·have z:k=_:=aS.mp z
   rw[z];exact qX ok hm
theorem jD {x:Str}(h:x=Str.ofString "on" \/x=Str.ofString "back"):PyData.strOk x=true:=by
 rcases h with rfl |rfl<;>decide +kernel
end TL
namespace TL
open PySem PySem.Spec PyProof.Rows PySem.W
def tS:Bool->Keyed->Array Keyed->Nat->Nat->Nat->StateT SortSt Sem (Option Nat):=sortPriv% PySem.Builtin.gallop
def Orc (prog:Program)(w:World)(A:Around)(s:Shared)(κ:SortKind)(key:Keyed->Int)(D:Keyed->Prop):Prop:=
 ∀ x y,D x->D y->∀ Q:Bool->Shared->Prop,Q (decide (key x<key y)) s->wpAny (model prog w) A (keyLt' κ x.1 y.1) Q (λ_ _=>False) s
section
variable {prog:Program}{w:World}{A:Around}{E:Value->Shared->Prop}{s:Shared}{κ:SortKind}{key:Keyed->Int}{D:Keyed->Prop}
theorem fR {α:Type}{m:Sem α}{Q:α->SortSt->Prop}{st:SortSt}(h:wpAny (model prog w) A m (λa s'=>s'=s/\Q a st) E s):wpS (model prog w) A E s (liftM m:StateT SortSt Sem α) Q st:=by
 unfold wpS
 show wpAny (model prog w) A ((StateT.lift m:StateT SortSt Sem α).run st) _ E s
 rw[StateT.run_lift]
 exact aw (aX h (λa s' h'=>aP h') λ_ _ e=>e)
theorem lM (O:Orc prog w A s κ key D){x y:Keyed}(hx:D x)(hy:D y){st:SortSt}(hk:kindOf st=κ){Q:Option Bool->SortSt->Prop}(h:Q (some (decide (key x<key y))) st):wpS (model prog w) A E s (lt' x y) Q st:=by
 rw[lt'_eq]
 refine ae (wpS_get ?_)
 rw[hk]
 refine ae (fR (wpAny_attempt (aX (O x y hx hy (λb s'=>s'=s/\b=decide (key x<key y)) ⟨rfl,rfl⟩) (λc s' hc=>⟨hc.1,?_⟩) λ_ _ hF=>hF.elim)))
 rw[hc.2]
 exact aj h
theorem dQ {arr:Array Keyed}{i:Nat}{x:Keyed}(h:arr[i]? = some x){st:SortSt}{Q:Keyed->SortSt->Prop}(hq:Q x st):wpS (model prog w) A E s (elem' arr i) Q st:=by
 rw[elem'_eq,h]
 exact aj hq
def Ka (key:Keyed->Int)(arr:Array Keyed)(i:Nat):Int:=key (arr.getD i (Value.none,Value.none))
theorem eM {arr:Array Keyed}{i:Nat}{x:Keyed}(h:arr[i]? = some x):Ka key arr i=key x:=by
 unfold Ka
 rw[aR,h];rfl
theorem dW {arr:Array Keyed}{i:Nat}(h:i<arr.size):∃ x,arr[i]? = some x:=⟨_,br h⟩
def Bey (key:Keyed->Int)(left:Bool)(k:Keyed)(arr:Array Keyed)(base i:Nat):Bool:=if left=true then decide (Ka key arr (base+i)<key k)else !(decide (key k<Ka key arr (base+i)))
theorem rq (O:Orc prog w A s κ key D){left:Bool}{k:Keyed}(hkD:D k){arr:Array Keyed}(hA:∀ (i:Nat) x,arr[i]? = some x->D x){j:Nat}(hj:j<arr.size){base i:Nat}(e:j=base+i){st:SortSt}(hk:kindOf st=κ){Q:Option Bool->SortSt->Prop}(h:Q (some (Bey key left k arr base i)) st):
  wpS (model prog w) A E s (do let x <-elem' arr j;if left=true then lt' x k else do let r <-lt' k x;pure (r.map (!·)):StateT SortSt Sem (Option Bool)) Q st:=by
 obtain⟨x,hx⟩:=dW hj
 have hK:=eM (key:=key) hx
 refine ae (dQ hx ?_)
 unfold Bey at h
 rw[<-e,hK]at h
 cases left with
 |true=>
  rw[ar rfl]at h ⊢
  exact lM O (hA _ _ hx) hkD hk h
 |false=>
  rw[ao (by decide)]at h ⊢
  exact ae (lM O hkD (hA _ _ hx) hk (aj h))
def Cut (P:Nat->Bool)(n k:Nat):Prop:=k<=n/\(∀ i,i<k->P i=true)/\∀ i,k<=i->i<n->P i=false
theorem gI (O:Orc prog w A s κ key D){left:Bool}{k:Keyed}(hkD:D k){arr:Array Keyed}(hA:∀ (i:Nat) x,arr[i]? = some x->D x){base n hint:Nat}(hn:base+n<=arr.size)(hh:hint<n)
  (mono:∀ i j,i<=j->j<n->Bey key left k arr base j=true->Bey key left k arr base i=true) {st:SortSt} (hk:kindOf st=κ) {Q:Option Nat->SortSt->Prop} (h:∀ m,Cut (Bey key left k arr base) n m->Q (some m) st):
  wpS (model prog w) A E s (tS left k arr base n hint) Q st:=by
 have B:∀ i,i<n->∀ R:Option Bool->SortSt->Prop,R (some (Bey key left k arr base i)) st->wpS (model prog w) A E s (do let x <-elem' arr (base+i);if left=true then lt' x k else do let r <-lt' k x;pure (r.map (!·)):StateT SortSt Sem (Option Bool)) R st:=λi hi R hR=>rq O hkD hA (by omega) rfl hk hR
 generalize Bey key left k arr base=P at *
 have vB:∀ i j,i<=j->j<n->P i=false->P j=false:=λi j h1 h2 h3=>by
  cases q:P j with
  |false=>rfl
  |true=>rw[mono i j h1 h2 q]at h3;cases h3
 refine ae (B hint hh _ ?_)
 dsimp only
 cases hr:P hint
 case' true=>
  rw[ar rfl]
  refine ae (bX (bo (I:=λx c st'=>st=st'/\∃ l o,c=(none,l,o)/\l<o/\hint+l<n/\P (hint+l)=true/\x+1<=o)
   (Q:=λc st'=>st=st'/\∃ l o,c=(none,l,o)/\l<o/\hint+l<n/\P (hint+l)=true/\(n-hint<=o\/(hint+o<n/\P (hint+o)=false))) ?_ ?_ ⟨rfl,0,1,rfl,by omega,by omega,hr,by omega⟩) ?_)
  ·rintro x c st' _ hx ⟨rfl,l,o,rfl,h1,h2,h3,h4⟩
   dsimp only
   by_cases g:o≥n-hint
   ·rw[ar g];exact aj ⟨rfl,l,o,rfl,h1,h2,h3,.inl g⟩
   ·rw[ao g]
    refine ae (B (hint+o) (by omega) _ ?_)
    cases q:P (hint+o)with
    |false=>exact aj ⟨rfl,l,o,rfl,h1,h2,h3,.inr ⟨by omega,q⟩⟩
    |true=>exact aj ⟨rfl,o,2*o+1,rfl,by omega,by omega,q,by omega⟩
  ·rintro c st' ⟨rfl,l,o,rfl,h1,h2,h3,h4⟩
   exact⟨rfl,l,o,rfl,h1,h2,h3,.inl (by omega)⟩
  rintro c st' ⟨rfl,l,o,rfl,h1,h2,h3,h4⟩
  dsimp only
  have a1:hint+l+1<=hint+min o (n-hint):=by omega
  have a2:hint+min o (n-hint)<=n:=by omega
  have a3:∀ i,i<hint+l+1->P i=true:=λi hi=>mono i (hint+l) (by omega) h2 h3
  have a4:∀ i,hint+min o (n-hint)<=i->i<n->P i=false:=λi hi hn=>by
   rcases h4 with g |⟨g,g'⟩
   ·omega
   ·exact vB (hint+o) i (by omega) hn g'
  clear h4
  generalize hint+l+1=lo at a1 a3 ⊢
  generalize hint+min o (n-hint)=hi at a1 a2 a4 ⊢
  clear h1 h2 h3 hr
 case' false=>
  rw[ao (by decide)]
  refine ae (bX (bo (I:=λx c st'=>st=st'/\∃ l o,c=(none,l,o)/\l<o/\l<=hint/\P (hint-l)=false/\x+1<=o)
   (Q:=λc st'=>st=st'/\∃ l o,c=(none,l,o)/\l<o/\l<=hint/\P (hint-l)=false/\(hint+1<=o\/(o<=hint/\P (hint-o)=true))) ?_ ?_ ⟨rfl,0,1,rfl,by omega,by omega,hr,by omega⟩) ?_)
  ·rintro x c st' _ hx ⟨rfl,l,o,rfl,h1,h2,h3,h4⟩
   dsimp only
   by_cases g:o≥hint+1
   ·rw[ar g];exact aj ⟨rfl,l,o,rfl,h1,h2,h3,.inl g⟩
   ·rw[ao g]
    refine ae (B (hint-o) (by omega) _ ?_)
    cases q:P (hint-o)with
    |true=>exact aj ⟨rfl,l,o,rfl,h1,h2,h3,.inr ⟨by omega,q⟩⟩
    |false=>exact aj ⟨rfl,o,2*o+1,rfl,by omega,by omega,q,by omega⟩
  ·rintro c st' ⟨rfl,l,o,rfl,h1,h2,h3,h4⟩
   exact⟨rfl,l,o,rfl,h1,h2,h3,.inl (by omega)⟩
  rintro c st' ⟨rfl,l,o,rfl,h1,h2,h3,h4⟩
  dsimp only
  have a1:hint+1-min o (hint+1)<=hint-l:=by omega
  have a2:hint-l<=n:=by omega
  have a3:∀ i,i<hint+1-min o (hint+1)->P i=true:=λi hi=>by
   rcases h4 with g |⟨g,g'⟩
   ·omega
   ·exact mono i (hint-o) (by omega) (by omega) g'
  have a4:∀ i,hint-l<=i->i<n->P i=false:=λi hi hn=>vB (hint-l) i (by omega) hn h3
  clear h4
  generalize hint+1-min o (hint+1)=lo at a1 a3 ⊢
  generalize hint-l=hi at a1 a2 a4 ⊢
  clear h1 h2 h3 hr
 all_goals
  refine ae (bX (bo (I:=λx c st'=>st=st'/\∃ lo hi,c=(none,lo,hi)/\lo<=hi/\hi<=n/\(∀ i,i<lo->P i=true)/\(∀ i,hi<=i->i<n->P i=false)/\hi+x<=n+lo)
   (Q:=λc st'=>st=st'/\∃ lo hi,c=(none,lo,hi)/\Cut P n hi) ?_ ?_ ⟨rfl,lo,hi,rfl,a1,a2,a3,a4,by omega⟩) ?_)
  ·rintro x c st' _ hx ⟨rfl,lo,hi,rfl,h1,h2,h3,h4,h5⟩
   dsimp only
   by_cases g:lo≥hi
   ·rw[ar g];exact aj ⟨rfl,lo,hi,rfl,h2,λi hi=>h3 i (by omega),h4⟩
   ·rw[ao g]
    refine ae (B (lo+(hi-lo)/2) (by omega) _ ?_)
    cases q:P (lo+(hi-lo)/2)with
    |true=>exact aj ⟨rfl,_,hi,rfl,by omega,h2,λi hi'=>mono i _ (by omega) (by omega) q,h4,by omega⟩
    |false=>exact aj ⟨rfl,lo,_,rfl,by omega,by omega,h3,λi h1' h2'=>vB _ i h1' h2' q,by omega⟩
  ·rintro c st' ⟨rfl,lo,hi,rfl,h1,h2,h3,h4,h5⟩
   exact⟨rfl,lo,hi,rfl,h2,λi hi=>h3 i (by omega),h4⟩
  rintro c st' ⟨rfl,lo,hi,rfl,hc⟩
  exact aj (h hi hc)
end
def rZ:Array Keyed->Array Keyed->StateT SortSt Sem (Array Keyed):=sortPriv% PySem.Builtin.mergeLo
def r8:Array Keyed->Array Keyed->StateT SortSt Sem (Array Keyed):=sortPriv% PySem.Builtin.mergeHi
section
variable {key:Keyed->Int}{a b out:List Keyed}{ia ib:Nat}
def ft (key:Keyed->Int)(l:List Keyed):Prop:=l.Pairwise λx y=>key x<=key y
structure ML (key:Keyed->Int)(a b out:List Keyed)(ia ib:Nat):Prop where
 srt:ft key out
 le:∀ x∈out,∀ y,y∈a.drop ia\/y∈b.drop ib->key x<=key y
 perm:(out++(a.drop ia++b.drop ib)).Perm (a++b)
def Mgd (key:Keyed->Int)(a b r:List Keyed):Prop:=ft key r/\r.Perm (a++b)
theorem iD {l:List Keyed}{i:Nat}{x:Keyed}(h:l[i]? = some x):l.drop i=x::l.drop (i+1):=by
 obtain⟨h1,h2⟩:=aC.mp h
 rw[List.drop_eq_getElem_cons h1,h2]
theorem gq {l:List Keyed}(h:ft key l)(i:Nat):ft key (l.drop i):=h.sublist (List.drop_sublist _ _)
theorem ML.kQ (m:ML key a b out ia ib)(sb:ft key b){y:Keyed}(h:b[ib]? = some y)(g:∀ x∈a.drop ia,key y<=key x):ML key a b (out ++ [y]) ia (ib+1):=by
 have e:=iD h
 have s2:=gq sb ib
 rw[e]at s2
 have m2:=m.le
 have m3:=m.perm
 rw[e]at m2 m3
 refine⟨aU.mpr ⟨m.srt,bT _ _,λx hx z hz=>?_⟩,λx hx z hz=>?_,?_⟩
 ·rw[aS.mp hz];exact m2 x hx y (.inr az)
 ·rcases aI.mp hx with hx |hx
  ·exact m2 x hx z (hz.imp_right λq=>aB _ q)
  ·rw[aS.mp hx]
   rcases hz with q |q
   ·exact g z q
   ·exact(cD.mp s2).1 z q
 ·refine List.Perm.trans ?_ m3
  rw[aK]
  refine cq out ?_
  exact(List.perm_middle (a:=y) (l₁:=a.drop ia) (l₂:=b.drop (ib+1))).symm
theorem ML.kR (m:ML key a b out ia ib)(sa:ft key a){y:Keyed}(h:a[ia]? = some y)(g:∀ x∈b.drop ib,key y<=key x):ML key a b (out ++ [y]) (ia+1) ib:=by
 have e:=iD h
 have s2:=gq sa ia
 rw[e]at s2
 have m2:=m.le
 have m3:=m.perm
 rw[e]at m2 m3
 refine⟨aU.mpr ⟨m.srt,bT _ _,λx hx z hz=>?_⟩,λx hx z hz=>?_,?_⟩
 ·rw[aS.mp hz];exact m2 x hx y (.inl az)
 ·rcases aI.mp hx with hx |hx
  ·exact m2 x hx z (hz.imp_left λq=>aB _ q)
  ·rw[aS.mp hx]
   rcases hz with q |q
   ·exact(cD.mp s2).1 z q
   ·exact g z q
 ·rw[aK];exact m3
theorem ML.md (sa:ft key a):∀ (k:Nat) {out:List Keyed}{ia:Nat},ML key a b out ia ib->ia+k<=a.length->(∀ i y,ia<=i->i<ia+k->a[i]? = some y->∀ x∈b.drop ib,key y<=key x)->ML key a b (out++(a.drop ia).take k) (ia+k) ib
 | 0,out,ia,m,_,_=>by rw[List.take_zero,bE];exact m
 |k+1,out,ia,m,hk,g=>by
  have h:a[ia]? = some a[ia]:=ax (by omega)
  have m2:=m.kR sa h (g ia _ (ah _) (by omega) h)
  have m3:=ML.md sa k m2 (by omega) λi y h1 h2=>g i y (by omega) (by omega)
  rw[iD h,List.take_succ_cons]
  rw[aK]at m3
  rw[show ia+(k+1)=ia+1+k by omega]
  exact m3
theorem ML.ma (sb:ft key b):∀ (k:Nat) {out:List Keyed}{ib:Nat},ML key a b out ia ib->ib+k<=b.length->(∀ i y,ib<=i->i<ib+k->b[i]? = some y->∀ x∈a.drop ia,key y<=key x)->ML key a b (out++(b.drop ib).take k) ia (ib+k)
 | 0,out,ib,m,_,_=>by rw[List.take_zero,bE];exact m
 |k+1,out,ib,m,hk,g=>by
  have h:b[ib]? = some b[ib]:=ax (by omega)
  have m2:=m.kQ sb h (g ib _ (ah _) (by omega) h)
  have m3:=ML.ma sb k m2 (by omega) λi y h1 h2=>g i y (by omega) (by omega)
  rw[iD h,List.take_succ_cons]
  rw[aK]at m3
  rw[show ib+(k+1)=ib+1+k by omega]
  exact m3
theorem ML.done (m:ML key a b out ia ib)(sa:ft key a)(sb:ft key b)(h:∀ x∈a.drop ia,∀ y∈b.drop ib,key x<=key y):Mgd key a b (out++a.drop ia++b.drop ib):=by
 refine⟨?_,by rw[aK];exact m.perm⟩
 rw[aK]
 exact aU.mpr ⟨m.srt,aU.mpr ⟨gq sa _,gq sb _,h⟩,λx hx y hy=>m.le x hx y (aI.mp hy)⟩
theorem ML.wQ (m:ML key a b out ia ib)(sa:ft key a)(sb:ft key b)(h:∀ x∈a.drop ia,∀ y∈b.drop ib,key y<=key x):Mgd key a b (out++b.drop ib++a.drop ia):=by
 refine⟨?_,List.Perm.trans ?_ m.perm⟩
 ·rw[aK]
  exact aU.mpr ⟨m.srt,aU.mpr ⟨gq sb _,gq sa _,λx hx y hy=>h y hy x hx⟩,λx hx y hy=>m.le x hx y (aI.mp hy).symm⟩
 ·rw[aK];exact cq out List.perm_append_comm
end
section
variable {prog:Program}{w:World}{A:Around}{E:Value->Shared->Prop}{s:Shared}{κ:SortKind}{key:Keyed->Int}{D:Keyed->Prop}
def SmS (st st':SortSt):Prop:=kindOf st'=kindOf st/\arrOf st'=arrOf st/\pendingOf st'=pendingOf st/\failedOf st'=failedOf st
theorem SmS.gal {st st':SortSt}(h:SmS st st')(g:Nat):SmS st (SortSt.mk' (kindOf st') (arrOf st') (pendingOf st') g (failedOf st')):=h
theorem df {α:Type}{c:Prop} [Decidable c] {x y:StateT SortSt Sem α}{Q:α->SortSt->Prop}{st:SortSt}(h1:c->wpS (model prog w) A E s x Q st)(h2:¬c->wpS (model prog w) A E s y Q st):wpS (model prog w) A E s (if c then x else y) Q st:=by
 by_cases h:c
 ·rw[ar h];exact h1 h
 ·rw[ao h];exact h2 h
def qk:Nat->StateT SortSt Sem Unit:=sortPriv% PySem.Builtin.setMinGallop
theorem qQ {g:Nat}{Q:Unit->SortSt->Prop}{st:SortSt}(h:Q () (SortSt.mk' (kindOf st) (arrOf st) (pendingOf st) g (failedOf st))):wpS (model prog w) A E s (qk g) Q st:=wpS_modify h
theorem jf {g:Nat}{Q:Unit->SortSt->Prop}{st0 st:SortSt}(S:SmS st0 st)(h:∀ st',SmS st0 st'->Q () st'):wpS (model prog w) A E s (qk g) Q st:=qQ (h _ (S.gal g))
theorem ir {left:Bool}{k:Keyed}{arr:Array Keyed}{base n:Nat}(h:∀ i j,i<=j->j<n->Ka key arr (base+i)<=Ka key arr (base+j)):∀ i j,i<=j->j<n->Bey key left k arr base j=true->Bey key left k arr base i=true:=by
 intro i j hij hj hb
 have:=h i j hij hj
 unfold Bey at hb ⊢
 cases left with
 |true=>
  rw[ar rfl]at hb ⊢
  have hb:Ka key arr (base+j)<key k:=by simpa using hb
  exact decide_eq_true (by omega)
 |false=>
  rw[ao (by decide)]at hb ⊢
  have hb:¬key k<Ka key arr (base+j):=by simpa using hb
  rw[bD (by omega)];rfl
theorem kJ {k:Keyed}{arr:Array Keyed}{base i:Nat} :(Bey key false k arr base i=true) = ¬(key k<Ka key arr (base+i)):=by
 unfold Bey;rw[ao (by decide)];simp
theorem iE {k:Keyed}{arr:Array Keyed}{base i:Nat} :(Bey key false k arr base i=false)=(key k<Ka key arr (base+i)):=by
 unfold Bey;rw[ao (by decide)];simp
theorem me {k:Keyed}{arr:Array Keyed}{base i:Nat} :(Bey key true k arr base i=true)=(Ka key arr (base+i)<key k):=by
 unfold Bey;rw[ar rfl];simp
theorem jw {k:Keyed}{arr:Array Keyed}{base i:Nat} :(Bey key true k arr base i=false) = ¬(Ka key arr (base+i)<key k):=by
 unfold Bey;rw[ar rfl];simp
theorem lz {arr:Array Keyed}(h:ft key arr.toList){i j:Nat}(hij:i<=j)(hj:j<arr.size):Ka key arr i<=Ka key arr j:=by
 by_cases e:i=j
 ·rw[e];exact cw _
 ·obtain⟨x,hx⟩:=dW (show i<arr.size by omega)
  obtain⟨y,hy⟩:=dW hj
  rw[eM hx,eM hy]
  have h2:=bN.mp h i j (by rw[af];omega) (by rw[af];omega) (by omega)
  rw[Array.getElem?_eq_some_iff]at hx hy
  obtain⟨_,rfl⟩:=hx
  obtain⟨_,rfl⟩:=hy
  exact h2
theorem pT (O:Orc prog w A s κ key D){a b:Array Keyed}(hA:∀ (i:Nat) x,a[i]? = some x->D x)(hB:∀ (i:Nat) x,b[i]? = some x->D x)(sa:ft key a.toList)(sb:ft key b.toList)(na:1<=a.size)(nb:1<=b.size)
  (h0:∀ x∈a.toList,∀ y,b[0]? = some y->key y<=key x) (hl:∀ y∈b.toList,∀ x,a[a.size-1]? = some x->key y<=key x) {st:SortSt} (hk:kindOf st=κ) {Q:Array Keyed->SortSt->Prop} (h:∀ r st',Mgd key a.toList b.toList r.toList->SmS st st'->Q r st'):
  wpS (model prog w) A E s (rZ a b) Q st:=by
 obtain⟨y0,hy0⟩:=dW (show 0<b.size from nb)
 have la:a.toList.length=a.size:=af
 have lb:b.toList.length=b.size:=af
 have ga:∀ {i:Nat}{x:Keyed},a[i]? = some x->a.toList[i]? = some x:=λh=>by rw[aq];exact h
 have gb:∀ {i:Nat}{x:Keyed},b[i]? = some x->b.toList[i]? = some x:=λh=>by rw[aq];exact h
 have dA:∀ {i:Nat}{x:Keyed},a[i]? = some x->∀ z∈a.toList.drop i,key x<=key z:=λ{i x} hx z hz=>by
  have e:=iD (ga hx)
  have s2:=gq sa i
  rw[e]at s2 hz
  rcases aG.mp hz with rfl |q
  ·exact cw _
  ·exact(cD.mp s2).1 z q
 have dB:∀ {i:Nat}{x:Keyed},b[i]? = some x->∀ z∈b.toList.drop i,key x<=key z:=λ{i x} hx z hz=>by
  have e:=iD (gb hx)
  have s2:=gq sb i
  rw[e]at s2 hz
  rcases aG.mp hz with rfl |q
  ·exact cw _
  ·exact(cD.mp s2).1 z q
 have m0:ML key a.toList b.toList #[y0].toList 0 1:=by
  refine(show ML key a.toList b.toList ([] ++ [y0]) 0 (0+1) from ML.kQ ⟨List.Pairwise.nil,λx hx=>(by cases hx),List.Perm.refl _⟩ sb (gb hy0) λx hx=>h0 x (by simpa using hx) y0 hy0)
 have fB:∀ {out:Array Keyed}{ia ib:Nat},ML key a.toList b.toList out.toList ia ib->ib=b.size->Mgd key a.toList b.toList (out++a.extract ia a.size++b.extract ib b.size).toList:=λ{out ia ib} m e=>by
  have eb:b.toList.drop ib = []:=List.drop_eq_nil_of_le (by omega)
  have:=m.done sa sb (λx _ y hy=>by rw[eb]at hy;cases hy)
  rw[eb]at this
  subst e
  simpa [aW,aM]using this
 have fA:∀ {out:Array Keyed}{ia ib:Nat},ML key a.toList b.toList out.toList ia ib->ia=a.size->Mgd key a.toList b.toList (out++a.extract ia a.size++b.extract ib b.size).toList:=λ{out ia ib} m e=>by
  have ea:a.toList.drop ia = []:=List.drop_eq_nil_of_le (by omega)
  have:=m.done sa sb (λx hx=>by rw[ea]at hx;cases hx)
  rw[ea]at this
  subst e
  simpa [aW,aM]using this
 have fL:∀ {out:Array Keyed}{ia ib:Nat},ML key a.toList b.toList out.toList ia ib->ia+1=a.size->Mgd key a.toList b.toList (out++b.extract ib b.size++a.extract ia a.size).toList:=λ{out ia ib} m e=>by
  obtain⟨z,hz⟩:=dW (show ia<a.size by omega)
  have ea:a.toList.drop ia = [z]:=by rw[iD (ga hz),List.drop_eq_nil_of_le (by omega)]
  have:=m.wQ sa sb (λx hx y hy=>by
   rw[ea]at hx
   rw[aS.mp hx]
   exact hl y (List.mem_of_mem_drop hy) z (by rw[show a.size-1=ia by omega];exact hz))
  simpa [aW,aM]using this
 refine ae (fR (wpAny_rule ⟨rfl,?_⟩))
 refine ae (dQ hy0 ?_)
 dsimp only
 by_cases e1:1=b.size
 ·rw[ar (by simpa using e1)]
  exact aj (h _ _ (fB m0 e1) ⟨rfl,rfl,rfl,rfl⟩)
 rw[ao (by simpa using e1)]
 by_cases e2:0+1=a.size
 ·rw[ar (by simpa using e2)]
  exact aj (h _ _ (fL m0 e2) ⟨rfl,rfl,rfl,rfl⟩)
 rw[ao (by simpa using e2)]
 refine ae (wpS_get ?_)
 refine ae (bX (bo (I:=λx c st'=>SmS st st'/\∃ out ia ib g,c=(none,out,ia,ib,g)/\ML key a.toList b.toList out.toList ia ib/\ia+1<a.size/\ib<b.size/\x+1<=ia+ib)
  (Q:=λc st'=>SmS st st'/\∃ r out ia ib g,c=(some r,out,ia,ib,g)/\Mgd key a.toList b.toList r.toList) ?_ ?_ ⟨⟨rfl,rfl,rfl,rfl⟩,_,0,1,_,rfl,m0,by omega,by omega,by omega⟩) ?_)
 ·rintro x c st1 _ hx ⟨S1,out,ia,ib,g,rfl,m,i1,i2,i3⟩
  dsimp only
  refine ae (bX (bo (I:=λy c st'=>SmS st st'/\∃ out ia' ib' ac bc,c=(none,out,ia',ib',ac,bc)/\ML key a.toList b.toList out.toList ia' ib'/\ia'+1<a.size/\ib'<b.size/\ia+ib+y=ia'+ib')
   (Q:=λc st'=>SmS st st'/\∃ o out ia' ib' ac bc,c=(o,out,ia',ib',ac,bc)/\((∃ r,o=some r/\Mgd key a.toList b.toList r.toList)\/(o=none/\ML key a.toList b.toList out.toList ia' ib'/\ia'+1<a.size/\ib'<b.size/\ia+ib+1<=ia'+ib'))) ?_ ?_ ⟨S1,_,_,_,_,_,rfl,m,i1,i2,rfl⟩) ?_)
  ·clear m i1 i2 S1
   rintro y c st2 _ hy ⟨S2,out,ia',ib',ac,bc,rfl,m,i1,i2,i3⟩
   dsimp only
   obtain⟨u,hu⟩:=dW i2
   obtain⟨v,hv⟩:=dW (show ia'<a.size by omega)
   refine ae (dQ hu (ae (dQ hv (ae (lM O (hB _ _ hu) (hA _ _ hv) (S2.1.trans hk) ?_)))))
   dsimp only
   by_cases q:key u<key v
   ·rw[ar (by simpa using q)]
    refine ae (dQ hu ?_)
    have m2:ML key a.toList b.toList (out.push u).toList ia' (ib'+1):=by
     rw[bC]
     exact m.kQ sb (gb hu) λz hz=>by have:=dA hv z hz;omega
    refine df (λe=>?_) (λe=>?_)
    ·exact aj ⟨S2,_,_,_,_,_,_,rfl,.inl ⟨_,rfl,fB m2 (by simpa using e)⟩⟩
    ·have e:ib'+1≠b.size:=by simpa using e
     refine df (λ_=>?_) (λ_=>?_)
     ·exact aj ⟨S2,_,_,_,_,_,_,rfl,.inr ⟨rfl,m2,i1,by omega,by omega⟩⟩
     ·exact aj ⟨S2,_,_,_,_,_,rfl,m2,i1,by omega,by omega⟩
   ·rw[ao (by simpa using q)]
    refine ae (dQ hv ?_)
    have m2:ML key a.toList b.toList (out.push v).toList (ia'+1) ib':=by
     rw[bC]
     exact m.kR sa (ga hv) λz hz=>by have:=dB hu z hz;omega
    refine df (λe=>?_) (λe=>?_)
    ·exact aj ⟨S2,_,_,_,_,_,_,rfl,.inl ⟨_,rfl,fL m2 (by simpa using e)⟩⟩
    ·have e:ia'+1+1≠a.size:=by simpa using e
     refine df (λ_=>?_) (λ_=>?_)
     ·exact aj ⟨S2,_,_,_,_,_,_,rfl,.inr ⟨rfl,m2,by omega,i2,by omega⟩⟩
     ·exact aj ⟨S2,_,_,_,_,_,rfl,m2,by omega,i2,by omega⟩
  ·rintro c st2 ⟨S2,out,ia',ib',ac,bc,rfl,m,i1,i2,i3⟩
   omega
  clear m i1 i2 S1
  rintro c st2 ⟨S2,o,out,ia',ib',ac,bc,rfl,z⟩
  dsimp only
  rcases z with⟨r,rfl,z⟩|⟨rfl,m,i1,i2,i4⟩
  ·exact aj ⟨S2,_,_,_,_,_,rfl,z⟩
  dsimp only
  refine ae (fR (wpAny_rule ⟨rfl,?_⟩))
  refine ae (bX (bo (I:=λy c st'=>SmS st st'/\∃ out ja jb g ac bc,c=(none,out,ja,jb,g,ac,bc)/\ML key a.toList b.toList out.toList ja jb/\ja+1<a.size/\jb<b.size/\ia'+ib'<=ja+jb)
   (Q:=λc st'=>SmS st st'/\∃ o out ja jb g ac bc,c=(o,out,ja,jb,g,ac,bc)/\((∃ r,o=some r/\Mgd key a.toList b.toList r.toList)\/(o=none/\ML key a.toList b.toList out.toList ja jb/\ja+1<a.size/\jb<b.size/\ia'+ib'<=ja+jb))) ?_ ?_ ⟨S2,_,_,_,_,_,_,rfl,m,i1,i2,ah _⟩) ?_)
  ·clear m i1 i2 S2
   rintro y c st3 _ hy ⟨S3,out,ja,jb,g,ac,bc,rfl,m,i1,i2,i5⟩
   dsimp only
   obtain⟨u,hu⟩:=dW i2
   refine df (λ_=>?_) (λ_=>?_)
   all_goals
    refine ae (jf S3 λst4 S3=>?_)
    refine ae (dQ hu ?_)
    refine ae (gI O (base:=ja) (n:=a.size-ja) (hint:=0) (hB _ _ hu) hA (by omega) (by omega) (ir λi j h1 h2=>lz sa (by omega) (by omega)) (S3.1.trans hk) λk C=>?_)
    obtain⟨C0,C1,C2⟩:=C
    dsimp only
    apply df
    case' h1=>
     intro g1
     have m2:ML key a.toList b.toList (out++a.extract ja (ja+k)).toList (ja+k) jb:=by
      have:=m.md sa k (by omega) λi y' h1 h2 hy' x hx=>by
       have:=C1 (i-ja) (by omega)
       have e:=eM (key:=key) (show a[ja+(i-ja)]? = some y' by rw[show ja+(i-ja)=i by omega,<-aq];exact hy')
       rw[kJ,e]at this
       have:=dB hu x hx
       omega
      simpa [aW,aM]using this
     refine df (λg2=>aj ⟨S3,_,_,_,_,_,_,_,rfl,.inl ⟨_,rfl,fL m2 (by simpa using g2)⟩⟩) (λg2=>?_)
     have g2:ja+k+1≠a.size:=by simpa using g2
     refine df (λg3=>aj ⟨S3,_,_,_,_,_,_,_,rfl,.inl ⟨_,rfl,fA m2 (by simpa using g3)⟩⟩) (λg3=>?_)
     have g3:ja+k≠a.size:=by simpa using g3
     have j1:ja+k+1<a.size:=by omega
     obtain⟨v,hv⟩:=dW (show ja+k<a.size by omega)
     have uv:key u<key v:=by
      have:=C2 k (ah _) (by omega)
      rw[iE,eM (key:=key) hv]at this
      exact this
     have j2:ia'+ib'<=ja+k+jb:=by omega
     generalize out++a.extract ja (ja+k)=lL at m2 ⊢
     generalize ja+k=ja' at m2 j1 hv j2 ⊢
    case' h2=>
     intro g1
     have m2:ML key a.toList b.toList out.toList ja jb:=m
     have j1:ja+1<a.size:=i1
     obtain⟨v,hv⟩:=dW (show ja<a.size by omega)
     have uv:key u<key v:=by
      have:=C2 0 (by omega) (by omega)
      rw[iE,cB,eM (key:=key) hv]at this
      exact this
     have j2:=i5
     generalize out=lL at m2 ⊢
     generalize ja=ja' at m2 j1 hv j2 ⊢
    all_goals
     refine ae (dQ hu ?_)
     have m3:ML key a.toList b.toList (lL.push u).toList ja' (jb+1):=by
      rw[bC]
      exact m2.kQ sb (gb hu) λz hz=>by have:=dA hv z hz;omega
     refine df (λg4=>aj ⟨S3,_,_,_,_,_,_,_,rfl,.inl ⟨_,rfl,fB m3 (by simpa using g4)⟩⟩) (λg4=>?_)
     have g4:jb+1≠b.size:=by simpa using g4
     refine ae (dQ hv ?_)
     refine ae (gI O (base:=jb+1) (n:=b.size-(jb+1)) (hint:=0) (hA _ _ hv) hB (by omega) (by omega) (ir λi j h1 h2=>lz sb (by omega) (by omega)) (S3.1.trans hk) λk2 C=>?_)
     obtain⟨B0,B1,B2⟩:=C
     dsimp only
     apply df
     case' h1=>
      intro g5
      have m4:ML key a.toList b.toList (lL.push u++b.extract (jb+1) (jb+1+k2)).toList ja' (jb+1+k2):=by
       have:=m3.ma sb k2 (by omega) λi y' h1 h2 hy' x hx=>by
        have:=B1 (i-(jb+1)) (by omega)
        have e:=eM (key:=key) (show b[jb+1+(i-(jb+1))]? = some y' by rw[show jb+1+(i-(jb+1))=i by omega,<-aq];exact hy')
        rw[me,e]at this
        have:=dA hv x hx
        omega
       simpa [aW,aM]using this
      refine df (λg6=>aj ⟨S3,_,_,_,_,_,_,_,rfl,.inl ⟨_,rfl,fB m4 (by simpa using g6)⟩⟩) (λg6=>?_)
      have g6:jb+1+k2≠b.size:=by simpa using g6
      have j3:jb+1+k2<b.size:=by omega
      have vb:∀ z∈b.toList.drop (jb+1+k2),key v<=key z:=λz hz=>by
       obtain⟨t,ht⟩:=dW j3
       have:=B2 k2 (ah _) (by omega)
       rw[jw,eM (key:=key) ht]at this
       have:=dB ht z hz
       omega
      have j4:ia'+ib'<=ja'+(jb+1+k2):=by omega
      generalize lL.push u++b.extract (jb+1) (jb+1+k2)=rV at m4 ⊢
      generalize jb+1+k2=jb' at m4 j3 vb j4 ⊢
     case' h2=>
      intro g5
      have m4:=m3
      have j3:jb+1<b.size:=by omega
      have vb:∀ z∈b.toList.drop (jb+1),key v<=key z:=λz hz=>by
       obtain⟨t,ht⟩:=dW j3
       have:=B2 0 (by omega) (by omega)
       rw[jw,cB,eM (key:=key) ht]at this
       have:=dB ht z hz
       omega
      have j4:ia'+ib'<=ja'+(jb+1):=by omega
      generalize lL.push u=rV at m4 ⊢
      generalize jb+1=jb' at m4 j3 vb j4 ⊢
     all_goals
      refine ae (dQ hv ?_)
      have m5:ML key a.toList b.toList (rV.push v).toList (ja'+1) jb':=by
       rw[bC]
       exact m4.kR sa (ga hv) vb
      refine df (λg7=>aj ⟨S3,_,_,_,_,_,_,_,rfl,.inl ⟨_,rfl,fL m5 (by simpa using g7)⟩⟩) (λg7=>?_)
      have g7:ja'+1+1≠a.size:=by simpa using g7
      refine df (λ_=>?_) (λ_=>?_)
      ·exact aj ⟨S3,_,_,_,_,_,_,_,rfl,.inr ⟨rfl,m5,by omega,j3,by omega⟩⟩
      ·exact aj ⟨S3,_,_,_,_,_,_,rfl,m5,by omega,j3,by omega⟩
  ·rintro c st3 ⟨S3,out,ja,jb,g,ac,bc,rfl,m,i1,i2,i5⟩
   exact⟨S3,_,_,_,_,_,_,_,rfl,.inr ⟨rfl,m,i1,i2,i5⟩⟩
  rintro c st3 ⟨S3,o,out,ja,jb,g,ac,bc,rfl,z⟩
  rcases z with⟨r,rfl,z⟩|⟨rfl,m,i1,i2,i5⟩
  ·exact aj ⟨S3,_,_,_,_,_,rfl,z⟩
  ·exact ae (jf S3 λst4 S3=>aj ⟨S3,_,_,_,_,rfl,m,i1,i2,(by show x+1+1<=ja+jb;omega)⟩)
 ·rintro c st' ⟨S1,out,ia,ib,g,rfl,m,i1,i2,i3⟩
  omega
 rintro c st' ⟨S1,r,out,ia,ib,g,rfl,z⟩
 exact aj (h r st' z S1)
end
section
variable {key:Keyed->Int}{a b out:List Keyed}{na nb:Nat}
structure MH (key:Keyed->Int)(a b out:List Keyed)(na nb:Nat):Prop where
 srt:ft key out.reverse
 le:∀ x∈out,∀ y,y∈a.take na\/y∈b.take nb->key y<=key x
 perm:(a.take na++b.take nb++out.reverse).Perm (a++b)
theorem jd {l:List Keyed}{i:Nat}{x:Keyed}(h1:1<=i)(h:l[i-1]? = some x):l.take i=l.take (i-1) ++ [x]:=by
 obtain⟨n,rfl⟩:∃ n,i=n+1:=⟨i-1,by omega⟩
 rw[Nat.add_sub_cancel]at h ⊢
 rw[cH,h];rfl
theorem iQ {l:List Keyed}(h:ft key l)(i:Nat):ft key (l.take i):=h.sublist (List.take_sublist _ _)
theorem jX {l:List Keyed}(h:ft key l){i:Nat}{x:Keyed}(h1:1<=i)(hx:l[i-1]? = some x):∀ z∈l.take i,key z<=key x:=λz hz=>by
 have s2:=iQ h i
 rw[jd h1 hx]at s2 hz
 rcases aI.mp hz with q |q
 ·exact(aU.mp s2).2.2 z q x (aS.mpr rfl)
 ·rw[aS.mp q];exact cw _
theorem MH.kR (m:MH key a b out na nb)(sa:ft key a)(h1:1<=na){y:Keyed}(h:a[na-1]? = some y)(g:∀ x∈b.take nb,key x<=key y):MH key a b (out ++ [y]) (na-1) nb:=by
 have e:=jd h1 h
 have m2:=m.le
 have m3:=m.perm
 have sl:=jX sa h1 h
 rw[e]at m2 m3 sl
 refine⟨?_,λx hx z hz=>?_,?_⟩
 ·rw[bQ]
  refine aU.mpr ⟨bT _ _,m.srt,λx hx z hz=>?_⟩
  rw[show x=y by simpa using hx]
  exact m2 z (cu.mp hz) y (.inl (by simp))
 ·rcases aI.mp hx with hx |hx
  ·exact m2 x hx z (hz.imp_left λq=>bA _ q)
  ·rw[aS.mp hx]
   rcases hz with q |q
   ·exact sl z (bA _ q)
   ·exact g z q
 ·refine List.Perm.trans ?_ m3
  rw[bQ]
  show(a.take (na-1)++b.take nb++([y]++out.reverse)).Perm _
  rw[<-aK]
  refine List.Perm.append_right _ ?_
  rw[aK,aK]
  exact cq _ List.perm_append_comm
theorem MH.kQ (m:MH key a b out na nb)(sb:ft key b)(h1:1<=nb){y:Keyed}(h:b[nb-1]? = some y)(g:∀ x∈a.take na,key x<=key y):MH key a b (out ++ [y]) na (nb-1):=by
 have e:=jd h1 h
 have m2:=m.le
 have m3:=m.perm
 have sl:=jX sb h1 h
 rw[e]at m2 m3 sl
 refine⟨?_,λx hx z hz=>?_,?_⟩
 ·rw[bQ]
  refine aU.mpr ⟨bT _ _,m.srt,λx hx z hz=>?_⟩
  rw[show x=y by simpa using hx]
  exact m2 z (cu.mp hz) y (.inr (by simp))
 ·rcases aI.mp hx with hx |hx
  ·exact m2 x hx z (hz.imp_right λq=>bA _ q)
  ·rw[aS.mp hx]
   rcases hz with q |q
   ·exact g z q
   ·exact sl z (bA _ q)
 ·refine List.Perm.trans ?_ m3
  rw[bQ]
  show(a.take na++b.take (nb-1)++([y]++out.reverse)).Perm _
  rw[<-aK,aK (a.take na)]
theorem MH.md (sa:ft key a):∀ (k p:Nat) {out:List Keyed}{na:Nat},na=p+k->MH key a b out na nb->na<=a.length->(∀ i y,p<=i->i<na->a[i]? = some y->∀ x∈b.take nb,key x<=key y)->MH key a b (out++((a.drop p).take (na-p)).reverse) p nb
 | 0,p,out,na,e,m,_,_=>by subst e;simpa using m
 |k+1,p,out,na,e,m,hk,g=>by
  have h:a[na-1]? = some a[na-1]:=ax (by omega)
  have m2:=m.kR sa (by omega) h (g (na-1) _ (by omega) (by omega) h)
  have m3:=MH.md sa k p (by omega) m2 (by omega) λi y h1 h2=>g i y h1 (by omega)
  have e2:(a.drop p).take (na-p)=(a.drop p).take (na-1-p) ++ [a[na-1]]:=by
   rw[jd (i:=na-p) (by omega) (x:=a[na-1]) (by rw[b9,show p+(na-p-1)=na-1 by omega];exact h),show na-p-1=na-1-p by omega]
  rw[e2,bQ]
  rw[aK]at m3
  exact m3
theorem MH.ma (sb:ft key b):∀ (k p:Nat) {out:List Keyed}{nb:Nat},nb=p+k->MH key a b out na nb->nb<=b.length->(∀ i y,p<=i->i<nb->b[i]? = some y->∀ x∈a.take na,key x<=key y)->MH key a b (out++((b.drop p).take (nb-p)).reverse) na p
 | 0,p,out,nb,e,m,_,_=>by subst e;simpa using m
 |k+1,p,out,nb,e,m,hk,g=>by
  have h:b[nb-1]? = some b[nb-1]:=ax (by omega)
  have m2:=m.kQ sb (by omega) h (g (nb-1) _ (by omega) (by omega) h)
  have m3:=MH.ma sb k p (by omega) m2 (by omega) λi y h1 h2=>g i y h1 (by omega)
  have e2:(b.drop p).take (nb-p)=(b.drop p).take (nb-1-p) ++ [b[nb-1]]:=by
   rw[jd (i:=nb-p) (by omega) (x:=b[nb-1]) (by rw[b9,show p+(nb-p-1)=nb-1 by omega];exact h),show nb-p-1=nb-1-p by omega]
  rw[e2,bQ]
  rw[aK]at m3
  exact m3
theorem MH.done (m:MH key a b out na nb)(sa:ft key a)(sb:ft key b)(h:∀ x∈a.take na,∀ y∈b.take nb,key x<=key y):Mgd key a b (a.take na++b.take nb++out.reverse):=
 ⟨aU.mpr ⟨aU.mpr ⟨iQ sa _,iQ sb _,h⟩,m.srt,λx hx y hy=>m.le y (cu.mp hy) x (aI.mp hx)⟩,m.perm⟩
theorem MH.doneF (m:MH key a b out na nb)(sa:ft key a)(sb:ft key b)(h:∀ x∈a.take na,∀ y∈b.take nb,key y<=key x):Mgd key a b (b.take nb++a.take na++out.reverse):=
 ⟨aU.mpr ⟨aU.mpr ⟨iQ sb _,iQ sa _,λx hx y hy=>h y hy x hx⟩,m.srt,λx hx y hy=>m.le y (cu.mp hy) x (aI.mp hx).symm⟩,(List.Perm.append_right _ List.perm_append_comm).trans m.perm⟩
end
section
variable {prog:Program}{w:World}{A:Around}{E:Value->Shared->Prop}{s:Shared}{κ:SortKind}{key:Keyed->Int}{D:Keyed->Prop}
theorem pU (O:Orc prog w A s κ key D){a b:Array Keyed}(hA:∀ (i:Nat) x,a[i]? = some x->D x)(hB:∀ (i:Nat) x,b[i]? = some x->D x)(sa:ft key a.toList)(sb:ft key b.toList)(za:1<=a.size)(zb:1<=b.size)
  (h0:∀ x∈a.toList,∀ y,b[0]? = some y->key y<=key x) (hl:∀ y∈b.toList,∀ x,a[a.size-1]? = some x->key y<=key x) {st:SortSt} (hk:PyProof.Rows.kindOf st=κ) {Q:Array Keyed->SortSt->Prop} (h:∀ r st',Mgd key a.toList b.toList r.toList->SmS st st'->Q r st'):
  wpS (model prog w) A E s (r8 a b) Q st:=by
 obtain⟨y0,hy0⟩:=dW (show a.size-1<a.size by omega)
 have la:a.toList.length=a.size:=af
 have lb:b.toList.length=b.size:=af
 have ga:∀ {i:Nat}{x:Keyed},a[i]? = some x->a.toList[i]? = some x:=λh=>by rw[aq];exact h
 have gb:∀ {i:Nat}{x:Keyed},b[i]? = some x->b.toList[i]? = some x:=λh=>by rw[aq];exact h
 have dA:∀ {i:Nat}{x:Keyed},1<=i->a[i-1]? = some x->∀ z∈a.toList.take i,key z<=key x:=λ{i x} h1 hx=>jX sa h1 (ga hx)
 have dB:∀ {i:Nat}{x:Keyed},1<=i->b[i-1]? = some x->∀ z∈b.toList.take i,key z<=key x:=λ{i x} h1 hx=>jX sb h1 (gb hx)
 have m0:MH key a.toList b.toList #[y0].toList (a.size-1) b.size:=by
  refine(show MH key a.toList b.toList ([] ++ [y0]) (a.size-1) b.size from MH.kR (out:=[]) ⟨List.Pairwise.nil,λx hx=>(by cases hx),?_⟩ sa za (ga hy0) λx hx=>hl x (List.mem_of_mem_take hx) y0 hy0)
  rw[aM (by omega),aM (by omega)]
  simp
 have fA:∀ {out:Array Keyed}{na nb:Nat},MH key a.toList b.toList out.toList na nb->na=0->Mgd key a.toList b.toList (a.extract 0 na++b.extract 0 nb++out.reverse).toList:=λ{out na nb} m e=>by
  subst e
  have:=m.done sa sb (λx hx=>by simp at hx)
  simpa [aW]using this
 have fB:∀ {out:Array Keyed}{na nb:Nat},MH key a.toList b.toList out.toList na nb->nb=0->Mgd key a.toList b.toList (a.extract 0 na++b.extract 0 nb++out.reverse).toList:=λ{out na nb} m e=>by
  subst e
  have:=m.done sa sb (λx _ y hy=>by simp at hy)
  simpa [aW]using this
 have fF:∀ {out:Array Keyed}{na nb:Nat},MH key a.toList b.toList out.toList na nb->nb=1->Mgd key a.toList b.toList (b.extract 0 nb++a.extract 0 na++out.reverse).toList:=λ{out na nb} m e=>by
  subst e
  obtain⟨z,hz⟩:=dW (show 0<b.size by omega)
  have:=m.doneF sa sb (λx hx y hy=>by
   have e1:b.toList.take 1 = [z]:=by rw[jd (ah 1) (gb hz)];simp
   rw[e1]at hy
   rw[aS.mp hy]
   exact h0 x (List.mem_of_mem_take hx) z hz)
  simpa [aW]using this
 refine ae (fR (wpAny_rule ⟨rfl,?_⟩))
 refine ae (dQ hy0 ?_)
 dsimp only
 refine df (λe1=>aj (h _ _ (fA m0 (by simpa using e1)) ⟨rfl,rfl,rfl,rfl⟩)) (λe1=>?_)
 have e1:a.size-1≠0:=by simpa using e1
 refine df (λe2=>aj (h _ _ (fF m0 (by simpa using e2)) ⟨rfl,rfl,rfl,rfl⟩)) (λe2=>?_)
 have e2:b.size≠1:=by simpa using e2
 refine ae (wpS_get ?_)
 refine ae (bX (bo (I:=λx c st'=>SmS st st'/\∃ na nb out g,c=(none,na,nb,out,g)/\MH key a.toList b.toList out.toList na nb/\1<=na/\2<=nb/\na<=a.size/\nb<=b.size/\na+nb+(x+1)<=a.size+b.size)
  (Q:=λc st'=>SmS st st'/\∃ r na nb out g,c=(some r,na,nb,out,g)/\Mgd key a.toList b.toList r.toList) ?_ ?_ ⟨⟨rfl,rfl,rfl,rfl⟩,_,_,_,_,rfl,m0,by omega,by omega,by omega,by omega,by omega⟩) ?_)
 ·rintro x c st1 _ hx ⟨S1,na,nb,out,g,rfl,m,i1,i2,z1,z2,i3⟩
  dsimp only
  refine ae (bX (bo (I:=λy c st'=>SmS st st'/\∃ na' nb' out ac bc,c=(none,na',nb',out,ac,bc)/\MH key a.toList b.toList out.toList na' nb'/\1<=na'/\2<=nb'/\na'<=a.size/\nb'<=b.size/\na'+nb'+y=na+nb)
   (Q:=λc st'=>SmS st st'/\∃ o na' nb' out ac bc,c=(o,na',nb',out,ac,bc)/\((∃ r,o=some r/\Mgd key a.toList b.toList r.toList)\/(o=none/\MH key a.toList b.toList out.toList na' nb'/\1<=na'/\2<=nb'/\na'<=a.size/\nb'<=b.size/\na'+nb'+1<=na+nb))) ?_ ?_ ⟨S1,_,_,_,_,_,rfl,m,i1,i2,z1,z2,rfl⟩) ?_)
  ·clear m i1 i2 S1
   rintro y c st2 _ hy ⟨S2,na',nb',out,ac,bc,rfl,m,i1,i2,y1,y2,i4⟩
   dsimp only
   obtain⟨u,hu⟩:=dW (show nb'-1<b.size by omega)
   obtain⟨v,hv⟩:=dW (show na'-1<a.size by omega)
   refine ae (dQ hu (ae (dQ hv (ae (lM O (hB _ _ hu) (hA _ _ hv) (S2.1.trans hk) ?_)))))
   dsimp only
   by_cases q:key u<key v
   ·rw[ar (by simpa using q)]
    refine ae (dQ hv ?_)
    have m2:MH key a.toList b.toList (out.push v).toList (na'-1) nb':=by
     rw[bC]
     exact m.kR sa i1 (ga hv) λz hz=>by have:=dB (by omega) hu z hz;omega
    refine df (λe=>?_) (λe=>?_)
    ·exact aj ⟨S2,_,_,_,_,_,_,rfl,.inl ⟨_,rfl,fA m2 (by simpa using e)⟩⟩
    ·have e:na'-1≠0:=by simpa using e
     refine df (λ_=>?_) (λ_=>?_)
     ·exact aj ⟨S2,_,_,_,_,_,_,rfl,.inr ⟨rfl,m2,by omega,i2,by omega,y2,by omega⟩⟩
     ·exact aj ⟨S2,_,_,_,_,_,rfl,m2,by omega,i2,by omega,y2,by omega⟩
   ·rw[ao (by simpa using q)]
    refine ae (dQ hu ?_)
    have m2:MH key a.toList b.toList (out.push u).toList na' (nb'-1):=by
     rw[bC]
     exact m.kQ sb (by omega) (gb hu) λz hz=>by have:=dA i1 hv z hz;omega
    refine df (λe=>?_) (λe=>?_)
    ·exact aj ⟨S2,_,_,_,_,_,_,rfl,.inl ⟨_,rfl,fF m2 (by simpa using e)⟩⟩
    ·have e:nb'-1≠1:=by simpa using e
     refine df (λ_=>?_) (λ_=>?_)
     ·exact aj ⟨S2,_,_,_,_,_,_,rfl,.inr ⟨rfl,m2,i1,by omega,y1,by omega,by omega⟩⟩
     ·exact aj ⟨S2,_,_,_,_,_,rfl,m2,i1,by omega,y1,by omega,by omega⟩
  ·rintro c st2 ⟨S2,na',nb',out,ac,bc,rfl,m,i1,i2,y1,y2,i4⟩
   omega
  clear m i1 i2 S1
  rintro c st2 ⟨S2,o,na',nb',out,ac,bc,rfl,z⟩
  dsimp only
  rcases z with⟨r,rfl,z⟩|⟨rfl,m,i1,i2,y1,y2,i4⟩
  ·exact aj ⟨S2,_,_,_,_,_,rfl,z⟩
  dsimp only
  refine ae (fR (wpAny_rule ⟨rfl,?_⟩))
  refine ae (bX (bo (I:=λy c st'=>SmS st st'/\∃ ja jb out g ac bc,c=(none,ja,jb,out,g,ac,bc)/\MH key a.toList b.toList out.toList ja jb/\1<=ja/\2<=jb/\ja<=a.size/\jb<=b.size/\ja+jb<=na'+nb')
   (Q:=λc st'=>SmS st st'/\∃ o ja jb out g ac bc,c=(o,ja,jb,out,g,ac,bc)/\((∃ r,o=some r/\Mgd key a.toList b.toList r.toList)\/(o=none/\MH key a.toList b.toList out.toList ja jb/\1<=ja/\2<=jb/\ja<=a.size/\jb<=b.size/\ja+jb<=na'+nb'))) ?_ ?_ ⟨S2,_,_,_,_,_,_,rfl,m,i1,i2,y1,y2,ah _⟩) ?_)
  ·clear m i1 i2 S2 z1 z2
   rintro y c st3 _ hy ⟨S3,ja,jb,out,g,ac,bc,rfl,m,i1,i2,z1,z2,i5⟩
   dsimp only
   obtain⟨u,hu⟩:=dW (show jb-1<b.size by omega)
   refine df (λ_=>?_) (λ_=>?_)
   all_goals
    refine ae (jf S3 λst4 S3=>?_)
    refine ae (dQ hu ?_)
    refine ae (gI O (base:=0) (n:=ja) (hint:=ja-1) (hB _ _ hu) hA (by omega) (by omega) (ir λi j h1 h2=>lz sa (by omega) (by omega)) (S3.1.trans hk) λk C=>?_)
    obtain⟨C0,C1,C2⟩:=C
    dsimp only
    have ka:∀ z∈a.toList.take k,key z<=key u:=λz hz=>by
     obtain⟨i,hi,e⟩:=cv.mp hz
     rw[bj]at hi
     have:=C1 i (by omega)
     rw[List.getElem_take]at e
     rw[kJ,cj,eM (key:=key) (show a[i]? = some z by rw[<-aq,ax (by omega),e])]at this
     omega
    apply df
    case' h1=>
     intro g1
     have m2:MH key a.toList b.toList (out++(a.extract k ja).reverse).toList k jb:=by
      have:=m.md sa (ja-k) k (by omega) (by omega) λi y' h1 h2 hy' x hx=>by
       have:=C2 i h1 h2
       rw[iE,cj,eM (key:=key) (show a[i]? = some y' by rw[<-aq];exact hy')]at this
       have:=dB (by omega) hu x hx
       omega
      simpa [aW,aM]using this
     refine df (λg2=>aj ⟨S3,_,_,_,_,_,_,_,rfl,.inl ⟨_,rfl,fA m2 (by simpa using g2)⟩⟩) (λg2=>?_)
     have g2:k≠0:=by simpa using g2
     have j1:1<=k:=by omega
     have j0:k<=a.size:=by omega
     have j2:k+jb<=na'+nb':=by omega
     generalize ja-k=kk
     generalize out++(a.extract k ja).reverse=lL at m2 ⊢
     generalize k=ja' at m2 j1 j0 j2 ka ⊢
    case' h2=>
     intro g1
     have ek:k=ja:=by omega
     have m2:MH key a.toList b.toList out.toList ja jb:=m
     have j1:1<=ja:=i1
     have j0:ja<=a.size:=by omega
     have j2:=i5
     generalize ja-k=kk
     subst ek
     generalize out=lL at m2 ⊢
     generalize k=ja' at m2 j1 j0 j2 ka ⊢
    all_goals
     obtain⟨v,hv⟩:=dW (show ja'-1<a.size by omega)
     refine ae (dQ hu ?_)
     have m3:MH key a.toList b.toList (lL.push u).toList ja' (jb-1):=by
      rw[bC]
      exact m2.kQ sb (by omega) (gb hu) ka
     refine df (λg4=>aj ⟨S3,_,_,_,_,_,_,_,rfl,.inl ⟨_,rfl,fF m3 (by simpa using g4)⟩⟩) (λg4=>?_)
     have g4:jb-1≠1:=by simpa using g4
     refine ae (dQ hv ?_)
     refine ae (gI O (base:=0) (n:=jb-1) (hint:=jb-1-1) (hA _ _ hv) hB (by omega) (by omega) (ir λi j h1 h2=>lz sb (by omega) (by omega)) (S3.1.trans hk) λk2 C=>?_)
     obtain⟨B0,B1,B2⟩:=C
     dsimp only
     have kb:∀ z∈b.toList.take k2,key z<=key v:=λz hz=>by
      obtain⟨i,hi,e⟩:=cv.mp hz
      rw[bj]at hi
      have:=B1 i (by omega)
      rw[List.getElem_take]at e
      rw[me,cj,eM (key:=key) (show b[i]? = some z by rw[<-aq,ax (by omega),e])]at this
      omega
     apply df
     case' h1=>
      intro g5
      have m4:MH key a.toList b.toList (lL.push u++(b.extract k2 (jb-1)).reverse).toList ja' k2:=by
       have:=m3.ma sb (jb-1-k2) k2 (by omega) (by omega) λi y' h1 h2 hy' x hx=>by
        have:=B2 i h1 h2
        rw[jw,cj,eM (key:=key) (show b[i]? = some y' by rw[<-aq];exact hy')]at this
        have:=dA (by omega) hv x hx
        omega
       simpa [aW,aM]using this
      refine df (λg6=>aj ⟨S3,_,_,_,_,_,_,_,rfl,.inl ⟨_,rfl,fF m4 (by simpa using g6)⟩⟩) (λg6=>?_)
      have g6:k2≠1:=by simpa using g6
      refine df (λg8=>aj ⟨S3,_,_,_,_,_,_,_,rfl,.inl ⟨_,rfl,fB m4 (by simpa using g8)⟩⟩) (λg8=>?_)
      have g8:k2≠0:=by simpa using g8
      have j3:2<=k2:=by omega
      have j5:k2<=b.size:=by omega
      have j4:ja'+k2<=na'+nb':=by omega
      generalize jb-1-k2=kk2
      generalize lL.push u++(b.extract k2 (jb-1)).reverse=rV at m4 ⊢
      generalize k2=jb' at m4 j3 j5 kb j4 ⊢
     case' h2=>
      intro g5
      have ek:k2=jb-1:=by omega
      rw[ek]at kb
      have m4:=m3
      have j3:2<=jb-1:=by omega
      have j5:jb-1<=b.size:=by omega
      have j4:ja'+(jb-1)<=na'+nb':=by omega
      generalize jb-1-k2=kk2
      generalize lL.push u=rV at m4 ⊢
      generalize jb-1=jb' at m4 j3 j5 kb j4 ⊢
     all_goals
      refine ae (dQ hv ?_)
      have m5:MH key a.toList b.toList (rV.push v).toList (ja'-1) jb':=by
       rw[bC]
       exact m4.kR sa j1 (ga hv) kb
      refine df (λg7=>aj ⟨S3,_,_,_,_,_,_,_,rfl,.inl ⟨_,rfl,fA m5 (by simpa using g7)⟩⟩) (λg7=>?_)
      have g7:ja'-1≠0:=by simpa using g7
      refine df (λ_=>?_) (λ_=>?_)
      ·exact aj ⟨S3,_,_,_,_,_,_,_,rfl,.inr ⟨rfl,m5,by omega,j3,by omega,j5,by omega⟩⟩
      ·exact aj ⟨S3,_,_,_,_,_,_,rfl,m5,by omega,j3,by omega,j5,by omega⟩
  ·rintro c st3 ⟨S3,ja,jb,out,g,ac,bc,rfl,m,i1,i2,z1,z2,i5⟩
   exact⟨S3,_,_,_,_,_,_,_,rfl,.inr ⟨rfl,m,i1,i2,z1,z2,i5⟩⟩
  rintro c st3 ⟨S3,o,ja,jb,out,g,ac,bc,rfl,z⟩
  rcases z with⟨r,rfl,z⟩|⟨rfl,m,i1,i2,x1,x2,i5⟩
  ·exact aj ⟨S3,_,_,_,_,_,rfl,z⟩
  ·exact ae (jf S3 λst4 S3=>aj ⟨S3,_,_,_,_,rfl,m,i1,i2,x1,x2,(by show ja+jb+(x+1+1)<=a.size+b.size;omega)⟩)
 ·rintro c st' ⟨S1,na,nb,out,g,rfl,m,i1,i2,x1,x2,i3⟩
  omega
 rintro c st' ⟨S1,r,na,nb,out,g,rfl,z⟩
 exact aj (h r st' z S1)
end
section
variable {key:Keyed->Int}
def gZ (key:Keyed->Int)(arr:Array Keyed)(s n:Nat):Prop:=∀ i j,i<=j->j<n->Ka key arr (s+i)<=Ka key arr (s+j)
def Pd (key:Keyed->Int)(arr:Array Keyed):Nat->List (Nat×Nat×Nat)->Nat->Prop
 |s,[],lo=>s=lo
 |s,p::r,lo=>p.1=s/\1<=p.2.1/\gZ key arr s p.2.1/\Pd key arr (s+p.2.1) r lo
theorem gZ.congr {arr fN:Array Keyed}{s n:Nat}(h:gZ key arr s n)(e:∀ i,s<=i->i<s+n->Ka key fN i=Ka key arr i):gZ key fN s n:=λi j hij hj=>by
 rw[e _ (by omega) (by omega),e _ (by omega) (by omega)];exact h i j hij hj
theorem Pd.le {arr:Array Keyed} :∀ {p:List (Nat×Nat×Nat)}{s lo:Nat},Pd key arr s p lo->s+p.length<=lo
 |[],s,lo,h=>by have h:s=lo:=h;simp[h]
 |p::r,s,lo,h=>by
  have:=Pd.le h.2.2.2
  have:=h.2.1
  rw[aT];omega
theorem Pd.congr {arr fN:Array Keyed} :∀ {p:List (Nat×Nat×Nat)}{s lo:Nat},Pd key arr s p lo->(∀ i,s<=i->i<lo->Ka key fN i=Ka key arr i)->Pd key fN s p lo
 |[],s,lo,h,_=>h
 |p::r,s,lo,h,e=>⟨h.1,h.2.1,h.2.2.1.congr λi h1 h2=>e i h1 (by have:=Pd.le h.2.2.2;omega),Pd.congr h.2.2.2 λi h1 h2=>e i (by omega) h2⟩
theorem Pd.snoc {arr:Array Keyed} :∀ {p:List (Nat×Nat×Nat)}{s lo n pw:Nat},Pd key arr s p lo->1<=n->gZ key arr lo n->Pd key arr s (p ++ [(lo,n,pw)]) (lo+n)
 |[],s,lo,n,pw,h,h1,h2=>by
  have h:s=lo:=h
  subst h
  exact⟨rfl,h1,h2,rfl⟩
 |p::r,s,lo,n,pw,h,h1,h2=>⟨h.1,h.2.1,h.2.2.1,Pd.snoc h.2.2.2 h1 h2⟩
theorem Pd.two {arr:Array Keyed} :∀ {p:List (Nat×Nat×Nat)}{s lo i:Nat}{a b:Nat×Nat×Nat},Pd key arr s p lo->p[i]? = some a->p[i+1]? = some b->
  s<=a.1/\b.1=a.1+a.2.1/\1<=a.2.1/\1<=b.2.1/\gZ key arr a.1 a.2.1/\gZ key arr b.1 b.2.1/\b.1+b.2.1<=lo/\
  ∀ fN,(∀ j,j<a.1\/b.1+b.2.1<=j->Ka key fN j=Ka key arr j)->gZ key fN a.1 (a.2.1+b.2.1)->Pd key fN s ((p.set i (a.1,a.2.1+b.2.1,a.2.2)).eraseIdx (i+1)) lo
 |[],s,lo,i,a,b,h,h1,_=>by simp at h1
 |q::r,s,lo,0,a,b,h,h1,h2=>by
  have h1:q=a:=by simpa using h1
  subst h1
  cases r with
  |nil=>simp at h2
  |cons q2 r=>
   have h2:q2=b:=by simpa using h2
   subst h2
   obtain⟨e1,n1,g1,e2,n2,g2,t⟩:=h
   have l:=Pd.le t
   refine⟨by omega,by omega,n1,n2,by rw[e1];exact g1,by rw[e2];exact g2,by omega,λfN ag sg=>?_⟩
   show Pd key fN s ((q.1,q.2.1+q2.2.1,q.2.2)::r) lo
   refine⟨e1,by show 1<=q.2.1+q2.2.1;omega,by rw[e1]at sg;exact sg,?_⟩
   show Pd key fN (s+(q.2.1+q2.2.1)) r lo
   rw[<-Nat.add_assoc]
   exact t.congr λj h1 h2=>ag j (.inr (by omega))
 |q::r,s,lo,i+1,a,b,h,h1,h2=>by
  obtain⟨e1,n1,g1,t⟩:=h
  obtain⟨a1,a2,a3,a4,a5,a6,a7,a8⟩:=Pd.two t (by simpa using h1) (by simpa using h2)
  refine⟨by omega,a2,a3,a4,a5,a6,a7,λfN ag sg=>?_⟩
  show Pd key fN s (q::(r.set i _).eraseIdx (i+1)) lo
  exact⟨e1,n1,g1.congr λj h1 h2=>ag j (.inl (by omega)),a8 fN ag sg⟩
theorem o5 (b:Nat):∀ (l:List Keyed) (o:Nat) (arr:Array Keyed),b+o+l.length<=arr.size->∀ i:Nat,((l.zipIdx o).foldl (λa (pj:Keyed×Nat)=>a.setIfInBounds (b+pj.2) pj.1) arr)[i]? = if b+o<=i/\i<b+o+l.length then l[i-(b+o)]? else arr[i]?
 |[],o,arr,h,i=>by rw[ao (by simp)];rfl
 |x::l,o,arr,h,i=>by
  rw[aT]at h
  rw[List.zipIdx_cons,List.foldl_cons,o5 b l (o+1) _ (by rw[Array.size_setIfInBounds];omega) i,Array.getElem?_setIfInBounds]
  rw[aT]
  by_cases g:i=b+o
  ·subst g
   rw[ao (by omega),ar rfl,ar (by omega),ar (by omega),Nat.sub_self];rfl
  ·by_cases g2:b+o<=i/\i<b+o+(l.length+1)
   ·rw[ar (by omega),ar g2]
    rw[show i-(b+o)=i-(b+(o+1))+1 by omega];rfl
   ·rw[ao (by omega),ao g2,ao (λz=>g z.symm)]
end
section
variable {prog:Program}{w:World}{A:Around}{E:Value->Shared->Prop}{s:Shared}{κ:SortKind}{key:Keyed->Int}{D:Keyed->Prop}
structure Sok (κ:SortKind)(key:Keyed->Int)(D:Keyed->Prop)(a₀:Array Keyed)(lo:Nat)(st:SortSt):Prop where
 kind:PyProof.Rows.kindOf st=κ
 fail:failedOf st=none
 perm:(arrOf st).Perm a₀
 pend:Pd key (arrOf st) 0 (pendingOf st).toList lo
theorem Sok.size {a₀:Array Keyed}{lo:Nat}{st:SortSt}(h:Sok κ key D a₀ lo st):(arrOf st).size=a₀.size:=by
 have:=(b5.mp h.perm).length_eq
 simpa using this
theorem Sok.dom {a₀:Array Keyed}{lo:Nat}{st:SortSt}(h:Sok κ key D a₀ lo st)(hD:∀ x∈a₀.toList,D x)(i:Nat)(x:Keyed)(hx:(arrOf st)[i]? = some x):D x:=
 hD x ((b5.mp h.perm).mem_iff.mp (aF (by rw[aq];exact hx)))
theorem uB {x:SortSt}{Q:PUnit->SortSt->Prop}{st:SortSt}(h:∀ st1,PyProof.Rows.kindOf st1=PyProof.Rows.kindOf x->arrOf st1=arrOf x->pendingOf st1=pendingOf x->failedOf st1=failedOf x->Q ⟨⟩ st1):wpS (model prog w) A E s (set x:StateT SortSt Sem PUnit) Q st:=by
 unfold wpS;rw[StateT.run_set];exact aP ⟨rfl,h x rfl rfl rfl rfl⟩
theorem lQ (O:Orc prog w A s κ key D){a₀:Array Keyed}(hD:∀ x∈a₀.toList,D x){lo:Nat}{st:SortSt}(S:Sok κ key D a₀ lo st)(hlo:lo<=a₀.size){i:Nat}(hi:i+1<(pendingOf st).size){Q:Bool->SortSt->Prop}
  (h:∀ st',Sok κ key D a₀ lo st'->(pendingOf st').size+1=(pendingOf st).size->(∀ j,lo<=j->Ka key (arrOf st') j=Ka key (arrOf st) j)->Q true st'):wpS (model prog w) A E s (mergeAt' i) Q st:=by
 obtain⟨⟨sa,na,pw⟩,ea⟩:∃ a,(pendingOf st)[i]? = some a:=⟨_,br (by omega)⟩
 obtain⟨⟨sb,nb,pw2⟩,eb⟩:∃ b,(pendingOf st)[i+1]? = some b:=⟨_,br hi⟩
 have hs:=S.size
 have dm:=S.dom hD
 obtain⟨_,e1,n1,n2,g1,g2,le,mk⟩:=S.pend.two (by rw[aq];exact ea) (by rw[aq];exact eb)
 dsimp only at e1 n1 n2 g1 g2 le mk
 have lp:(((pendingOf st).setIfInBounds i (sa,na+nb,pw)).eraseIdxIfInBounds (i+1)).toList=((pendingOf st).toList.set i (sa,na+nb,pw)).eraseIdx (i+1):=by
  rw[Array.toList_eraseIdxIfInBounds,Array.toList_setIfInBounds]
 have sz:(((pendingOf st).setIfInBounds i (sa,na+nb,pw)).eraseIdxIfInBounds (i+1)).size+1=(pendingOf st).size:=by
  have:=bM List.length lp
  rw[af,List.length_eraseIdx,List.length_set,af,ar hi]at this
  omega
 refine ae (wpS_get ?_)
 dsimp only
 rw[ea,eb]
 dsimp only
 refine ae (uB λst1 k1 k2 k3 k4=>?_)
 have k1:PyProof.Rows.kindOf st1=κ:=k1.trans S.kind
 have k2:arrOf st1=arrOf st:=k2
 have k3:pendingOf st1=((pendingOf st).setIfInBounds i (sa,na+nb,pw)).eraseIdxIfInBounds (i+1):=k3
 have k4:failedOf st1=none:=k4.trans S.fail
 have same:gZ key (arrOf st) sa (na+nb)->Q true st1:=λsg=>h st1 ⟨k1,k4,by rw[k2];exact S.perm,by rw[k2,k3,lp];exact mk _ (λ_ _=>rfl) sg⟩ (by rw[k3];exact sz) (λj _=>by rw[k2])
 obtain⟨u,hu⟩:=dW (show sb<(arrOf st).size by omega)
 have ku:=eM (key:=key) hu
 refine ae (dQ hu ?_)
 refine ae (gI O (base:=sa) (n:=na) (hint:=0) (dm _ _ hu) dm (by omega) (by omega) (ir g1) k1 λk C=>?_)
 obtain⟨C0,C1,C2⟩:=C
 have C1:∀ i,i<k->Ka key (arrOf st) (sa+i)<=key u:=λi hi=>by have:=C1 i hi;rw[kJ]at this;omega
 have C2:∀ i,k<=i->i<na->key u<Ka key (arrOf st) (sa+i):=λi hi h2=>by have:=C2 i hi h2;rw[iE]at this;exact this
 have bu:∀ i,i<nb->key u<=Ka key (arrOf st) (sb+i):=λi hi=>by
  have:=g2 0 i (by omega) hi
  rw[cB,ku]at this
  exact this
 dsimp only
 refine df (λe=>aj (same λi j hij hj=>?_)) (λe=>?_)
 ·have e:na-k=0:=by simpa using e
  by_cases q:j<na
  ·exact g1 i j hij q
  ·have h2:=bu (j-na) (by omega)
   rw[show sb+(j-na)=sa+j by omega]at h2
   by_cases q2:i<na
   ·have:=C1 i (by omega)
    omega
   ·have:=g2 (i-na) (j-na) (by omega) (by omega)
    rw[show sb+(j-na)=sa+j by omega,show sb+(i-na)=sa+i by omega]at this
    exact this
 have e:na-k≠0:=by simpa using e
 obtain⟨v,hv⟩:=dW (show sa+k+(na-k)-1<(arrOf st).size by omega)
 have kv:=eM (key:=key) hv
 refine ae (dQ hv ?_)
 refine ae (gI O (base:=sb) (n:=nb) (hint:=nb-1) (dm _ _ hv) dm (by omega) (by omega) (ir g2) k1 λm C=>?_)
 obtain⟨B0,B1,B2⟩:=C
 have B1:∀ i,i<m->Ka key (arrOf st) (sb+i)<key v:=λi hi=>by have:=B1 i hi;rw[me]at this;exact this
 have B2:∀ i,m<=i->i<nb->key v<=Ka key (arrOf st) (sb+i):=λi hi h2=>by have:=B2 i hi h2;rw[jw]at this;omega
 have av:∀ i,i<na->Ka key (arrOf st) (sa+i)<=key v:=λi hi=>by
  have:=g1 i (na-1) (by omega) (by omega)
  rw[show sa+(na-1)=sa+k+(na-k)-1 by omega,kv]at this
  exact this
 dsimp only
 refine df (λe=>aj (same λi j hij hj=>?_)) (λe3=>?_)
 ·have e:m=0:=by simpa using e
  by_cases q:j<na
  ·exact g1 i j hij q
  ·have h2:=B2 (j-na) (by omega) (by omega)
   rw[show sb+(j-na)=sa+j by omega]at h2
   by_cases q2:i<na
   ·have:=av i q2
    omega
   ·have:=g2 (i-na) (j-na) (by omega) (by omega)
    rw[show sb+(j-na)=sa+j by omega,show sb+(i-na)=sa+i by omega]at this
    exact this
 have e3:m≠0:=by simpa using e3
 have zx:((arrOf st).extract (sa+k) sb).size=na-k:=by rw[Array.size_extract];omega
 have zy:((arrOf st).extract sb (sb+m)).size=m:=by rw[Array.size_extract];omega
 have gx:∀ t:Nat,t<na-k->((arrOf st).extract (sa+k) sb)[t]? = (arrOf st)[sa+k+t]? :=λt ht=>by rw[Array.getElem?_extract,ar (by omega)]
 have gy:∀ t:Nat,t<m->((arrOf st).extract sb (sb+m))[t]? = (arrOf st)[sb+t]? :=λt ht=>by rw[Array.getElem?_extract,ar (by omega)]
 have mx:∀ z∈((arrOf st).extract (sa+k) sb).toList,∃ t,t<na-k/\(arrOf st)[sa+k+t]? = some z:=λz hz=>by
  obtain⟨t,ht,et⟩:=cv.mp hz
  rw[af,zx]at ht
  refine⟨t,ht,?_⟩
  rw[<-gx t ht,<-aq,ax (by rw[af,zx];exact ht),et]
 have my:∀ z∈((arrOf st).extract sb (sb+m)).toList,∃ t,t<m/\(arrOf st)[sb+t]? = some z:=λz hz=>by
  obtain⟨t,ht,et⟩:=cv.mp hz
  rw[af,zy]at ht
  refine⟨t,ht,?_⟩
  rw[<-gy t ht,<-aq,ax (by rw[af,zy];exact ht),et]
 have px:∀ z∈((arrOf st).extract (sa+k) sb).toList,key u<=key z/\key z<=key v:=λz hz=>by
  obtain⟨t,ht,et⟩:=mx z hz
  have h1:=C2 (k+t) (by omega) (by omega)
  have h2:=av (k+t) (by omega)
  rw[show sa+(k+t)=sa+k+t by omega,eM et]at h1 h2
  omega
 have py:∀ z∈((arrOf st).extract sb (sb+m)).toList,key u<=key z/\key z<=key v:=λz hz=>by
  obtain⟨t,ht,et⟩:=my z hz
  have h1:=bu t (by omega)
  have h2:=B1 t ht
  rw[eM et]at h1 h2
  omega
 have sx:ft key ((arrOf st).extract (sa+k) sb).toList:=bN.mpr λi j hi hj hij=>by
  rw[af,zx]at hi hj
  have h1:=g1 (k+i) (k+j) (by omega) (by omega)
  have e1:(arrOf st)[sa+k+i]? = some ((arrOf st).extract (sa+k) sb).toList[i]:=by rw[<-gx i hi,<-aq,ax (by rw[af,zx];exact hi)]
  have e2:(arrOf st)[sa+k+j]? = some ((arrOf st).extract (sa+k) sb).toList[j]:=by rw[<-gx j hj,<-aq,ax (by rw[af,zx];exact hj)]
  rw[show sa+(k+i)=sa+k+i by omega,show sa+(k+j)=sa+k+j by omega,eM e1,eM e2]at h1
  exact h1
 have sy:ft key ((arrOf st).extract sb (sb+m)).toList:=bN.mpr λi j hi hj hij=>by
  rw[af,zy]at hi hj
  have h1:=g2 i j (by omega) (by omega)
  have e1:(arrOf st)[sb+i]? = some ((arrOf st).extract sb (sb+m)).toList[i]:=by rw[<-gy i hi,<-aq,ax (by rw[af,zy];exact hi)]
  have e2:(arrOf st)[sb+j]? = some ((arrOf st).extract sb (sb+m)).toList[j]:=by rw[<-gy j hj,<-aq,ax (by rw[af,zy];exact hj)]
  rw[eM e1,eM e2]at h1
  exact h1
 have hA:∀ (i:Nat) x,((arrOf st).extract (sa+k) sb)[i]? = some x->D x:=λi x hx=>by
  obtain⟨t,_,et⟩:=mx x (aF (by rw[aq];exact hx))
  exact dm _ _ et
 have hB:∀ (i:Nat) x,((arrOf st).extract sb (sb+m))[i]? = some x->D x:=λi x hx=>by
  obtain⟨t,_,et⟩:=my x (aF (by rw[aq];exact hx))
  exact dm _ _ et
 have h0:∀ x∈((arrOf st).extract (sa+k) sb).toList,∀ y,((arrOf st).extract sb (sb+m))[0]? = some y->key y<=key x:=λx hx y hy=>by
  rw[gy 0 (by omega),cB,hu]at hy
  cases hy
  exact(px x hx).1
 have hl:∀ y∈((arrOf st).extract sb (sb+m)).toList,∀ x,((arrOf st).extract (sa+k) sb)[((arrOf st).extract (sa+k) sb).size-1]? = some x->key y<=key x:=λy hy x hx=>by
  rw[zx,gx _ (by omega),show sa+k+(na-k-1)=sa+k+(na-k)-1 by omega,hv]at hx
  cases hx
  exact(py y hy).2
 have back:∀ r:Array Keyed,Mgd key ((arrOf st).extract (sa+k) sb).toList ((arrOf st).extract sb (sb+m)).toList r.toList->∀ fN,fN=r.toList.zipIdx.foldl (λa (pj:Keyed×Nat)=>a.setIfInBounds (sa+k+pj.2) pj.1) (arrOf st)->fN.Perm (arrOf st)/\(∀ j,j<sa\/sb+nb<=j->Ka key fN j=Ka key (arrOf st) j)/\gZ key fN sa (na+nb):=by
  rintro r ⟨rs,rp⟩ fN rfl
  have rl:r.toList.length=na-k+m:=by
   have:=rp.length_eq
   rw[aY,af,af,af,zx,zy]at this
   rw[af];exact this
  have G:=o5 (sa+k) r.toList 0 (arrOf st) (by omega)
  rw[cB,rl]at G
  have pr:∀ z∈r.toList,key u<=key z/\key z<=key v:=λz hz=>by
   rcases aI.mp (rp.mem_iff.mp hz)with q |q
   ·exact px z q
   ·exact py z q
  generalize r.toList.zipIdx.foldl (λa (pj:Keyed×Nat)=>a.setIfInBounds (sa+k+pj.2) pj.1) (arrOf st)=fN at G
  have Go:∀ j,j<sa+k\/sb+m<=j->Ka key fN j=Ka key (arrOf st) j:=λj hj=>by
   have:=G j
   rw[ao (by omega)]at this
   unfold Ka
   rw[aR,this,aR]
  have Gi:∀ j,sa+k<=j->j<sb+m->∃ z,r.toList[j-(sa+k)]? = some z/\Ka key fN j=key z:=λj h1 h2=>by
   have:=G j
   rw[ar (by omega)]at this
   have hz:r.toList[j-(sa+k)]? = some r.toList[j-(sa+k)]:=ax (by omega)
   rw[hz]at this
   exact⟨_,hz,eM this⟩
  refine⟨?_,λj hj=>Go j (by omega),λi j hij hj=>?_⟩
  ·rw[b5]
   have es:fN.size=(arrOf st).size:=by
    refine Nat.le_antisymm (Nat.le_of_not_lt λz=>?_) (Nat.le_of_not_lt λz=>?_)
    ·have:=G (arrOf st).size
     rw[ao (by omega),Array.getElem?_eq_none (ah _),br z]at this
     cases this
    ·have:=G fN.size
     rw[Array.getElem?_eq_none (ah _)]at this
     by_cases q:sa+k<=fN.size/\fN.size<sa+k+(na-k+m)
     ·rw[ar q,ax (by omega)]at this;cases this
     ·rw[ao q,br z]at this;cases this
   have el:fN.toList=(arrOf st).toList.take (sa+k)++(r.toList++(arrOf st).toList.drop (sb+m)):=by
    refine List.ext_getElem? λj=>?_
    rw[aq,G j]
    have ll:((arrOf st).toList.take (sa+k)).length=sa+k:=by rw[bj,af];omega
    by_cases q1:j<sa+k
    ·rw[ao (by omega),bF (by omega),List.getElem?_take,ar q1,aq]
    ·rw[bZ (by omega),ll]
     by_cases q2:j<sb+m
     ·rw[ar (by omega),bF (by omega)]
     ·rw[ao (by omega),bZ (by omega),b9,aq]
      congr 1
      omega
   have eo:(arrOf st).toList=(arrOf st).toList.take (sa+k)++((((arrOf st).extract (sa+k) sb).toList++((arrOf st).extract sb (sb+m)).toList)++(arrOf st).toList.drop (sb+m)):=by
    rw[aW,aW,List.extract_eq_take_drop,List.extract_eq_take_drop]
    have a1:(arrOf st).toList.drop (sa+k)=((arrOf st).toList.drop (sa+k)).take (sb-(sa+k))++(arrOf st).toList.drop sb:=by
     have:=(cn (sb-(sa+k)) ((arrOf st).toList.drop (sa+k))).symm
     rw[List.drop_drop,show sa+k+(sb-(sa+k))=sb by omega]at this
     exact this
    have a2:(arrOf st).toList.drop sb=((arrOf st).toList.drop sb).take (sb+m-sb)++(arrOf st).toList.drop (sb+m):=by
     have:=(cn (sb+m-sb) ((arrOf st).toList.drop sb)).symm
     rw[List.drop_drop,show sb+(sb+m-sb)=sb+m by omega]at this
     exact this
    rw[aK,<-a2,<-a1,cn]
   rw[el]
   conv=>rhs;rw[eo]
   exact cq _ (List.Perm.append_right _ rp)
  ·-- rising
   by_cases i1:i<k
   ·rw[Go (sa+i) (by omega)]
    have c1:=C1 i i1
    by_cases j1:j<k
    ·rw[Go (sa+j) (by omega)];exact g1 i j hij (by omega)
    ·by_cases j2:j<na+m
     ·obtain⟨z,hz,ez⟩:=Gi (sa+j) (by omega) (by omega)
      have:=(pr z (aF hz)).1
      omega
     ·rw[Go (sa+j) (by omega)]
      have:=bu (j-na) (by omega)
      rw[show sb+(j-na)=sa+j by omega]at this
      omega
   ·by_cases i2:i<na+m
    ·obtain⟨z,hz,ez⟩:=Gi (sa+i) (by omega) (by omega)
     have c2:=(pr z (aF hz)).2
     by_cases j2:j<na+m
     ·obtain⟨z',hz',ez'⟩:=Gi (sa+j) (by omega) (by omega)
      rw[ez,ez']
      by_cases ee:i=j
      ·subst ee
       rw[hz]at hz';cases hz';exact cw _
      ·obtain⟨p1,rfl⟩:=aC.mp hz
       obtain⟨p2,rfl⟩:=aC.mp hz'
       exact bN.mp rs _ _ p1 p2 (by omega)
     ·rw[Go (sa+j) (by omega)]
      have:=B2 (j-na) (by omega) (by omega)
      rw[show sb+(j-na)=sa+j by omega]at this
      omega
    ·rw[Go (sa+i) (by omega),Go (sa+j) (by omega)]
     have:=g2 (i-na) (j-na) (by omega) (by omega)
     rw[show sb+(i-na)=sa+i by omega,show sb+(j-na)=sa+j by omega]at this
     exact this
 have last:∀ (r:Array Keyed) (st2:SortSt),Mgd key ((arrOf st).extract (sa+k) sb).toList ((arrOf st).extract sb (sb+m)).toList r.toList->SmS st1 st2->∀ st3,PyProof.Rows.kindOf st3=PyProof.Rows.kindOf st2->arrOf st3=r.toList.zipIdx.foldl (λa (pj:Keyed×Nat)=>a.setIfInBounds (sa+k+pj.2) pj.1) (arrOf st2)->pendingOf st3=pendingOf st2->failedOf st3=failedOf st2->Q (failedOf st3).isNone st3:=by
  intro r st2 M S2 st3 b1 b2 b3 b4
  rw[S2.2.1,k2]at b2
  obtain⟨c1,c2,c3⟩:=back r M _ b2
  have hf:failedOf st3=none:=b4.trans (S2.2.2.2.trans k4)
  rw[hf]
  refine h st3 ⟨b1.trans (S2.1.trans k1),hf,c1.trans S.perm,?_⟩ ?_ (λj hj=>c2 j (.inr (by omega)))
  ·rw[b3,S2.2.2.1,k3,lp];exact mk _ c2 c3
  ·rw[b3,S2.2.2.1,k3];exact sz
 refine df (λ_=>ae (pT O hA hB sx sy (by omega) (by omega) h0 hl k1 λr st2 M S2=>?_)) (λ_=>ae (pU O hA hB sx sy (by omega) (by omega) h0 hl k1 λr st2 M S2=>?_))
 all_goals exact ae (wpS_modify (ae (wpS_get (aj (last r st2 M S2 _ rfl rfl rfl rfl)))))
end
section
variable {prog:Program}{w:World}{A:Around}{E:Value->Shared->Prop}{s:Shared}{κ:SortKind}{key:Keyed->Int}{D:Keyed->Prop}{a₀:Array Keyed}{lo:Nat}{st:SortSt}
theorem jo (O:Orc prog w A s κ key D)(hD:∀ x∈a₀.toList,D x)(S:Sok κ key D a₀ lo st){i j:Nat}(hi:i<a₀.size)(hj:j<a₀.size){Q:Option Bool->SortSt->Prop}(h:Q (some (decide (Ka key (arrOf st) i<Ka key (arrOf st) j))) st):wpS (model prog w) A E s (ltAt' i j) Q st:=by
 have hs:=S.size
 obtain⟨x,hx⟩:=dW (show i<(arrOf st).size by omega)
 obtain⟨y,hy⟩:=dW (show j<(arrOf st).size by omega)
 rw[eM hx,eM hy]at h
 rw[ltAt'_eq]
 refine ae (wpS_get ?_)
 refine ae (dQ hx (ae (dQ hy (lM O (S.dom hD _ _ hx) (S.dom hD _ _ hy) S.kind h))))
theorem n6 {arr:Array Keyed}{i j k:Nat}(hj:j<=arr.size):Ka key (mirror arr i j ((j-i)/2)) k=if i<=k/\k<j then Ka key arr (i+j-1-k)else Ka key arr k:=by
 unfold Ka
 rw[aR,getElem?_mirror_all hj]
 by_cases h:i<=k/\k<j
 ·rw[ar h,ar h,aR]
 ·rw[ao h,ao h,aR]
theorem kL {arr:Array Keyed}{i j:Nat}(hj:j<=arr.size)(he:∀ k,i<=k->k<j->Ka key arr k=Ka key arr (j-1))(k:Nat):Ka key (mirror arr i j ((j-i)/2)) k=Ka key arr k:=by
 rw[n6 hj]
 by_cases h:i<=k/\k<j
 ·rw[ar h,he k h.1 h.2,he _ (by omega) (by omega)]
 ·rw[ao h]
theorem nr (S:Sok κ key D a₀ lo st){i j:Nat}(hi:lo<=i)(hj:j<=a₀.size){Q:Unit->SortSt->Prop}(h:∀ st',Sok κ key D a₀ lo st'->arrOf st'=mirror (arrOf st) i j ((j-i)/2)->Q () st'):wpS (model prog w) A E s (reverseSlice' i j) Q st:=by
 rw[reverseSlice'_eq]
 refine wpS_modify (h _ ⟨S.kind,S.fail,(mirror_perm _ _ _ _).trans S.perm,S.pend.congr λk _ hk=>?_⟩ rfl)
 show Ka key (mirror (arrOf st) i j ((j-i)/2)) k=_
 rw[n6 (by rw[S.size];exact hj),ao (by omega)]
def nZ (key:Keyed->Int)(arr:Array Keyed)(lo n:Nat):Prop:=∀ i,1<=i->i<n->Ka key arr (lo+i-1)<=Ka key arr (lo+i)
def sT (key:Keyed->Int)(arr:Array Keyed)(lo n:Nat):Prop:=∀ i,1<=i->i<n->Ka key arr (lo+i)<=Ka key arr (lo+i-1)
theorem nZ.seg {arr:Array Keyed}{lo n:Nat}(h:nZ key arr lo n):gZ key arr lo n:=by
 intro i j
 induction j with
 |zero=>intro hij _;rw[show i=0 by omega];exact cw _
 |succ j ih=>
  intro hij hj
  by_cases e:i=j+1
  ·rw[e];exact cw _
  ·have h1:=ih (by omega) (by omega)
   have h2:=h (j+1) (by omega) hj
   rw[show lo+(j+1)-1=lo+j by omega]at h2
   omega
theorem gZ.rise {arr:Array Keyed}{lo n:Nat}(h:gZ key arr lo n):nZ key arr lo n:=λi h1 h2=>by
 have:=h (i-1) i (by omega) h2
 rw[show lo+(i-1)=lo+i-1 by omega]at this
 exact this
theorem rg (O:Orc prog w A s κ key D)(hD:∀ x∈a₀.toList,D x)(S:Sok κ key D a₀ lo st){kF:Nat}(h1:1<=kF)(hn:lo+kF<=a₀.size){Q:Option Nat->SortSt->Prop}
  (h:∀ n st',Sok κ key D a₀ lo st'->1<=n->n<=kF->gZ key (arrOf st') lo n->Q (some n) st'):wpS (model prog w) A E s (countRun' lo kF) Q st:=by
 refine ae (bX (bo (I:=λx c st'=>st=st'/\c=(none,x)/\nZ key (arrOf st) lo x)
  (Q:=λc st'=>st=st'/\∃ n,c=(none,n)/\1<=n/\n<=kF/\nZ key (arrOf st) lo n/\(n<kF->Ka key (arrOf st) (lo+n)<Ka key (arrOf st) (lo+n-1))) ?_ ?_ ⟨rfl,rfl,λi a b=>absurd b (by omega)⟩) ?_)
 ·rintro x c st' hx1 hx ⟨rfl,rfl,R⟩
  dsimp only
  refine ae (jo O hD S (by omega) (by omega) ?_)
  dsimp only
  by_cases q:Ka key (arrOf st) (lo+x)<Ka key (arrOf st) (lo+x-1)
  ·rw[ar (by simpa using q)]
   exact aj ⟨rfl,x,rfl,hx1,by omega,R,λ_=>q⟩
  ·rw[ao (by simpa using q)]
   refine aj ⟨rfl,rfl,λi a b=>?_⟩
   by_cases e:i=x
   ·rw[e];omega
   ·exact R i a (by omega)
 ·rintro c st' ⟨rfl,rfl,R⟩
  rw[show max 1 kF=kF by omega]at R ⊢
  exact⟨rfl,kF,rfl,h1,ah _,R,λz=>absurd z (bK _)⟩
 rintro c st' ⟨rfl,n,rfl,n1,n2,R,dn⟩
 dsimp only
 refine df (λe=>aj (h n st S n1 n2 R.seg)) (λe=>?_)
 have e:n≠kF:=by simpa using e
 have dn:=dn (by omega)
 have hs:=S.size
 apply df
 case' h1=>
  intro g
  refine ae (jo O hD S (by omega) (by omega) ?_)
  dsimp only
  refine df (λq=>aj (h n st S n1 n2 R.seg)) (λq=>?_)
  have q:Ka key (arrOf st) (lo+n-1)<=Ka key (arrOf st) lo:=by
   have q:¬(Ka key (arrOf st) lo<Ka key (arrOf st) (lo+n-1)):=by simpa using q
   omega
  refine ae (nr S (ah _) (by omega) λst1 S1 e1=>?_)
  have F:sT key (arrOf st1) lo (n+1):=by
   have all:∀ k,lo<=k->k<lo+n->Ka key (arrOf st) k=Ka key (arrOf st) (lo+n-1):=λk a b=>by
    have c1:=R.seg 0 (k-lo) (by omega) (by omega)
    have c2:=R.seg (k-lo) (n-1) (by omega) (by omega)
    rw[show lo+(k-lo)=k by omega]at c1 c2
    rw[show lo+(n-1)=lo+n-1 by omega]at c2
    rw[cB]at c1
    omega
   have G:=kL (key:=key) (arr:=arrOf st) (i:=lo) (j:=lo+n) (by omega) all
   intro i a b
   rw[e1,G,G]
   by_cases z:i=n
   ·rw[z];omega
   ·have:=all (lo+i) (by omega) (by omega)
    have:=all (lo+i-1) (by omega) (by omega)
    omega
 case' h2=>
  intro g
  have S1:=S
  have F:sT key (arrOf st) lo (n+1):=λi a b=>by
   rw[show i=n by omega];omega
  generalize st=st1 at S1 F ⊢
 all_goals
  clear dn R hs S
  refine ae (fR (wpAny_rule ⟨rfl,?_⟩))
  refine ae (bX (bo (I:=λx c st'=>Sok κ key D a₀ lo st'/\∃ q,c=(none,x,q)/\q+1<=x/\x<=kF/\sT key (arrOf st') lo x/\∀ k,lo+x-(q+1)<=k->k<lo+x->Ka key (arrOf st') k=Ka key (arrOf st') (lo+x-1))
   (Q:=λc st'=>Sok κ key D a₀ lo st'/\∃ x q,c=(none,x,q)/\q+1<=x/\x<=kF/\sT key (arrOf st') lo x/\∀ k,lo+x-(q+1)<=k->k<lo+x->Ka key (arrOf st') k=Ka key (arrOf st') (lo+x-1)) ?_ ?_ ⟨S1,0,rfl,by omega,by omega,F,λk a b=>by rw[show k=lo+(n+1)-1 by omega]⟩) ?_)
  ·rintro x c st' hx1 hx ⟨S2,q,rfl,q1,q2,F,eq⟩
   dsimp only
   have hs:=S2.size
   refine ae (jo O hD S2 (by omega) (by omega) ?_)
   dsimp only
   by_cases z:Ka key (arrOf st') (lo+x)<Ka key (arrOf st') (lo+x-1)
   ·rw[ar (by simpa using z)]
    refine df (λg2=>?_) (λg2=>?_)
    ·refine ae (nr S2 (by omega) (by omega) λst3 S3 e3=>aj ⟨S3,0,rfl,by omega,by omega,λi a b=>?_,λk a b=>by rw[show k=lo+(x+1)-1 by omega]⟩)
     have G:=kL (key:=key) (arr:=arrOf st') (i:=lo+x-(q+1)) (j:=lo+x) (by omega) eq
     rw[e3,G,G]
     by_cases y:i=x
     ·rw[y];omega
     ·exact F i a (by omega)
    ·refine aj ⟨S2,0,rfl,by omega,by omega,λi a b=>?_,λk a b=>by rw[show k=lo+(x+1)-1 by omega]⟩
     by_cases y:i=x
     ·rw[y];omega
     ·exact F i a (by omega)
   ·rw[ao (by simpa using z)]
    refine ae (jo O hD S2 (by omega) (by omega) ?_)
    dsimp only
    by_cases y:Ka key (arrOf st') (lo+x-1)<Ka key (arrOf st') (lo+x)
    ·rw[ar (by simpa using y)]
     exact aj ⟨S2,x,q,rfl,q1,q2,F,eq⟩
    ·rw[ao (by simpa using y)]
     refine aj ⟨S2,q+1,rfl,by omega,by omega,λi a b=>?_,λk a b=>?_⟩
     ·by_cases v:i=x
      ·rw[v];omega
      ·exact F i a (by omega)
     ·rw[show lo+(x+1)-1=lo+x by omega]
      by_cases v:k=lo+x
      ·rw[v]
      ·rw[eq k (by omega) (by omega)];omega
  ·rintro c st' ⟨S2,q,rfl,q1,q2,F,eq⟩
   exact⟨S2,_,q,rfl,q1,q2,F,eq⟩
  clear F S1
  rintro c st' ⟨S2,x,q,rfl,q1,q2,F,eq⟩
  dsimp only
  have hs:=S2.size
  apply df
  case' h1=>
   intro g2
   refine ae (nr S2 (by omega) (by omega) λst3 S3 e3=>?_)
   have F3:sT key (arrOf st3) lo x:=λi a b=>by
    have G:=kL (key:=key) (arr:=arrOf st') (i:=lo+x-(q+1)) (j:=lo+x) (by omega) eq
    rw[e3,G,G];exact F i a b
  case' h2=>
   intro g2
   have S3:=S2
   have F3:=F
   generalize st'=st3 at S3 F3 ⊢
  all_goals
   clear F eq S2 hs
   have hs:=S3.size
   refine ae (nr S3 (ah _) (by omega) λst4 S4 e4=>?_)
   have R4:nZ key (arrOf st4) lo x:=λi a b=>by
    rw[e4,n6 (by omega),n6 (by omega),ar (by omega),ar (by omega)]
    have:=F3 (x-i) (by omega) (by omega)
    rw[show lo+(lo+x)-1-(lo+i-1)=lo+(x-i) by omega,show lo+(lo+x)-1-(lo+i)=lo+(x-i)-1 by omega]
    exact this
   refine ae (bX (bo (I:=λy c st'=>st4=st'/\c=(none,y)/\nZ key (arrOf st4) lo y)
    (Q:=λc st'=>st4=st'/\∃ n,c=(none,n)/\1<=n/\n<=kF/\nZ key (arrOf st4) lo n) ?_ ?_ ⟨rfl,rfl,R4⟩) ?_)
   ·rintro y c st' hx1 hx ⟨rfl,rfl,R⟩
    dsimp only
    refine ae (jo O hD S4 (by omega) (by omega) ?_)
    dsimp only
    by_cases z:Ka key (arrOf st4) (lo+y)<Ka key (arrOf st4) (lo+y-1)
    ·rw[ar (by simpa using z)]
     exact aj ⟨rfl,y,rfl,by omega,by omega,R⟩
    ·rw[ao (by simpa using z)]
     refine aj ⟨rfl,rfl,λi a b=>?_⟩
     by_cases e:i=y
     ·rw[e];omega
     ·exact R i a (by omega)
   ·rintro c st' ⟨rfl,rfl,R⟩
    exact⟨rfl,_,rfl,by omega,by omega,R⟩
   rintro c st' ⟨rfl,n,rfl,n1,n2,R⟩
   exact aj (h n st4 S4 n1 n2 R.seg)
theorem vH {arr:Array Keyed}{k m i:Nat}(hk:k<arr.size)(hm:m<=k):Ka key (bubble arr k (k-m)) i=if i=m then Ka key arr k else if m<i/\i<=k then Ka key arr (i-1)else Ka key arr i:=by
 unfold Ka
 rw[aR,getElem?_bubble hk _ (by omega),show k-(k-m)=m by omega]
 by_cases h1:i=m
 ·rw[ar h1,ar h1,aR]
 ·rw[ao h1,ao h1]
  by_cases h2:m<i/\i<=k
  ·rw[ar h2,ar h2,aR]
  ·rw[ao h2,ao h2,aR]
theorem tX (O:Orc prog w A s κ key D)(hD:∀ x∈a₀.toList,D x)(S:Sok κ key D a₀ lo st){n ok:Nat}(h1:1<=ok)(h2:ok<=n)(hn:lo+n<=a₀.size)(sg:gZ key (arrOf st) lo ok){Q:Bool->SortSt->Prop}
  (h:∀ st',Sok κ key D a₀ lo st'->gZ key (arrOf st') lo n->Q true st'):wpS (model prog w) A E s (binarySort' lo n ok) Q st:=by
 refine ae (bX (bo (I:=λk c st'=>Sok κ key D a₀ lo st'/\c=(none,())/\gZ key (arrOf st') lo k) (Q:=λc st'=>Sok κ key D a₀ lo st'/\c=(none,())/\gZ key (arrOf st') lo n) ?_ ?_ ⟨S,rfl,by rw[show max ok 1=ok by omega];exact sg⟩) ?_)
 ·rintro k c st' hk1 hk ⟨S1,rfl,sg⟩
  dsimp only
  have hs:=S1.size
  refine ae (bX (bo (I:=λx c st2=>st'=st2/\∃ l r,c=(none,l,r)/\l<=r/\r<=k/\r+x<=k+l/\(∀ i,i<l->Ka key (arrOf st') (lo+i)<=Ka key (arrOf st') (lo+k))/\(∀ i,r<=i->i<k->Ka key (arrOf st') (lo+k)<=Ka key (arrOf st') (lo+i)))
   (Q:=λc st2=>st'=st2/\∃ l r,c=(none,l,r)/\l<=k/\(∀ i,i<l->Ka key (arrOf st') (lo+i)<=Ka key (arrOf st') (lo+k))/\(∀ i,l<=i->i<k->Ka key (arrOf st') (lo+k)<=Ka key (arrOf st') (lo+i))) ?_ ?_ ⟨rfl,0,k,rfl,aQ _,ah _,by omega,λi z=>absurd z (by omega),λi a b=>absurd b (by omega)⟩) ?_)
  ·rintro x c st2 _ hx ⟨rfl,l,r,rfl,a1,a2,a3,a4,a5⟩
   dsimp only
   refine df (λg=>aj ⟨rfl,l,r,rfl,by omega,a4,λi b1 b2=>a5 i (by omega) b2⟩) (λg=>?_)
   refine ae (jo O hD S1 (by omega) (by omega) ?_)
   dsimp only
   by_cases z:Ka key (arrOf st') (lo+k)<Ka key (arrOf st') (lo+(l+r)/2)
   ·rw[ar (by simpa using z)]
    refine aj ⟨rfl,l,_,rfl,by omega,by omega,by omega,a4,λi b1 b2=>?_⟩
    have:=sg ((l+r)/2) i b1 b2
    omega
   ·rw[ao (by simpa using z)]
    refine aj ⟨rfl,_,r,rfl,by omega,by omega,by omega,λi b1=>?_,a5⟩
    have:=sg i ((l+r)/2) (by omega) (by omega)
    omega
  ·rintro c st2 ⟨rfl,l,r,rfl,a1,a2,a3,a4,a5⟩
   exact⟨rfl,l,r,rfl,by omega,a4,λi b1 b2=>a5 i (by omega) b2⟩
  rintro c st2 ⟨rfl,l,r,rfl,a1,a4,a5⟩
  dsimp only
  have G:∀ i,Ka key (bubble (arrOf st') (lo+k) (lo+k-(lo+l))) i=if i=lo+l then Ka key (arrOf st') (lo+k)else if lo+l<i/\i<=lo+k then Ka key (arrOf st') (i-1)else Ka key (arrOf st') i:=λi=>vH (by omega) (by omega)
  refine ae (wpS_modify (aj ⟨⟨S1.kind,S1.fail,(bubble_perm _ _ _).trans S1.perm,S1.pend.congr λj _ hj=>?_⟩,rfl,nZ.seg λi b1 b2=>?_⟩))
  ·show Ka key (bubble (arrOf st') (lo+k) (lo+k-(lo+l))) j=_
   rw[G,ao (by omega),ao (by omega)]
  ·show Ka key (bubble (arrOf st') (lo+k) (lo+k-(lo+l))) (lo+i-1)<=Ka key (bubble (arrOf st') (lo+k) (lo+k-(lo+l))) (lo+i)
   rw[G,G]
   have R:=sg.rise
   by_cases c1:i<l
   ·rw[ao (by omega),ao (by omega),ao (by omega),ao (by omega)]
    exact R i b1 (by omega)
   ·by_cases c2:i=l
    ·rw[ao (by omega),ao (by omega),ar (by omega),show lo+i-1=lo+(i-1) by omega]
     exact a4 (i-1) (by omega)
    ·rw[ao (show ¬lo+i=lo+l by omega),ar (show lo+l<lo+i/\lo+i<=lo+k by omega)]
     by_cases c3:i-1=l
     ·rw[ar (by omega),show lo+i-1=lo+(i-1) by omega]
      exact a5 (i-1) (by omega) (by omega)
     ·rw[ao (by omega),ar (by omega)]
      have:=R (i-1) (by omega) (by omega)
      rw[show lo+(i-1)-1=lo+i-1-1 by omega,show lo+(i-1)=lo+i-1 by omega]at this
      exact this
 ·rintro c st' ⟨S1,rfl,sg⟩
  rw[show max (max ok 1) n=n by omega]at sg
  exact⟨S1,rfl,sg⟩
 rintro c st' ⟨S1,rfl,sg⟩
 exact aj (h st' S1 sg)
end
section
variable {prog:Program}{w:World}{A:Around}{E:Value->Shared->Prop}{s:Shared}{κ:SortKind}{key:Keyed->Int}{D:Keyed->Prop}{a₀:Array Keyed}{lo:Nat}{st:SortSt}
theorem Pd.mod {arr:Array Keyed}{f:Nat×Nat×Nat->Nat×Nat×Nat}(h1:∀ x,(f x).1=x.1)(h2:∀ x,(f x).2.1=x.2.1):∀ {p:List (Nat×Nat×Nat)}{s lo:Nat} (i:Nat),Pd key arr s p lo->Pd key arr s (p.modify i f) lo
 |[],s,lo,i,h=>by cases i<;>exact h
 |q::p,s,lo,0,h=>by
  show Pd key arr s (f q::p) lo
  exact⟨(h1 q).trans h.1,by rw[h2];exact h.2.1,by rw[h2];exact h.2.2.1,by rw[h2];exact h.2.2.2⟩
 |q::p,s,lo,i+1,h=>⟨h.1,h.2.1,h.2.2.1,Pd.mod h1 h2 i h.2.2.2⟩
theorem Sok.push (S:Sok κ key D a₀ lo st){m:Nat}(h1:1<=m)(sg:gZ key (arrOf st) lo m){pw:Nat} :Sok κ key D a₀ (lo+m) (setPending st ((pendingOf st).push (lo,m,pw))):=
 ⟨S.kind,S.fail,S.perm,by
  show Pd key (arrOf st) 0 ((pendingOf st).push (lo,m,pw)).toList (lo+m)
  rw[bC]
  exact S.pend.snoc h1 sg⟩
theorem Sok.xP (S:Sok κ key D a₀ lo st){f:Nat×Nat×Nat->Nat×Nat×Nat}(h1:∀ x,(f x).1=x.1)(h2:∀ x,(f x).2.1=x.2.1){i:Nat} :Sok κ key D a₀ lo (setPending st ((pendingOf st).modify i f)):=
 ⟨S.kind,S.fail,S.perm,by
  show Pd key (arrOf st) 0 ((pendingOf st).modify i f).toList lo
  rw[Array.toList_modify]
  exact S.pend.mod h1 h2 i⟩
theorem Sok.v7 (S:Sok κ key D a₀ lo st)(pw i:Nat):Sok κ key D a₀ lo (setPending st ((pendingOf st).modify i λx=>(x.1,x.2.1,pw))):=S.xP (f:=λx=>(x.1,x.2.1,pw)) (λ_=>rfl) (λ_=>rfl)
theorem lP:∀ (f n r:Nat),1<=n->1<=minRun' f n r
 | 0,n,r,h=>by show 1<=n+r;omega
 |f+1,n,r,h=>by
  rw[minRun'_succ]
  by_cases g:n<64
  ·rw[ar g];omega
  ·rw[ao g];exact lP f _ _ (by omega)
theorem rK (O:Orc prog w A s κ key D)(hD:∀ x∈a₀.toList,D x)(S:Sok κ key D a₀ 0 st)(e0:arrOf st=a₀)(ep:pendingOf st = #[]){Q:Unit->SortSt->Prop}
  (h:∀ st',(arrOf st').Perm a₀->failedOf st'=none->gZ key (arrOf st') 0 a₀.size->Q () st'):wpS (model prog w) A E s sortRuns' Q st:=by
 rw[sortRuns'_eq]
 refine ae (wpS_get ?_)
 dsimp only
 rw[e0]
 refine ae (bX (bo (I:=λx c st'=>∃ lo,c=(none,lo)/\Sok κ key D a₀ lo st'/\lo<=a₀.size/\x<=lo)
  (Q:=λc st'=>c=(none,a₀.size)/\Sok κ key D a₀ a₀.size st') ?_ ?_ ⟨0,rfl,S,aQ _,ah _⟩) ?_)
 ·rintro x c st1 _ hx ⟨lo,rfl,S1,l1,l2⟩
  dsimp only
  refine df (λg=>aj ?_) (λg=>?_)
  ·have:lo=a₀.size:=by omega
   subst this
   exact⟨rfl,S1⟩
  refine ae (rg O hD S1 (by omega) (by omega) λn st2 S2 n1 n2 sg=>?_)
  dsimp only
  have mp:=lP a₀.size a₀.size 0 (by omega)
  apply df
  case' h1=>
   intro g2
   refine ae (fR (wpAny_rule ⟨rfl,?_⟩))
   refine ae (tX O hD S2 n1 (by omega) (by omega) sg λst3 S3 sg3=>?_)
   simp only[Bool.not_true,cb,if_false]
   have n3:1<=min (a₀.size-lo) (minRun' a₀.size a₀.size 0):=by omega
   have n4:min (a₀.size-lo) (minRun' a₀.size a₀.size 0)<=a₀.size-lo:=by omega
   generalize min (a₀.size-lo) (minRun' a₀.size a₀.size 0)=m at n3 n4 sg3 ⊢
  case' h2=>
   intro g2
   have S3:=S2
   have sg3:=sg
   have n3:=n1
   have n4:=n2
   generalize n=m at n3 n4 sg3 ⊢
   generalize st2=st3 at S3 sg3 ⊢
  all_goals
   refine ae (wpS_get ?_)
   split
   ·rename_i s1 nn1 _ _
    refine ae (bX (bo (I:=λy c st'=>c=(none,())/\Sok κ key D a₀ lo st'/\gZ key (arrOf st') lo m) (Q:=λc st'=>c=(none,())/\Sok κ key D a₀ lo st'/\gZ key (arrOf st') lo m) ?_ (λc st' z=>z) ⟨rfl,S3,sg3⟩) ?_)
    ·rintro y c st4 _ hy ⟨rfl,S4,sg4⟩
     refine ae (wpS_get ?_)
     split
     ·rename_i q
      refine df (λ_=>aj ⟨rfl,S4,sg4⟩) (λ_=>?_)
      have hz:1<(pendingOf st4).size:=by
       by_cases z:(pendingOf st4).size>1
       ·exact z
       ·rw[ao z]at q;cases q
      refine ae (lQ O hD S4 l1 (by omega) λst5 S5 _ k5=>?_)
      simp only[Bool.not_true,cb,if_false]
      exact aj ⟨rfl,S5,sg4.congr λj h1 _=>k5 j h1⟩
     ·exact aj ⟨rfl,S4,sg4⟩
    rintro c st4 ⟨rfl,S4,sg4⟩
    dsimp only
    refine ae (wpS_modify (ae (wpS_modify (aj ⟨lo+m,rfl,(S4.v7 _ _).push n3 sg4,by omega,by omega⟩))))
   ·exact ae (wpS_modify (aj ⟨lo+m,rfl,S3.push n3 sg3,by omega,by omega⟩))
 ·rintro c st1 ⟨lo,rfl,S1,l1,l2⟩
  have:lo=a₀.size:=by omega
  subst this
  exact⟨rfl,S1⟩
 rintro c st1 ⟨rfl,S1⟩
 dsimp only
 have pl:∀ st',Sok κ key D a₀ a₀.size st'->(pendingOf st').size<=a₀.size:=λst' S'=>by
  have:=S'.pend.le
  rw[af]at this
  omega
 refine ae (bX (bo (I:=λx c st'=>c=(none,())/\Sok κ key D a₀ a₀.size st'/\(pendingOf st').size+x<=a₀.size+1)
  (Q:=λc st'=>c=(none,())/\Sok κ key D a₀ a₀.size st'/\(pendingOf st').size<=1) ?_ ?_ ⟨rfl,S1,by have:=pl _ S1;omega⟩) ?_)
 ·rintro x c st2 _ hx ⟨rfl,S2,p2⟩
  refine ae (wpS_get ?_)
  refine df (λg=>aj ⟨rfl,S2,g⟩) (λg=>?_)
  refine ae (lQ O hD S2 (ah _) ?_ λst5 S5 k5 _=>?_)
  ·generalize (if(pendingOf st2).size-2>0 then _ else _:Option Nat)=o
   split<;>omega
  ·simp only[Bool.not_true,cb,if_false]
   exact aj ⟨rfl,S5,by omega⟩
 ·rintro c st2 ⟨rfl,S2,p2⟩
  exact⟨rfl,S2,by omega⟩
 rintro c st2 ⟨rfl,S2,p2⟩
 refine aj (h st2 S2.perm S2.fail ?_)
 have pe:=S2.pend
 have pz:(pendingOf st2).toList.length<=1:=by rw[af];exact p2
 generalize (pendingOf st2).toList=p at pe pz
 match p,pe,pz with
 |[],pe,_=>
  have pe:0=a₀.size:=pe
  intro i j _ hj
  omega
 |[q],pe,_=>
  obtain⟨_,_,sg,e⟩:=pe
  have e:0+q.2.1=a₀.size:=e
  rw[cj]at e
  rw[<-e];exact sg
end
end TL
namespace TL
open PySem PySem.W PyProof.Rows
section
variable {N:Nat}{key:Nat->Int}{cmp:Nat->Nat->(Bool->Shared->Prop)->Shared->Prop}{R:Shared->Prop}
end
end TL
namespace TL
open PySem PySem.Spec PyProof.Rows L2
section
variable {prog:Program}{w:World}{A:Around}{E:Value->Shared->Prop}{s:Shared}{d it vw:Addr}{o:Obj}{es:Array DictEntry}{ep i:Nat}{ok ov:Value}
end
section
variable {X:Cx}
end
section
variable {prog:Program}{w:World}{A:Around}{E:Value->Shared->Prop}{s:Shared}
end
open PySem.W
section
variable {prog:Program}{w:World}{A:Around}{E:Value->Shared->Prop}{s:Shared}
end
section
variable {prog:Program}{w:World}{A:Around}{E:Value->Shared->Prop}{s:Shared}
def vI (prog:Program)(w:World)(A:Around)(s:Shared)(vs:List Value)(kv:Value->Int):Prop:=
 ∃ κ,(∀ (E:Value->Shared->Prop) (Q:SortKind->Shared->Prop),Q κ s->wpAny (model prog w) A (keyKind' vs.toArray) Q E s)/\Orc prog w A s κ (λx=>kv x.1) (λx=>x.1∈vs)
theorem rz (vs:List Value):∀ x∈(vs.toArray.zip vs.toArray).toList,x.1=x.2/\x.1∈vs:=by
 intro x hx
 rw[Array.toList_zip]at hx
 have:∀ l:List Value,∀ x∈l.zip l,x.1=x.2/\x.1∈l:=by
  intro l
  induction l with
  |nil=>intro x hx;simp at hx
  |cons a l ih=>
   intro x hx
   rw[List.zip_cons_cons]at hx
   rcases aG.mp hx with rfl |q
   ·exact⟨rfl,az⟩
   ·exact⟨(ih x q).1,aB _ (ih x q).2⟩
 exact this vs x hx
theorem mr {a:Addr}{vs:List Value}{n:Nat}{P:Fin->Shared->Prop}{kv:Value->Int}(ho:s.heap.get? a=some (seqObj "list" vs.toArray n))(hz:vs.length<=sizeLine)
  (hk:2<=vs.length->∀ h',(∀ b ob,b≠a->s.heap.get? b=some ob->h'.get? b=some ob)->vI prog w A {s with heap:=h'} vs kv)
  (h:∀ ws:List Value,ws.Perm vs->ws.Pairwise (λx y=>kv x<=kv y)->P (.done (.ret .none)) {s with heap:=sortedHeap s.heap a vs ws.toArray}):
  wpAny (model prog w) A (Builtin.«list.sort» ⟨[.ref a],[]⟩) P E s:=by
 rw[list_sort_plain]
 have ha:a<s.heap.objs.size:=ai ho
 refine aw (listItems_at ho rfl ?_)
 refine aw (listUpdate_at ho rfl ?_ (by rw[au];exact hz) (aQ _))
 obtain⟨e1,ho1⟩:∃ e1,(s.heap.update a (Obj.mapSeq λ_=> #[])).get? a=some (seqObj "list" #[] e1):=⟨_,get?_update_seq ho (λ_=> #[])⟩
 refine aw (seqEpoch_at ho1 rfl ?_)
 refine aw (wpAny_newTuple ?_ (by show vs.length<=_;exact hz))
 refine aw (wpAny_newList ?_ (aQ _))
 refine cg ?_
 have ho6:(((s.heap.update a (Obj.mapSeq λ_=> #[])).push (seqObj "tuple" vs.toArray 0)).push (seqObj "list" #[] 0)).get? a=some (seqObj "list" #[] e1):=ak _ (ak _ ho1)
 have keep:∀ b ob,b≠a->s.heap.get? b=some ob->(((s.heap.update a (Obj.mapSeq λ_=> #[])).push (seqObj "tuple" vs.toArray 0)).push (seqObj "list" #[] 0)).get? b=some ob:=λb ob hb e=>
  ak _ (ak _ ((Heap.SameBut.update s.heap a (Obj.mapSeq λ_=>(#[]:Array Value))).extBut b ob hb e))
 show wpAny (model prog w) A _ P E {s with heap:=((s.heap.update a (Obj.mapSeq λ_=> #[])).push (seqObj "tuple" vs.toArray 0)).push (seqObj "list" #[] 0)}
 dsimp only
 by_cases h2:vs.toArray.size<2
 ·rw[ar h2,ar h2]
  refine aw (aP ?_)
  rw[StateT.run_pure]
  refine aw (aP ?_)
  dsimp only
  refine aw (seqEpoch_at ho6 rfl ?_)
  have eo:(arrOf (SortSt.mk' general' (vs.toArray.zip vs.toArray) #[] 7 none)).map (·.2)=vs.toArray:=by
   show(vs.toArray.zip vs.toArray).map (·.2)=vs.toArray
   exact Array.map_snd_zip (ah _)
  rw[eo]
  refine aw (listUpdate_at ho6 rfl ?_ (aQ _) (by rw[au];omega))
  simp only[bne_self_eq_false,cb,if_false]
  have h2':vs.length<2:=by rw[au]at h2;exact h2
  refine aP (h vs (List.Perm.refl _) ?_)
  match vs,h2' with
  |[],_=>exact List.Pairwise.nil
  |[_],_=>exact bT _ _
 ·rw[ao h2,ao h2]
  have h2':2<=vs.length:=by rw[au]at h2;omega
  obtain⟨κ,k1,k2⟩:=hk h2' _ keep
  refine aw (k1 _ _ ?_)
  have zs:=rz vs
  have zm:(vs.toArray.zip vs.toArray).map (·.2)=vs.toArray:=Array.map_snd_zip (ah _)
  have run:wpS (model prog w) A E {s with heap:=((s.heap.update a (Obj.mapSeq λ_=> #[])).push (seqObj "tuple" vs.toArray 0)).push (seqObj "list" #[] 0)} sortRuns' (λ_ st'=>∃ ws:List Value,(arrOf st').map (·.2)=ws.toArray/\ws.Perm vs/\ws.Pairwise (λx y=>kv x<=kv y)/\failedOf st'=none) (SortSt.mk' κ (vs.toArray.zip vs.toArray) #[] 7 none):=by
   refine rK k2 (a₀:=vs.toArray.zip vs.toArray) (λx hx=>(zs x hx).2) (st:=SortSt.mk' κ (vs.toArray.zip vs.toArray) #[] 7 none) ⟨rfl,rfl,Array.Perm.refl _,rfl⟩ rfl rfl λst' pm hf sg=>?_
   have pl:=b5.mp pm
   refine⟨(arrOf st').toList.map (·.2),by rw[<-Array.toList_inj];simp,?_,?_,hf⟩
   ·have:=pl.map (·.2)
    rw[<-Array.toList_map (xs:=vs.toArray.zip vs.toArray),zm]at this
    exact this
   ·rw[List.pairwise_map]
    refine bN.mpr λi j hi hj hij=>?_
    have zz:(arrOf st').size=(vs.toArray.zip vs.toArray).size:=by have:=pl.length_eq;rw[af,af]at this;exact this
    rw[af]at hi hj
    have:=sg i j (by omega) (by omega)
    rw[cj,cj,eM (br hi),eM (br hj)]at this
    have x1:=(zs _ (pl.mem_iff.mp (List.getElem_mem (show i<(arrOf st').toList.length by rw[af];exact hi)))).1
    have x2:=(zs _ (pl.mem_iff.mp (List.getElem_mem (show j<(arrOf st').toList.length by rw[af];exact hj)))).1
    rw[<-x1,<-x2]
    exact this
  refine aw (aX run ?_ λ_ _ e=>e)
  rintro⟨⟨⟩,st'⟩ s' ⟨rfl,ws,zh,hp,hs,hf⟩
  dsimp only
  rw[zh]
  refine aw (seqEpoch_at ho6 rfl ?_)
  refine aw (listUpdate_at ho6 rfl ?_ (aQ _) (by rw[au,hp.length_eq];omega))
  rw[hf]
  simp only[bne_self_eq_false,cb,if_false]
  exact aP (h ws hp hs)
theorem pD {l:Addr}{vs:List Value}{Q:Value->Shared->Prop}{kv:Value->Int}(hl:s.heap.IsList l vs.toArray)(hz:vs.length<=sizeLine)
  (hk:2<=vs.length->∀ h',(∀ b ob,s.heap.get? b=some ob->h'.get? b=some ob)->vI prog w A.in1.in1 {s with heap:=h'} vs kv)
  (h:∀ ws:List Value,ws.Perm vs->ws.Pairwise (λx y=>kv x<=kv y)->Q (.ref (s.heap.objs.size+1)) {s with heap:=sortedAll s.heap vs ws.toArray}):
  wpAny (model prog w) A (call (.builtin "sorted") [.ref l]) Q E s:=by
 refine Calls.call_function_entry kind_sorted plain_sorted entry_sorted (args_sorted1 _) ?_
 unfold Builtin.«sorted»
 refine aw (m:=checkCount "sorted" 1 1 _) (aP ?_)
 refine aw (collect_list hl ?_ hz)
 refine aw (wpAny_newList ?_ hz)
 have hsz:((s.heap.push (seqObj "list" #[] 0)).update s.heap.objs.size (Obj.mapSeq (· ++ vs.toArray))).objs.size=s.heap.objs.size+1:=by
  rw[Heap.size_update,size_push']
 have hoL:(((s.heap.push (seqObj "list" #[] 0)).update s.heap.objs.size (Obj.mapSeq (· ++ vs.toArray))).push (seqObj "list" vs.toArray 0)).get? (s.heap.objs.size+1)=some (seqObj "list" vs.toArray 0):=by
  rw[<-hsz];exact aV _ rfl
 have keep:∀ b o,s.heap.get? b=some o->(((s.heap.push (seqObj "list" #[] 0)).update s.heap.objs.size (Obj.mapSeq (· ++ vs.toArray))).push (seqObj "list" vs.toArray 0)).get? b=some o:=λb o q=>by
  have hlt:b<s.heap.objs.size:=ai q
  rw[Heap.get?_push_ne _ _ _ (by rw[hsz];exact aJ (Nat.lt_succ_of_lt hlt)),Heap.get?_update_ne _ _ _ _ (aJ hlt),Heap.get?_push_ne _ _ _ (aJ hlt)]
  exact q
 show wpAny _ _ _ _ _ {s with heap:=((s.heap.push (seqObj "list" #[] 0)).update s.heap.objs.size (Obj.mapSeq (· ++ vs.toArray))).push (seqObj "list" vs.toArray 0)}
 rw[hsz]
 have wu:∀ h':Heap,(∀ b ob,b≠s.heap.objs.size+1->(((s.heap.push (seqObj "list" #[] 0)).update s.heap.objs.size (Obj.mapSeq (· ++ vs.toArray))).push (seqObj "list" vs.toArray 0)).get? b=some ob->h'.get? b=some ob)->∀ b ob,s.heap.get? b=some ob->h'.get? b=some ob:=λh' k b ob e=>
  k b ob (λz=>bK b (aE (ai e) (by rw[z];exact Nat.le_succ _))) (keep b ob e)
 refine aw (cg (wpAny_call_entry slot_list_sort ⟨_,hoL,rfl⟩ entry_list_sort (mr (kv:=kv) hoL hz (λh2 h' k=>hk h2 h' (wu h' k)) λws a1 a2=>⟨_,rfl,?_⟩) (args_list_sort _)))
 exact aP ⟨_,rfl,h ws a1 a2⟩
end
section
variable {prog:Program}{w:World}{A:Around}{s:Shared}
end
section
variable {X:Cx}
end
def kvI:Value->Int
 |.int n _=>n
 |_=>0
theorem ints_of:∀ {ns:List Int}{its:List Value},Vals (ns.map V.int) its->(∀ v∈its,∃ t,v = .int (kvI v) t)/\its.map kvI=ns
 |[],its,r=>by cases r;exact⟨λv hv=>by(cases hv),rfl⟩
 |n::ns,its,r=>by
  cases r with
  |cons r1 r2=>
   obtain⟨h1,h2⟩:=ints_of r2
   obtain⟨t,rfl⟩:=r1
   refine⟨λv hv=>?_,by rw[bg,h2];rfl⟩
   rcases aG.mp hv with rfl |q
   ·exact⟨_,rfl⟩
   ·exact h1 v q
theorem jU:∀ {its:List Value},(∀ v∈its,∃ t,v = .int (kvI v) t)->Vals ((its.map kvI).map V.int) its
 |[],_=>.nil
 |v::its,h=>by
  obtain⟨t,e⟩:=h v az
  refine .cons ?_ (jU λu hu=>h u (aB _ hu))
  rw[e];exact⟨t,rfl⟩
theorem sM {prog:Program}{w:World}{A:Around}{s:Shared}{ns:List Int}{its:List Value}(rv:Vals (ns.map V.int) its)(h2:2<=its.length):vI prog w A s its kvI:=by
 obtain⟨h1,_⟩:=ints_of rv
 have ia:=intsAre_of rv
 refine⟨oneType',λE Q hq=>?_,λx y hx hy Q hq=>?_⟩
 ·match its,h2,ia with
  |a::b::r,_,ia=>
   rw[keyKind_ints ia]
   exact aP hq
 ·obtain⟨t,ex⟩:=h1 _ hx
  obtain⟨u,ey⟩:=h1 _ hy
  dsimp only at hq
  rw[keyLt'_oneType,ex,ey]
  exact oneLt_int hq
section
variable {X:Cx}
theorem nT:fQ X (.builtin "sorted") (λxs H Q=>∃ a ns,xs = [.ref a]/\SqL X.K H a (ns.map V.int)/\∀ p,H p=none->Q (.ref p) (upd H p (.lst ((srt ns).map V.int)))):=by
 intro pins s σ H xs us Q I r h
 obtain⟨a,ns,rfl,hx,q⟩:=h
 obtain⟨u,rfl,ru⟩:=vals1 r
 cases ru
 obtain⟨its,rv,p,hz⟩:=I.list hx
 have hlen:=rv.length
 rw[aa]at hlen hz
 obtain⟨iv,im⟩:=ints_of rv
 refine pD (kv:=kvI) p.isList (by omega) (λh2 h' _=>sM rv h2) λws pm sp=>?_
 have e':ws.map kvI=srt ns:=rD (by rw[<-im];exact pm.map _) (List.pairwise_map.mpr sp)
 obtain⟨e,he⟩:=sortedAll_at s.heap its ws.toArray
 have vo:Vals ((srt ns).map V.int) ws:=by rw[<-e'];exact jU λv hv=>iv v (pm.mem_iff.mp hv)
 refine⟨.ref (s.heap.objs.size+1),_,I.laid (t':=s.toks) (o:=.lst ((srt ns).map V.int)) (λb ob q=>sortedAll_old q) (Nat.le_succ _) ⟨?_,ws,e,vo,?_⟩,rfl,q _ (I.hok.fresh (Nat.le_succ _))⟩
 ·rw[aa,jF];exact hz
 ·rw[he]
end
section
variable {prog:Program}{w:World}{A:Around}{E:Value->Shared->Prop}{s:Shared}
end
theorem nS {X:Cx}{K:PySem.W.Frag}(eK:X.K=K):fQ X (.builtin "sorted") (λxs H Q=>∃ a ns,xs = [.ref a]/\SqL K H a (ns.map V.int)/\ns.length<1000/\∀ p,H p=none->Q (.ref p) (upd H p (.lst ((srt ns).map V.int)))):=by
 subst eK
 intro pins s σ H xs us Q I r h
 obtain⟨a,ns,e,hx,_,q⟩:=h
 exact nT pins s σ H xs us Q I r ⟨a,ns,e,hx,q⟩
section
variable {X:Cx}{tg:Expr}
end
end TL
namespace TL
open PySem PySem.Spec PyProof.Rows L2
section
variable {D:Ends}{σ:L2.St}{H:Hp}
end
open PySem.W
section
variable {prog:Program}{w:World}{A:Around}{E:Value->Shared->Prop}{s:Shared}
end
section
variable {X:Cx}
end
end TL
namespace TL
open PySem PySem.Spec PyProof.Rows L2
section
variable {X:Cx}{K:PySem.W.Frag}
theorem nV (e:X.K=K):fQ X (.builtin "isinstance") (λxs H Q=>∃ x c t b,xs = [x,.ty c]/\ko K H x t/\PySem.W.kitOne K t (.type c)=some b/\Q (.bl b) H):=by subst e;exact i7
theorem mw (e:X.K=K):fQ X (.builtin "isinstance") (λxs H Q=>∃ a ys c b,xs = [.ref a,.ty c]/\SqT K H a ys/\PySem.W.kitOne K (.type "tuple") (.type c)=some b/\Q (.bl b) H):=by subst e;exact nW
end
end TL
namespace K72
open PySem L2 TL PyProof.Rows
abbrev St:=L2.St
def top (i:Nat):Stmt:=PySem.Challenge.pw_turnline_k72_trains_and_runs_as_texts.main.body.getD i (.Pass ⟨0,0,0,0⟩)
def lB:Sp:=λvs H Q _=>∃ e:Int,vs = [.int e]/\Q (.int (oth e)) H
def qh:Sp:=λvs H Q _=>∃ e:Int,vs = [.int e]/\Q (.int (e/2)) H
def nc (K:PySem.W.Frag):Sp:=λvs H Q _=>∃ (a:Addr) (ns:List Int) (k:Int),vs = [.ref a,.int k]/\SqL K H a (ns.map V.int)/\0<=k/\∀ c,Q (.int c) H
def lC:Sp:=λvs H Q _=>∃ c k:Int,vs = [.int c,.int k]/\0<=k/\k<=1000/\∀ n,0<=n->n<2147483648->Q (.int n) H
abbrev iw:Stmt:=top 4
theorem ou:dE ["end"] ["end"] (cW iw):=⟨rfl,rfl,rfl,by decide +kernel,rfl,by decide +kernel,by decide +kernel⟩
abbrev gr:Stmt:=top 20
theorem nk:dE ["_law_end"] ["_law_end"] (cW gr):=⟨rfl,rfl,rfl,by decide +kernel,rfl,by decide +kernel,by decide +kernel⟩
abbrev fk:Stmt:=top 17
theorem lF:dE ["_law_script","_law_k"] ["_law_script","_law_k"] (cW fk):=⟨rfl,rfl,rfl,by decide +kernel,rfl,by decide +kernel,by decide +kernel⟩
abbrev fV:Stmt:=top 18
theorem gK:dE ["_law_cell","_law_k","_law_time","_law_number"] ["_law_cell","_law_k"] (cW fV):=⟨rfl,rfl,rfl,by decide +kernel,rfl,by decide +kernel,by decide +kernel⟩
section
variable {P:Program}{w:World}{K:PySem.W.Frag}{mg:Str->Option Value}{base:Heap}{f:Addr}{fd:FuncData}
theorem oJ (F:Fn K mg "piece_of" iw ["end"] f fd):dw P w K mg base CX0 1 f fd ["end"] qh:=by
 refine F.F.ok ou (λvs H Q E h=>?_) (λcdv A outer s H vs Q E hr h=>?_)
 ·obtain⟨e,rfl,_⟩:=h;rfl
 ·obtain⟨e,rfl,k⟩:=h
  refine⟨_,(cX (dG (cY ei (pv 0) cU))),?_⟩
  exact⟨_,rfl,_,_,rfl,rfl,⟨by decide,by decide⟩,k⟩
theorem j8 (F:Fn K mg "_law_other" gr ["_law_end"] f fd):dw P w K mg base CX0 1 f fd ["_law_end"] lB:=by
 refine F.F.ok nk (λvs H Q E h=>?_) (λcdv A outer s H vs Q E hr h=>?_)
 ·obtain⟨e,rfl,_⟩:=h;rfl
 ·obtain⟨e,rfl,k⟩:=h
  refine⟨_,(cX (dG (cY pK (cY eN (pv 0) cU) (cY fW (cY ef (pv 0) cU) cU)))),?_⟩
  refine⟨_,rfl,_,_,rfl,rfl,_,rfl,_,_,rfl,rfl,by show(0:Int)<2;decide,_,_,rfl,rfl,.inr ⟨by decide,by decide⟩,_,_,rfl,rfl,?_⟩
  show Q (.int (e+1-e%2*2)) H
  have:e+1-e%2*2=oth e:=by unfold oth;omega
  rw[this];exact k
theorem iT (F:Fn K mg "_law_cell_at" fk ["_law_script","_law_k"] f fd)(B:Bl mg):dw P w K mg base CX0 1 f fd ["_law_script","_law_k"] (nc K):=by
 refine F.F.ok lF (λvs H Q E h=>?_) (λcdv A outer s H vs Q E hr h=>?_)
 ·obtain⟨a,ns,k,rfl,_⟩:=h;rfl
 ·obtain⟨a,ns,k,rfl,hS,h0,q⟩:=h
  refine⟨_,(cV (fi (iR (v9 (pv 1) (dN eB rfl B.len cL (cQ (pv 0) cR))))
 (cX (dG (eh dO (pv 0) (pv 1) (λ_ _=>rfl)))) dU)
 (cX (dG cU))),?_⟩
  refine⟨_,rfl,_,rfl,a,_,rfl,.inl hS,_,_,rfl,rfl,_,rfl,eW (λhlt=>?_) (λ_=>?_)⟩
  ·have hlt:k<((ns.map V.int).length:Int):=by simpa using hlt
   rw[aa]at hlt
   have hg:(ns.map V.int)[k.toNat]? = some (V.int (ns.getD k.toNat 0)):=by
    rw[ay,List.getD_eq_getElem?_getD]
    have:k.toNat<ns.length:=by omega
    simp[this]
   have e1:((k.toNat:Nat):Int)=k:=by omega
   exact⟨_,rfl,_,rfl,a,_,k,_,rfl,rfl,hS,by have h:=hV hg;rw[e1]at h;exact h,q _⟩
  ·exact q _
theorem iB (F:Fn K mg "_law_mix" fV ["_law_cell","_law_k"] f fd)(B:Bl mg):dw P w K mg base CX0 1 f fd ["_law_cell","_law_k"] lC:=by
 refine F.F.ok gK (λvs H Q E h=>?_) (λcdv A outer s H vs Q E hr h=>?_)
 ·obtain⟨c,k,rfl,_⟩:=h;rfl
 ·obtain⟨c,k,rfl,h0,h1,q⟩:=h
  refine⟨_,(cV (fi (iR (wa (pv 0) (cY pL cU cU)))
 (cV (iz bL rfl (ij rfl B.range (cQ (pv 1) cR)) (dC (i:=2) gK.nd rfl (Or.inl rfl))
 (cX (dS (i:=0) gK.nd rfl (Or.inl rfl) (cY ei (pv 0) (cY pL cU cU)))))
 (cX (dG (cY ef (pv 0) (cY pL cU cU))))) dU)
 (cV (dS (i:=3) gK.nd rfl (Or.inl rfl) (cY ef (cY fW (cY eN (cY eN (cY ef (pv 0) cU) (cY fW (cY fW (pv 1) (pv 1)) cU)) (pv 1)) cU) cU))
 (cV (dS (i:=3) gK.nd rfl (Or.inl rfl) (cY ef (cY fW (pv 3) (pv 3)) cU))
 (cX (dG (cY ei (cY ef (cY fW (pv 3) (cY eN (pv 3) cU)) cU) cU)))))),?_⟩
  refine⟨_,rfl,_,_,rfl,rfl,⟨by decide,by decide,by decide⟩,_,_,rfl,rfl,_,rfl,eW (λhlt=>?_) (λ_=>?_)⟩
  ·refine⟨_,rfl,_,rfl,by omega,by omega,ip (λi σ H2=>H2=H/\∃ (c:Int) (x:Option V),σ = [some (.int c),some (.int k),x,none]) ⟨rfl,c,none,rfl⟩ ?_ ?_⟩
   ·rintro i σ H2 hi ⟨rfl,c,x,rfl⟩
    exact⟨_,rfl,_,_,rfl,rfl,⟨by decide,by decide,by decide⟩,_,_,rfl,rfl,⟨by decide,by decide⟩,rfl,_,_,rfl⟩
   ·rintro σ H2 ⟨rfl,c,x,rfl⟩
    refine⟨_,rfl,_,_,rfl,rfl,⟨by decide,by decide,by decide⟩,_,_,rfl,rfl,(by show(0:Int)<_;decide),q _ ?_ ?_⟩
    ·show 0<=c%(10 ^ 6);omega
    ·show c%(10 ^ 6)<_;omega
  ·refine⟨_,rfl,_,_,rfl,rfl,(by show(0:Int)<_;decide),_,rfl,_,rfl,_,_,rfl,rfl,.inl ⟨by omega,by omega⟩,_,_,rfl,rfl,.inr ⟨by decide,by decide⟩,_,_,rfl,rfl,_,rfl,_,_,rfl,rfl,_,_,rfl,rfl,.inr ⟨by decide,by decide⟩,_,_,rfl,rfl,(by show(0:Int)<_;decide),?_⟩
   dsimp only
   generalize hn:(c%1000003+k*k*7919+k)*48271%2147483629=n
   have n0:0<=n:=by omega
   have n1:n<2147483629:=by omega
   refine⟨_,rfl,_,rfl,_,_,rfl,rfl,.inl ⟨by omega,by omega⟩,_,_,rfl,rfl,(by show(0:Int)<_;decide),?_⟩
   dsimp only
   generalize hm:n*n%2147483587=m
   have m0:0<=m:=by omega
   have m1:m<2147483587:=by omega
   refine⟨_,rfl,_,rfl,_,_,rfl,rfl,_,_,rfl,rfl,.inl ⟨by omega,by omega⟩,_,_,rfl,rfl,(by show(0:Int)<_;decide),_,_,rfl,rfl,⟨by decide,by decide⟩,q _ ?_ ?_⟩
   ·show 0<=m*(m+2)%2147483579/7;omega
   ·show m*(m+2)%2147483579/7<_;omega
end
structure Ct (mg:Str->Option Value)(t3 t4:Tok):Prop where
 t6:mg "FIGURES" = some (.str "0123456789" t3)
 kx:mg "MOST_FIGURES" = some (.int 40 t4)
structure Xx (K:PySem.W.Frag)(mg:Str->Option Value)(c:Addr):Prop where
 gC:Xc K mg "NoText" c
theorem zu:∀ c,(c∈(Str.ofString "0123456789").cps.toList)↔48<=c/\c<=57:=by
 have e:(Str.ofString "0123456789").cps.toList = [48,49,50,51,52,53,54,55,56,57]:=by decide +kernel
 intro c
 rw[e]
 simp only[aG,b6,or_false]
 omega
theorem vp (c:Nat):(!(Builtin.Str.occurrences (Str.ofString "0123456789") ⟨#[c]⟩ 0 (Str.ofString "0123456789").length 1).isEmpty)=gw c:=by
 rw[PySem.StrLaws.found_one]
 unfold gw
 exact decide_eq_decide.mpr (zu c)
theorem str_len (z:Str):z.length=z.cps.toList.length:=by simp[Str.length]
theorem qe {z:Str} :z.length=0↔z.cps.toList = []:=by rw[str_len,cc]
theorem mY:Str.ofString "0" = mkS [48]:=by decide +kernel
theorem qv:Str.ofString "<" = mkS [60]:=by decide +kernel
theorem qx:Str.ofString ">" = mkS [62]:=by decide +kernel
theorem gz:Str.ofString " " = chS 32:=by decide +kernel
theorem log2_small {n:Int}(h0:0<=n)(h1:n<100000):n.natAbs.log2<1920:=by
 have:n.natAbs.log2<=n.natAbs:=Nat.log2_le_self _
 have h2:n.natAbs<2 ^ 17:=by omega
 by_cases h:n.natAbs=0
 ·rw[h];decide
 ·have:=(Nat.log2_lt h).mpr h2
  omega
def rF (C:Addr):Sp:=λvs H Q E=>∃ z:Str,vs = [.str z]/\z.length<=100000/\(∀ n,iI z.cps.toList=some n->∀ H',dc H H'->Q (.int n) H')/\(iI z.cps.toList=none->∀ H',dc H H'->∀ e,H' e=none->E (.ref C) (some e) H')
def m8 (C:Addr):Sp:=λvs H Q E=>∃ z:Str,vs = [.str z]/\z.length<=100000/\(∀ n,hE z.cps.toList=some n->∀ H',dc H H'->Q (.int n) H')/\(hE z.cps.toList=none->∀ H',dc H H'->∀ e,H' e=none->E (.ref C) (some e) H')
def wds (z:Str):List Str:=Txt.split z (chS 32)
def jG:Sp:=λvs H Q _=>∃ e:Int,vs = [.int e]/\0<=e/\e<82/\Q (.str (txE e)) H
abbrev gM:Stmt:=top 8
theorem kN:dE ["end","piece"] ["end"] (cW gM):=⟨rfl,rfl,rfl,by decide +kernel,rfl,by decide +kernel,by decide +kernel⟩
abbrev fj:Stmt:=top 11
theorem lE:dE ["text"] ["text"] (cW fj):=⟨rfl,rfl,rfl,by decide +kernel,rfl,by decide +kernel,by decide +kernel⟩
theorem iq:d7 (cW fj) ["text"] {kind:=.function,names:=[(Str.ofString ".0",.local),(Str.ofString "sign",.local),(Str.ofString "FIGURES",.globalImplicit)],isGenerator:=false,isCoroutine:=false,more:=[]} ["sign"] 1 [none]:=⟨rfl,by decide +kernel,by decide +kernel,by decide +kernel,rfl,by decide +kernel,rfl,by decide +kernel⟩
abbrev gO:Stmt:=top 12
theorem kP:dE ["text","piece"] ["text"] (cW gO):=⟨rfl,rfl,rfl,by decide +kernel,rfl,by decide +kernel,by decide +kernel⟩
section
variable {P:Program}{w:World}{K:PySem.W.Frag}{mg:Str->Option Value}{base:Heap}{f:Addr}{fd:FuncData}{D c1 c2 c3 c4 c5 c6 c7:Addr}{t1 t2 t3 t4:Tok}
theorem oG {f1:Addr}{fd1:FuncData}(F:Fn K mg "show_end" gM ["end"] f fd)(gi:Fn K mg "piece_of" iw ["end"] f1 fd1):dw P w K mg base CX0 2 f fd ["end"] jG:=by
 have qb:dw P w K mg base CX0 1 f1 fd1 ["end"] qh:=oJ gi
 refine F.F.ok kN (λvs H Q E h=>?_) (λcdv A outer s H vs Q E hr h=>?_)
 ·obtain⟨e,rfl,_⟩:=h;rfl
 ·obtain⟨e,rfl,h0,h1,k⟩:=h
  refine⟨_,(cV (dS (i:=1) kN.nd rfl (Or.inl rfl) (di qb (hr.mono (by decide)) rfl gi.m gi.F.kp gi.b .nil d5 (cQ (pv 0) cR)))
 (cX (dG (rR (iR (pJ (pv 0) (cY fW cU (pv 1)))) (nA (nz (pv 1) (lI pI))) (nA (nz (pv 1) (lI pI))))))),?_⟩
  refine⟨_,rfl,e,rfl,?_⟩
  have hl:=log2_small (n:=e/2) (by omega) (by omega)
  obtain⟨_,_,hz⟩:=pq (n:=e/2) (by omega) (by omega)
  have he:∀ x:Str,(Str.empty++x)=x:=Str.empty_append
  have hz2:∀ x:Str,x.length<=10->x.length<=sizeLine:=λx h=>ba h (by rw[aO];decide)
  have hle:=(fD (e:=e) h0 (by omega)).2.2
  refine⟨_,rfl,_,rfl,_,_,rfl,rfl,.inl ⟨by decide,by decide⟩,_,_,rfl,rfl,_,rfl,eW (λh=>?_) (λh=>?_)⟩
  ·have h:e=2*(e/2):=by simpa using h
   refine⟨_,rfl,txN (e/2),.inl ⟨_,rfl,hl,rfl⟩,hz2 _ (by rw[he];omega),?_⟩
   rw[he]
   have e1:txN (e/2)++Str.ofString "<" = txE e:=by unfold txE;rw[ar (by omega),qv];rfl
   refine⟨hz2 _ (by rw[e1];omega),?_⟩
   rw[e1]
   exact⟨hz2 _ (by omega),k⟩
  ·have h:¬e=2*(e/2):=by simpa using h
   refine⟨_,rfl,txN (e/2),.inl ⟨_,rfl,hl,rfl⟩,hz2 _ (by rw[he];omega),?_⟩
   rw[he]
   have e1:txN (e/2)++Str.ofString ">" = txE e:=by unfold txE;rw[ao (by omega),qx];rfl
   refine⟨hz2 _ (by rw[e1];omega),?_⟩
   rw[e1]
   exact⟨hz2 _ (by omega),k⟩
end
theorem rH {n:Nat}(h:n<=100000):n<=sizeLine:=ba h (by rw[aO];decide)
theorem wW (z:Str)(i:Nat)(c:Nat)(h:z.cps[i]? = some c):z.cps.toList[i]? = some c:=by simpa using h
theorem tY {l:List Nat}{c:Nat}{r:List Nat}(h:l=c::r):atI l 0=some c:=by
 have:=hV (xs:=l) (j:=0) (v:=c) (by rw[h];rfl)
 exact this
theorem km {l:List Nat}{c:Nat}(h:l.getLast?=some c):atI l (-1)=some c:=by
 obtain⟨r,e⟩:∃ r,l=r ++ [c]:=by
  obtain⟨ys,rfl⟩:=List.getLast?_eq_some_iff.mp h
  exact⟨ys,rfl⟩
 rw[e]
 exact ph r c
theorem p8 {a b:Nat} :((⟨#[a]⟩:Str)=⟨#[b]⟩)↔a=b:=by
 constructor
 ·intro h;injection h with h;simpa using h
 ·intro h;rw[h]
section
variable {P:Program}{w:World}{K:PySem.W.Frag}{mg:Str->Option Value}{base:Heap}{f:Addr}{fd:FuncData}{c6:Addr}{t3 t4:Tok}
theorem lN (F:Fn K mg "read_number" fj ["text"] f fd)(B:Bm mg)(C:Ct mg t3 t4)(XS:Xx K mg c6):dw P w K mg base (CXr P w base) 1 f fd ["text"] (rF c6):=by
 refine F.F.okX lE (λvs H Q E h=>?_) (λcdv A outer s H vs Q E hr h=>?_)
 ·obtain⟨z,rfl,_⟩:=h;rfl
 ·obtain⟨z,rfl,hz,k1,k2⟩:=h
  have hzs:=rH hz
  have hsl:z.length=z.cps.toList.length:=str_len z
  refine⟨_,(cV (fi (PW.pt (lG (gQ (oy (pv 0) (λ_=>rfl))) (nv (iR (qq (dN nU rfl B.len cL (cQ (pv 0) cR)) (qo (v:=.int 40) rfl C.kx ⟨_,rfl⟩))))))
 (cX (ig gH rfl rfl XS.gC.m XS.gC.q bB (cQ (rS (i:=40) rfl C.kx ⟨_,rfl⟩ (by decide) (by decide)) cR))) dU)
 (cV (fi (gQ (iy (dN (sN rfl) rfl B.all boot_all (cQ (jy (uH (pv 0)) rfl iq (.name (by decide)) (λ_ _ _ _=>(dC (i:=0) iq.nd rfl (Or.inl rfl))) (λ_ _ _ _=>fJ) (λ_ _ _ _=>(qp qT (pv 0) (qo (v:=.str "0123456789") rfl C.t6 ⟨_,rfl⟩) (by with_unfolding_all rfl)))) cR))))
 (cX (ig gH rfl rfl XS.gC.m XS.gC.q bB (cQ dY cR))) dU)
 (cV (fi (PW.pt (uE (eg qs (eh pX (pv 0) cU (λ_ _=>rfl)) dY (gA _)) (tp (eg wb (pv 0) dY (gA _)))))
 (cX (ig gH rfl rfl XS.gC.m XS.gC.q bB (cQ dY cR))) dU)
 (cX (dG (ik rn rfl B.int boot_int (cQ (pv 0) cR))))))),?_⟩
  refine⟨_,rfl,_,⟨hzs,rfl⟩,eW (λh=>?_) (λh=>?_)⟩
  ·have h:z.length=0:=by simpa using h
   refine vc λ_=>⟨by show 1<=sizeLine;decide,λe he=>k2 ?_ H (dc.refl _) e he⟩
   unfold iI
   rw[ar (.inl (qe.mp h))]
  have h1:z.length≠0:=by simpa using h
  have hne:z.cps.toList≠ []:=λq=>h1 (qe.mpr q)
  refine⟨_,rfl,z,rfl,hzs,_,_,rfl,rfl,_,rfl,eW (λh=>?_) (λh=>?_)⟩
  ·have h:(z.length:Int)>40:=by simpa using h
   refine λ_=>⟨by show 1<=sizeLine;decide,λe he=>k2 ?_ H (dc.refl _) e he⟩
   unfold iI
   rw[ar (.inr (by omega))]
  have h2:¬(z.length:Int)>40:=by simpa using h
  have hc0:¬(z.cps.toList = []\/40<z.cps.toList.length):=λq=>by
   rcases q with q |q
   ·exact hne q
   ·omega
  have hsz:z.cps.size=z.cps.toList.length:=by simp
  refine⟨_,rfl,z,rfl,λp np=>sf uZ z.cps.toList (λ_=>true) (λc=>V.bl (gw c)) np hsz (by rw[hsz,aO];omega) ?_ ?_⟩
  ·intro i x d H' hx hd sm P1 P0 p1 p0
   obtain⟨c,hc,rfl⟩:=hx
   have e0:c=d:=bq ((wW z i c hc).symm.trans hd)
   subst e0
   refine il ?_
   refine⟨_,rfl,_,_,rfl,rfl,?_⟩
   have:=p1 rfl
   rw[<-vp]at this
   exact this
  rw[fY]
  have e2:(z.cps.toList.map λc=>V.bl (gw c))=(z.cps.toList.map gw).map V.bl:=by rw[bO];rfl
  rw[e2]
  have s1:dc H (upd H p (.lst ((z.cps.toList.map gw).map V.bl))):=cS np
  have hp:=cT (H:=H) (a:=p) (o:=.lst ((z.cps.toList.map gw).map V.bl))
  generalize upd H p _=H1 at s1 hp ⊢
  have tR:(z.cps.toList.map gw).all id=z.cps.toList.all gw:=by rw[List.all_map];rfl
  refine⟨p,_,rfl,SqL.of hp,_,rfl,eW (λh=>?_) (λh=>?_)⟩
  ·rw[tR]at h
   have h:z.cps.toList.all gw=false:=by simpa using h
   refine⟨by decide,λe he=>k2 ?_ H1 s1 e he⟩
   unfold iI
   rw[ao hc0,ar h]
  rw[tR]at h
  have h3:z.cps.toList.all gw=true:=by simpa using h
  have hc1:¬z.cps.toList.all gw=false:=by rw[h3];decide
  obtain⟨c0,r0,hcr⟩:∃ c r,z.cps.toList=c::r:=by
   cases q:z.cps.toList with
   |nil=>exact absurd q hne
   |cons c r=>exact⟨c,r,rfl⟩
  have hh:z.cps.toList.head?=some c0:=by rw[hcr];rfl
  have hz0:z=Str.ofString "0" ↔z.cps.toList = [48]:=by
   rw[mY]
   constructor
   ·intro q;rw[q,lO]
   ·intro q;rw[<-nK z,q]
  have fin:¬(z.cps.toList.head?=some 48/\z.cps.toList≠ [48])->∃ n:Int,iI z.cps.toList=some n/\PySem.intText? z=some n:=λq=>by
   refine⟨_,?_,PySem.intText_digits (x:=z) ?_ hne (by omega)⟩
   ·unfold iI
    rw[ao hc0,ao hc1,ao q]
   ·intro c hc
    have:=b7.mp h3 c hc
    unfold gw at this
    exact cF this
  have ret:¬(z.cps.toList.head?=some 48/\z.cps.toList≠ [48])->∃ z' n,[V.str z] = [V.str z']/\PySem.intText? z'=some n/\z'.length<=640/\Q (.int n) H1:=λq=>by
   obtain⟨n,e1,e2⟩:=fin q
   exact⟨z,n,rfl,e2,by omega,k1 n e1 H1 s1⟩
  refine⟨_,rfl,z,0,c0,rfl,rfl,hzs,tY hcr,rfl,_,rfl,eW (λh=>?_) (λh=>?_)⟩
  ·have h:(⟨#[c0]⟩:Str)=Str.ofString "0" :=by simpa using h
   have h:c0=48:=by
    rw[mY]at h
    exact p8.mp h
   refine⟨_,rfl,rfl,_,rfl,eW (λh'=>?_) (λh'=>?_)⟩
   ·have h':¬z=Str.ofString "0" :=by simpa using h'
    refine⟨by decide,λe he=>k2 ?_ H1 s1 e he⟩
    unfold iI
    rw[ao hc0,ao hc1,ar ⟨by rw[hh,h],λq=>h' (hz0.mpr q)⟩]
   ·have h':z=Str.ofString "0" :=by simpa using h'
    exact⟨_,rfl,ret λq=>q.2 (hz0.mp h')⟩
  ·have h:¬(⟨#[c0]⟩:Str)=Str.ofString "0" :=by simpa using h
   have h:¬c0=48:=λq=>h (by rw[mY,q];rfl)
   exact⟨_,rfl,ret λq=>h (by have:=q.1;rw[hh]at this;exact bq this)⟩
theorem oI {f1:Addr}{fd1:FuncData}(F:Fn K mg "read_end" gO ["text"] f fd)(XS:Xx K mg c6)(eR:Fn K mg "read_number" fj ["text"] f1 fd1)
  (ie:dw P w K mg base (CXr P w base) 1 f1 fd1 ["text"] (rF c6)):dw P w K mg base (CXr P w base) 2 f fd ["text"] (m8 c6):=by
 refine F.F.okX kP (λvs H Q E h=>?_) (λcdv A outer s H vs Q E hr h=>?_)
 ·obtain⟨z,rfl,_⟩:=h;rfl
 ·obtain⟨z,rfl,hz,k1,k2⟩:=h
  have hzs:=rH hz
  have hsl:z.length=z.cps.toList.length:=str_len z
  refine⟨_,(cV (dS (i:=1) kP.nd rfl (Or.inl rfl) (di ie (hr.mono (by decide)) rfl eR.m eR.F.kp eR.b .nil mL (cQ (lJ pE (pv 0) ny (jh (mJ ky cU))) cR)))
 (cV (fi (eg qs (eh pX (pv 0) (mJ ky cU) (λ_ _=>rfl)) dY (gA _))
 (cX (dG (cY fW cU (pv 1)))) dU)
 (cV (fi (eg qs (eh pX (pv 0) (mJ ky cU) (λ_ _=>rfl)) dY (gA _))
 (cX (dG (cY eN (cY fW cU (pv 1)) cU))) dU)
 (cX (ig gH rfl rfl XS.gC.m XS.gC.q bB (cQ dY cR)))))),?_⟩
  refine⟨_,rfl,_,rfl,_,rfl,z,rfl,rfl,rfl,hzs,mkS z.cps.toList.dropLast,rfl,?_,?_,?_⟩
  ·rw[qu,bP];omega
  ·intro n hn H1 s1
   rw[lO]at hn
   have hne:z.cps.toList≠ []:=λq=>by rw[q]at hn;simp[iI]at hn
   obtain⟨c,hc⟩:∃ c,z.cps.toList.getLast?=some c:=by
    cases q:z.cps.toList.getLast? with
    |none=>exact absurd (List.getLast?_eq_none_iff.mp q) hne
    |some c=>exact⟨c,rfl⟩
   have hb:hE z.cps.toList=if c=60 then some (2*n)else if c=62 then some (2*n+1)else none:=by
    unfold hE
    rw[hn,hc]
    show(if some c=some 60 then _ else if some c=some 62 then _ else _)=_
    simp only[Option.some.injEq]
   refine⟨_,rfl,_,rfl,z,-1,c,rfl,rfl,hzs,km hc,rfl,_,rfl,eW (λh=>?_) (λh=>?_)⟩
   ·have h:(⟨#[c]⟩:Str)=Str.ofString "<" :=by simpa using h
    have h:c=60:=by rw[qv]at h;exact p8.mp h
    refine⟨_,rfl,_,_,rfl,rfl,.inl ⟨by decide,by decide⟩,k1 _ (by rw[hb,ar h]) H1 s1⟩
   have h1:¬(⟨#[c]⟩:Str)=Str.ofString "<" :=by simpa using h
   have h1:¬c=60:=λq=>h1 (by rw[qv,q];rfl)
   refine⟨_,rfl,_,rfl,z,-1,c,rfl,rfl,hzs,km hc,rfl,_,rfl,eW (λh=>?_) (λh=>?_)⟩
   ·have h:(⟨#[c]⟩:Str)=Str.ofString ">" :=by simpa using h
    have h:c=62:=by rw[qx]at h;exact p8.mp h
    refine⟨_,rfl,_,_,rfl,rfl,.inl ⟨by decide,by decide⟩,_,_,rfl,rfl,k1 _ (by rw[hb,ao h1,ar h]) H1 s1⟩
   have h2:¬(⟨#[c]⟩:Str)=Str.ofString ">" :=by simpa using h
   have h2:¬c=62:=λq=>h2 (by rw[qx,q];rfl)
   exact⟨by decide,λe he=>k2 (by rw[hb,ao h1,ao h2]) H1 s1 e he⟩
  ·intro hn H1 s1 e he
   rw[lO]at hn
   exact k2 (by unfold hE;rw[hn];rfl) H1 s1 e he
end
theorem eS {n:Nat}(h:n<=1000):n<sizeLine:=cC h (by decide)
theorem vt {p d m:Int}(h0:0<=p)(h1:p<m)(d0:1<=d)(d1:d<m):(p+d)%m≠p/\0<=(p+d)%m/\(p+d)%m<m:=by
 refine⟨?_,bz _ (by omega),bb _ (by omega)⟩
 by_cases c:p+d<m
 ·rw[Int.emod_eq_of_lt (by omega) c];omega
 ·have e:p+d=(p+d-m)+m:=by omega
  rw[e,Int.add_emod_right,Int.emod_eq_of_lt (by omega) (by omega)];omega
theorem sd {m:Int}{js js':List (Int×Int)}{a b:Int}(L:jI (m,js))(hne:a/2≠b/2)(a0:0<=a)(a1:a<2*m)(b0:0<=b)(b1:b<2*m)(hn:(min a b,max a b)∉js)(hl:js.length<80)
  (pm:js'.Perm ((min a b,max a b)::js)):jI (m,js'):=by
 obtain⟨h1,h2,h3,h4,h5⟩:=L
 refine⟨h1,h2,by rw[pm.length_eq,aT];exact hl,λp hp=>?_,pm.nodup_iff.mpr (cy.mpr ⟨hn,h5⟩)⟩
 rcases aG.mp (pm.mem_iff.mp hp)with rfl |z
 ·unfold okJ
  dsimp only
  rcases Int.le_total a b with c |c
  ·rw[Int.min_eq_left c,Int.max_eq_right c];exact⟨⟨a0,a1⟩,⟨b0,b1⟩,c,hne⟩
  ·rw[Int.min_eq_right c,Int.max_eq_left c];exact⟨⟨b0,b1⟩,⟨a0,a1⟩,c,cA hne⟩
 ·exact h4 p z
def qg (K:PySem.W.Frag):Sp:=λvs H Q _=>∃ (a:Addr) (ns:List Int) (st mo up:Int),vs = [.ref a,.int st,.int mo,.int up]/\SqL K H a (ns.map V.int)/\0<=st/\1<=mo/\mo<=40/\0<=up/\up<=80/\∀ (p t:Addr) (us:List V) (l:Ln) (H':Hp),dc H H'->H p=none->H t=none->H' p=some (.tup [.int l.1,.ref t])->H' t=some (.lst us)->Ps K H' l.2 us->jI l->l.1<=mo->(l.2.length:Int)<=up->Q (.ref p) H'
abbrev ix:Stmt:=top 21
theorem dX:dE ["_law_script","_law_start","_law_most","_law_upto","_law_head","_law_many","_law_joints","_law_k","_law_number","_law_one","_law_far","_law_other_here","_law_joint"] ["_law_script","_law_start","_law_most","_law_upto"] (cW ix):=⟨rfl,rfl,rfl,by decide +kernel,rfl,by decide +kernel,by decide +kernel⟩
section
variable {P:Program}{w:World}{K:PySem.W.Frag}{mg:Str->Option Value}{base:Heap}{f:Addr}{fd:FuncData}
theorem oO {f1 f2:Addr}{fd1 fd2:FuncData}(F:Fn K mg "_law_line" ix ["_law_script","_law_start","_law_most","_law_upto"] f fd)(de:Fn K mg "_law_mix" fV ["_law_cell","_law_k"] f1 fd1)(dg:Fn K mg "_law_cell_at" fk ["_law_script","_law_k"] f2 fd2)
  (B:Bl mg):dw P w K mg base CX0 2 f fd ["_law_script","_law_start","_law_most","_law_upto"] (qg K):=by
 have fc:dw P w K mg base CX0 1 f1 fd1 ["_law_cell","_law_k"] lC:=iB de B
 have fo:dw P w K mg base CX0 1 f2 fd2 ["_law_script","_law_k"] (nc K):=iT dg B
 refine F.F.ok dX (λvs H Q E h=>?_) (λcdv A outer s H vs Q E hr h=>?_)
 ·obtain⟨a,ns,st,mo,up,rfl,_⟩:=h;rfl
 ·obtain⟨a,ns,st,mo,up,rfl,hS,st0,mo0,mo1,up0,up1,k⟩:=h
  refine⟨_,(cV (dS (i:=4) dX.nd rfl (Or.inl rfl) (di fc (hr.mono (by decide)) rfl de.m de.F.kp de.b .nil d5 (cQ (di fo (hr.mono (by decide)) rfl dg.m dg.F.kp dg.b .nil d5 (cQ (pv 0) (cQ (pv 1) cR))) (cQ cU cR))))
 (cV (dS (i:=5) dX.nd rfl (Or.inl rfl) (cY eN cU (cY ef (pv 4) (pv 2))))
 (cV (dS (i:=6) dX.nd rfl (Or.inl rfl) (eJ cR))
 (cV (iz bL rfl (ij rfl B.range (cQ (cY ef (cY ei (pv 4) cU) (cY eN (pv 3) cU)) cR)) (dC (i:=7) dX.nd rfl (Or.inl rfl))
 (cV (dS (i:=8) dX.nd rfl (Or.inl rfl) (di fc (hr.mono (by decide)) rfl de.m de.F.kp de.b .nil d5 (cQ (di fo (hr.mono (by decide)) rfl dg.m dg.F.kp dg.b .nil d5 (cQ (pv 0) (cQ (cY eN (cY eN (pv 1) cU) (cY ei (pv 7) cU)) cR))) (cQ (cY ef (pv 7) cU) cR))))
 (cV (dS (i:=9) dX.nd rfl (Or.inl rfl) (cY ef (pv 8) (cY fW cU (pv 5))))
 (cV (dS (i:=8) dX.nd rfl (Or.inl rfl) (cY ei (pv 8) (cY fW cU (pv 5))))
 (cX (fi (iR (qq (pv 5) cU))
 (cV (dS (i:=10) dX.nd rfl (Or.inl rfl) (eh dO (eJ (cQ cU (cQ (cY ef (cY ei (pv 8) cU) (cY pK (pv 5) cU)) cR))) (cY ef (cY ei (pv 8) cU) cU) (λ_ _=>rfl)))
 (cV (dS (i:=11) dX.nd rfl (Or.inl rfl) (cY eN (cY fW cU (cY ef (cY eN (cY eN (cY ei (pv 9) cU) cU) (pv 10)) (pv 5))) (cY ef (pv 8) cU)))
 (cV (dS (i:=12) dX.nd rfl (Or.inl rfl) (gR (cQ (dN (rk rfl) rfl B.min boot_min (cQ (pv 9) (cQ (pv 11) cR))) (cQ (dN (rm rfl) rfl B.max boot_max (cQ (pv 9) (cQ (pv 11) cR))) cR))))
 (cX (fi (eg (jk hr.units) (pv 12) (pv 6) (by with_unfolding_all rfl))
 (cX (hG (hJ bp PySem.F.slot_list_insert PySem.F.type_list_insert qY (pv 6) (cQ (cY ef (cY ei (pv 8) cU) (cY eN (dN eB rfl B.len cL (cQ (pv 6) cR)) cU)) (cQ (pv 12) cR))))) dU))))) dU))))))
 (cX (dG (gR (cQ (pv 5) (cQ (pv 6) cR))))))))),?_⟩
  refine⟨_,rfl,_,rfl,a,ns,st,rfl,hS,st0,λcell=>?_⟩
  refine⟨cell,0,rfl,by decide,by decide,λhd hd0 _=>?_⟩
  refine⟨_,rfl,_,rfl,_,_,rfl,rfl,(by show(0:Int)<mo;omega),_,_,rfl,rfl,?_⟩
  have q0:0<=hd%mo:=bz _ (by omega)
  have q1:hd%mo<mo:=bb _ (by omega)
  dsimp only
  generalize hm:1+hd%mo=m
  have m1:1<=m:=by omega
  have m2:m<=40:=by omega
  refine⟨aQ _,λt nt=>?_⟩
  refine⟨_,rfl,_,_,rfl,rfl,⟨by decide,by decide⟩,_,rfl,_,_,rfl,rfl,_,_,rfl,rfl,(by show(0:Int)<up+1;omega),?_⟩
  have u0:0<=hd/64%(up+1):=bz _ (by omega)
  have u1:hd/64%(up+1)<up+1:=bb _ (by omega)
  refine⟨_,rfl,by show -(2 ^ 62)<=hd/64%(up+1);omega,by show hd/64%(up+1)<2 ^ 62;omega,ip (λi σ H3=>∃ (vs:List V) (js:List (Int×Int)) (x7 x8 x9 x10 x11 x12:Option V),σ = [some (.ref a),some (.int st),some (.int mo),some (.int up),some (.int hd),some (.int m),some (.ref t),x7,x8,x9,x10,x11,x12]/\dc H H3/\H3 t=some (.lst vs)/\Ps K H3 js vs/\js.length<=i/\jI (m,js))
   ⟨[],[],none,none,none,none,none,none,rfl,cS nt,cT,eE.mpr rfl,ah _,⟨m1,m2,aQ _,λp hp=>(nomatch hp),List.nodup_nil⟩⟩ ?_ ?_⟩
  ·rintro i σ H3 hi ⟨vs,js,x7,x8,x9,x10,x11,x12,rfl,S3,ht3,D,jl,L⟩
   have i0:(0:Int)+(i:Nat)=(i:Int):=by omega
   rw[i0]
   have hi':(i:Int)<80:=by
    have h:i<(hd/64%(up+1)).toNat:=hi
    omega
   refine⟨_,rfl,_,rfl,_,_,rfl,rfl,_,rfl,_,_,rfl,rfl,⟨by decide,by decide⟩,_,_,rfl,rfl,a,ns,_,rfl,S3.seq hS,(by show(0:Int)<=st+1+(i:Int)/8;omega),λc5=>?_⟩
   refine⟨_,rfl,_,_,rfl,rfl,(by show(0:Int)<_;decide),c5,_,rfl,(by show(0:Int)<=(i:Int)%8;omega),(by show(i:Int)%8<=1000;omega),λn5 n50 n51=>?_⟩
   refine⟨_,rfl,_,rfl,_,_,rfl,rfl,.inl ⟨by decide,by decide⟩,_,_,rfl,rfl,(by show(0:Int)<2*m;omega),?_⟩
   refine⟨_,rfl,_,rfl,_,_,rfl,rfl,.inl ⟨by decide,by decide⟩,_,_,rfl,rfl,⟨by show(0:Int)<2*m;omega,by show 2*m<1073741824;omega⟩,?_⟩
   have o0:0<=n5%(2*m):=bz _ (by omega)
   have o1:n5%(2*m)<2*m:=bb _ (by omega)
   dsimp only
   generalize n5%(2*m)=one at o0 o1
   generalize n5/(2*m)=r
   refine⟨_,rfl,_,_,rfl,rfl,_,rfl,eW (λh=>?_) (λh=>?_)⟩
   ·have hm1:1<m:=by simpa using h
    have f0:0<=r/4%(m-1):=bz _ (by omega)
    have f1:r/4%(m-1)<m-1:=bb _ (by omega)
    refine⟨_,rfl,_,_,rfl,rfl,⟨by decide,by decide⟩,_,rfl,_,_,rfl,rfl,_,_,rfl,rfl,(by show(0:Int)<m-1;omega),by show 2<=sizeLine;decide,λq3 nq3=>?_⟩
    dsimp only
    generalize r/4%(m-1)=fa at f0 f1
    obtain⟨far,A2,hat⟩:∃ far:Int,(0<=far/\far<m-1)/\atI [V.int 0,V.int fa] (r/2%2)=some (.int far):=by
     have:r/2%2=0\/r/2%2=1:=by omega
     rcases this with e |e
     ·exact⟨0,by omega,by rw[e];rfl⟩
     ·exact⟨fa,⟨f0,f1⟩,by rw[e];rfl⟩
    refine⟨_,rfl,_,_,rfl,rfl,⟨by decide,by decide⟩,_,_,rfl,rfl,(by show(0:Int)<_;decide),q3,_,_,_,rfl,rfl,SqL.of cT,hat,?_⟩
    refine⟨_,rfl,_,_,rfl,rfl,⟨by decide,by decide⟩,_,_,rfl,rfl,_,rfl,_,_,rfl,rfl,_,rfl,_,_,rfl,rfl,(by show(0:Int)<m;omega),_,_,rfl,rfl,.inl ⟨by decide,by decide⟩,_,rfl,_,_,rfl,rfl,(by show(0:Int)<_;decide),_,_,rfl,rfl,?_⟩
    dsimp only
    obtain⟨g1,g2,g3⟩:=vt (p:=one/2) (d:=1+far) (m:=m) (by omega) (by omega) (by omega) (by omega)
    rw[show one/2+(1+far)=one/2+1+far by omega]at g1 g2 g3
    generalize (one/2+1+far)%m=pc at g1 g2 g3
    have b0:0<=2*pc+r%2:=by omega
    have b1:2*pc+r%2<2*m:=by omega
    have hne:one/2≠(2*pc+r%2)/2:=by omega
    generalize 2*pc+r%2=ot at b0 b1 hne
    refine⟨_,rfl,_,rfl,_,_,rfl,_,rfl,_,rfl,_,_,rfl,by show 2<=sizeLine;decide,λp1 n1=>?_⟩
    rw[uR,uS]
    have S4:=(cS nq3).trans (cS (o:=.tup [.int (min one ot),.int (max one ot)]) n1)
    have ht4:=S4 _ _ ht3
    have D4:=D.same S4
    have hp1:=cT (H:=upd H3 q3 (.lst [.int 0,.int fa])) (a:=p1) (o:=.tup [.int (min one ot),.int (max one ot)])
    generalize upd (upd H3 q3 _) p1 _=H4 at S4 ht4 D4 hp1 ⊢
    refine⟨_,rfl,_,rfl,_,_,D4.da ht4,eA.mpr ⟨p1,_,rfl,SqT.of hp1,Dgs.two (eO.mpr rfl) (eO.mpr rfl)⟩,uP js,wd (_,_),_,rfl,?_⟩
    refine eW (λhni=>?_) (λ_=>?_)
    ·have zl:(min one ot,max one ot)∉js:=λz=>by
      have e:=wY js (min one ot,max one ot)
      unfold dP at e
      dsimp only at e
      unfold dP at hni
      rw[e]at hni
      simp[z]at hni
     have vl:=D4.len
     have w0:0<=r/64%((vs.length:Int)+1):=bz _ (by omega)
     have w1:r/64%((vs.length:Int)+1)<(vs.length:Int)+1:=bb _ (by omega)
     refine⟨_,rfl,.inl ⟨rfl,_,SqL.of ht4⟩,_,rfl,_,_,rfl,rfl,⟨by decide,by decide⟩,_,rfl,t,_,rfl,.inl (SqL.of ht4),_,_,rfl,rfl,_,_,rfl,rfl,(by show(0:Int)<(vs.length:Int)+1;omega),_,rfl,t,vs,_,_,rfl,rfl,ht4,w0,(by show r/64%((vs.length:Int)+1)<=(vs.length:Int);omega),eS (by omega),?_⟩
     have pm:=rN js (r/64%((vs.length:Int)+1)).toNat (min one ot,max one ot)
     refine⟨_,js.take (r/64%((vs.length:Int)+1)).toNat++(min one ot,max one ot)::js.drop (r/64%((vs.length:Int)+1)).toNat,_,_,_,_,_,_,rfl,dc.upd (S3.trans S4) nt,cT,?_,?_,sd L hne o0 o1 b0 b1 zl (by omega) pm⟩
     ·exact Ps.ins (x:=(min one ot,max one ot)) _ D4 ht4 hp1
     ·rw[pm.length_eq,aT];omega
    ·exact⟨vs,js,_,_,_,_,_,_,rfl,S3.trans S4,ht4,D4,by omega,L⟩
   ·exact⟨vs,js,_,_,_,_,_,_,rfl,S3,ht3,D,by omega,L⟩
  ·rintro σ H3 ⟨vs,js,x7,x8,x9,x10,x11,x12,rfl,S3,ht3,D,jl,L⟩
   refine⟨_,rfl,_,rfl,by show 2<=sizeLine;decide,λp np=>?_⟩
   have S4:=cS (o:=.tup [.int m,.ref t]) np
   exact k p t vs (m,js) _ (S3.trans S4) (jm S3 np) nt cT (S4 _ _ ht3) (D.same S4) L (by show m<=mo;omega) (by show(js.length:Int)<=up;have:js.length<=(hd/64%(up+1)).toNat:=jl;omega)
end
def lD:Sp:=λvs H Q _=>∃ e:Int,vs = [.int e]/\0<=e/\e<82/\∀ H',dc H H'->Q (.str (txE e)) H'
abbrev eV:Stmt:=top 26
theorem lg:dE ["_law_end"] ["_law_end"] (cW eV):=⟨rfl,rfl,rfl,by decide +kernel,rfl,by decide +kernel,by decide +kernel⟩
section
variable {P:Program}{w:World}{K:PySem.W.Frag}{mg:Str->Option Value}{base:Heap}{f:Addr}{fd:FuncData}
theorem iJ (F:Fn K mg "_law_end_text" eV ["_law_end"] f fd)(B:Bm mg):dw P w K mg base CX0 1 f fd ["_law_end"] lD:=by
 refine F.F.ok lg (λvs H Q E h=>?_) (λcdv A outer s H vs Q E hr h=>?_)
 ·obtain⟨e,rfl,_⟩:=h;rfl
 ·obtain⟨e,rfl,h0,h1,k⟩:=h
  refine⟨_,(cX (dG (cY iA (ik nR rfl B.str boot_str (cQ (cY ei (pv 0) cU) cR)) (eh dO (eJ (cQ dY (cQ dY cR))) (cY ef (pv 0) cU) (λ_ _=>rfl))))),?_⟩
  refine⟨_,rfl,_,_,rfl,rfl,⟨by decide,by decide⟩,e/2,rfl,log2_small (by omega) (by omega),by show 2<=sizeLine;decide,λq nq=>?_⟩
  have lim:∀ n,n<=1000->n<=sizeLine:=λn h=>ba h (by rw[aO];decide)
  have l1:=(pq (n:=e/2) (by omega) (by omega)).2.2
  have kk:=k _ (cS (o:=.lst [.str "<",.str ">"]) nq)
  refine⟨_,rfl,_,_,rfl,rfl,(by show(0:Int)<_;decide),?_⟩
  have:e%2=0\/e%2=1:=by omega
  rcases this with c |c
  ·have ec:txE e=txN (e/2)++Str.ofString "<" :=by unfold txE;rw[ar c,qv];rfl
   rw[ec]at kk
   refine⟨q,_,_,.str "<",rfl,rfl,SqL.of cT,by show atI _ (e%2)=_;rw[c];rfl,txN (e/2),_,rfl,rfl,lim _ ?_,kk⟩
   show(txN (e/2)).length+1<=_
   omega
  ·have ec:txE e=txN (e/2)++Str.ofString ">" :=by unfold txE;rw[ao (by omega),qx];rfl
   rw[ec]at kk
   refine⟨q,_,_,.str ">",rfl,rfl,SqL.of cT,by show atI _ (e%2)=_;rw[c];rfl,txN (e/2),_,rfl,rfl,lim _ ?_,kk⟩
   show(txN (e/2)).length+1<=_
   omega
end
def nY {α:Type} :List (Option α)->Option (List α)
 |[]=>some []
 |none::_=>none
 |some a::r=>(nY r).map (a :: ·)
theorem iu {α:Type} :∀ (ds:List α),nY (ds.map some)=some ds
 |[]=>rfl
 |d::ds=>by show(nY (ds.map some)).map (d :: ·)=_;rw[iu ds];rfl
theorem kK {α:Type} :∀ {rs:List (Option α)},none∈rs->nY rs=none
 |none::_,_=>rfl
 |some a::r,h=>by
  have h:none∈r:=by simpa using h
  show(nY r).map (a :: ·)=_
  rw[kK h];rfl
theorem qr {z x:Str}{c:Nat}(h:x∈Txt.split z (chS c)):x.length<=z.length:=by
 have h:=oD (sep:=chS c) h
 rw[b8]at h
 exact h
theorem p6 {α β:Type}(f:α->β):∀ l:List α,ev (l.map f)=(ev l).map f
 |[]=>by simp[ev]
 |[x]=>by simp[ev]
 |x::y::r=>by simp only[bg,ev];rw[p6 f r]
def rdT (z:Str):Option (List Int):=nY ((wds z).map λx=>hE x.cps.toList)
def isW (x:Str):Bool:=decide (x=Str.ofString "on")||decide (x=Str.ofString "back")
theorem vd {x:Str}(h:isW x=true):x=Str.ofString "on" \/x=Str.ofString "back" :=by
 unfold isW at h
 simpa using h
def rdM (p:Str×Str):Option (Str×Int):=if isW p.1=true then(hE p.2.cps.toList).map λn=>(p.1,n)else none
def prs (ws:List Str):List (Str×Str):=(ev ws).zip (ev (ws.drop 1))
def rdR (z:Str):Option (List (Str×Int)):=if z=Str.ofString "-" then some []else if(wds z).length%2=1 then none else nY ((prs (wds z)).map rdM)
def t8 (C:Addr):Sp:=λvs H Q E=>∃ z:Str,vs = [.str z]/\z.length<=20000/\(∀ ns,rdT z=some ns->qI H ns Q)/\(rdT z=none->∀ H',dc H H'->∀ e,H' e=none->E (.ref C) (some e) H')
def ua (C:Addr):Sp:=λvs H Q E=>∃ x y:Str,vs = [.str x,.str y]/\x.length<=20000/\y.length<=20000/\(∀ k,rdM (x,y)=some k->∀ (q:Addr) H',dc H H'->H q=none->H' q=some (.tup [.str k.1,.int k.2])->Q (.ref q) H')/\(rdM (x,y)=none->∀ H',dc H H'->∀ e,H' e=none->E (.ref C) (some e) H')
def t9 (K:PySem.W.Frag)(C:Addr):Sp:=λvs H Q E=>∃ z:Str,vs = [.str z]/\z.length<=20000/\(∀ run,rdR z=some run->∀ q H',dc H H'->H q=none->kr K H' q run->Q (.ref q) H')/\(rdR z=none->∀ H',dc H H'->∀ e,H' e=none->E (.ref C) (some e) H')
abbrev fI:Stmt:=top 13
theorem mj:dE ["text"] ["text"] (cW fI):=⟨rfl,rfl,rfl,by decide +kernel,rfl,by decide +kernel,by decide +kernel⟩
theorem iL:d7 (cW fI) ["text"] {kind:=.function,names:=[(Str.ofString ".0",.local),(Str.ofString "word",.local),(Str.ofString "read_end",.globalImplicit)],isGenerator:=false,isCoroutine:=false,more:=[]} ["word"] 1 [none]:=⟨rfl,by decide +kernel,by decide +kernel,by decide +kernel,rfl,by decide +kernel,rfl,by decide +kernel⟩
abbrev g0:Stmt:=top 14
theorem ni:dE ["word","end"] ["word","end"] (cW g0):=⟨rfl,rfl,rfl,by decide +kernel,rfl,by decide +kernel,by decide +kernel⟩
abbrev gN:Stmt:=top 15
theorem kO:dE ["text","words"] ["text"] (cW gN):=⟨rfl,rfl,rfl,by decide +kernel,rfl,by decide +kernel,by decide +kernel⟩
theorem ic:d7 (cW gN) ["text","words"] {kind:=.function,names:=[(Str.ofString ".0",.local),(Str.ofString "word",.local),(Str.ofString "end",.local),(Str.ofString "read_move",.globalImplicit)],isGenerator:=false,isCoroutine:=false,more:=[]} ["word","end"] 2 [none,none]:=⟨rfl,by decide +kernel,by decide +kernel,by decide +kernel,rfl,by decide +kernel,rfl,by decide +kernel⟩
section
variable {P:Program}{w:World}{K:PySem.W.Frag}{mg:Str->Option Value}{base:Heap}{f:Addr}{fd:FuncData}{c6:Addr}
theorem qc {z:Str}(hz:z.length<=20000):(wds z).length<=20001:=by have h:=qO z 32;have:=tI (Txt.split z (chS 32));unfold wds;omega
theorem mn {f1:Addr}{fd1:FuncData}(F:Fn K mg "read_train" fI ["text"] f fd)(ed:Fn K mg "read_end" gO ["text"] f1 fd1)
  (gd:dw P w K mg base (CXr P w base) 2 f1 fd1 ["text"] (m8 c6)):dw P w K mg base (CXr P w base) 3 f fd ["text"] (t8 c6):=by
 refine F.F.okX mj (λvs H Q E h=>?_) (λcdv A outer s H vs Q E hr h=>?_)
 ·obtain⟨z,rfl,_⟩:=h;rfl
 ·obtain⟨z,rfl,hz,k,kt⟩:=h
  have hwl:=qc hz
  have hpl:∀ x∈wds z,x.length<=20000:=λx hx=>by have:=qr hx;omega
  refine⟨_,(cX (dG (rQ oB (eD (hJ bJ bY PySem.F.type_str_split oV (pv 0) (cQ dY cR))) rfl iL (.name (by decide)) (λ_ _ _ _=>(dC (i:=0) iL.nd rfl (Or.inl rfl))) (λ_ _ _ _=>fJ) (λ_ _ _ _=>(di gd (hr.mono (by decide)) rfl ed.m ed.F.kp ed.b .nil kS (cQ (pv 0) cR)))))),?_⟩
  refine⟨_,rfl,rfl,_,_,rfl,rfl,by decide,by omega,λq0 nq0=>?_⟩
  rw[gz]
  have s1:dc H (upd H q0 (.lst ((wds z).map V.str))):=cS nq0
  have hq0:(upd H q0 (.lst ((wds z).map V.str))) q0=some (.lst ((wds z).map V.str)):=cT
  show ∃ a,V.ref q0 = .ref a/\_
  have hq4:SqL K (upd H q0 (.lst ((wds z).map V.str))) q0 ((wds z).map V.str):=SqL.of hq0
  refine⟨q0,rfl,⟨_,hq4⟩,λt nt=>sh (K:=K) (wds z).length ((wds z).map λx=>hE x.cps.toList) PyData.int nt (by rw[aa]) (cC hwl (by rw[aO];decide)) (λi H s hi=>(eu hq4).go i H s (by rw[aa];exact hi)) (λH s=>by have:=(eu hq4).stop H s;rw[aa]at this;exact this) ?_ ?_⟩
  ·intro i y r G G' sm' ⟨vs',hl'⟩ yy hd' P1 P0 kk
   have hi:i<(wds z).length:=by have:=(aC.mp hd').1;rw[aa]at this;exact this
   obtain⟨rfl,hx'⟩:=(eu hq4).yld i G y G' sm' (by rw[aa];exact hi) yy
   rw[ay]at hd' hx'
   obtain⟨row,wC⟩:∃ row,(wds z)[i]? = some row:=⟨(wds z)[i],by simp⟩
   rw[wC]at hd' hx'
   cases hx'
   have hr':hE row.cps.toList=r:=by simpa using hd'
   have hm':row∈wds z:=aF wC
   have hrl:=hpl row hm'
   refine il ?_
   refine⟨_,rfl,row,rfl,by omega,λn hn G2 sG=>kk n (by rw[<-hr',hn]) _ _ sG (eO.mpr rfl),λhn G2 sG e he=>kt ?_ G2 (s1.trans (sm'.trans sG)) e he⟩
   unfold rdT
   exact kK (aL.mpr ⟨row,hm',hn⟩)
  intro ns us1 H5 hjs s5 h5 D1
  have hrd:rdT z=some ns:=by unfold rdT;rw[hjs,iu]
  rw[gU.mp D1]at h5
  exact k ns hrd t H5 (s1.trans s5) (jm s1 nt) h5
theorem nE {f1:Addr}{fd1:FuncData}(F:Fn K mg "read_move" g0 ["word","end"] f fd)(XS:Xx K mg c6)(ed:Fn K mg "read_end" gO ["text"] f1 fd1)
  (gd:dw P w K mg base (CXr P w base) 2 f1 fd1 ["text"] (m8 c6)):dw P w K mg base (CXr P w base) 3 f fd ["word","end"] (ua c6):=by
 refine F.F.okX ni (λvs H Q E h=>?_) (λcdv A outer s H vs Q E hr h=>?_)
 ·obtain⟨x,y,rfl,_⟩:=h;rfl
 ·obtain⟨x,y,rfl,hx,hy,k,kt⟩:=h
  refine⟨_,(cV (fi (eg nD (pv 0) (gR (cQ dY (cQ dY cR))) (by with_unfolding_all rfl))
 (cX (ig gH rfl rfl XS.gC.m XS.gC.q bB (cQ dY cR))) dU)
 (cX (dG (gR (cQ (pv 0) (cQ (di gd (hr.mono (by decide)) rfl ed.m ed.F.kp ed.b .nil mL (cQ (pv 1) cR)) cR)))))),?_⟩
  refine⟨_,rfl,by show 2<=sizeLine;decide,λt nt=>?_⟩
  have s1:=cS (o:=.tup [.str "on",.str "back"]) nt
  refine⟨t,_,rfl,.inr (SqT.of cT),rfl,rfl,_,rfl,?_⟩
  have ein:inV (.str x) [.str "on",.str "back"]=isW x:=by
   unfold isW
   rw[bH]
   simp only[inV,eqV,List.any_cons,List.any_nil,Bool.or_false,Bool.or_eq_true,cG,beq_iff_eq]
   constructor<;>(rintro(h |h)<;>first |exact .inl h.symm |exact .inr h.symm)
  refine eW (λh=>?_) (λh=>?_)
  ·have h:(!inV (.str x) [.str "on",.str "back"])=true:=h
   rw[ein]at h
   have h:isW x=false:=by simpa using h
   exact⟨by show 1<=sizeLine;decide,λe ne=>kt (by unfold rdM;rw[ao (by rw[h];decide)]) _ s1 e ne⟩
  ·have h:¬(!inV (.str x) [.str "on",.str "back"])=true:=h
   rw[ein]at h
   have h:isW x=true:=by simpa using h
   have hM:rdM (x,y)=(hE y.cps.toList).map λn=>(x,n):=by unfold rdM;rw[ar h]
   refine⟨_,rfl,_,rfl,y,rfl,by omega,λn hn H2 s2=>⟨by show 2<=sizeLine;decide,λq nq=>?_⟩,λhn H2 s2 e he=>kt (by rw[hM,hn];rfl) H2 (s1.trans s2) e he⟩
   exact k (x,n) (by rw[hM,hn];rfl) q _ (s1.trans (s2.trans (cS nq))) (jm (s1.trans s2) nq) cT
theorem oH {f1:Addr}{fd1:FuncData}(F:Fn K mg "read_run" gN ["text"] f fd)(B:Bm mg)(XS:Xx K mg c6)(fw:Fn K mg "read_move" g0 ["word","end"] f1 fd1)
  (i8:dw P w K mg base (CXr P w base) 3 f1 fd1 ["word","end"] (ua c6)):dw P w K mg base (CXr P w base) 4 f fd ["text"] (t9 K c6):=by
 refine F.F.okX kO (λvs H Q E h=>?_) (λcdv A outer s H vs Q E hr h=>?_)
 ·obtain⟨z,rfl,_⟩:=h;rfl
 ·obtain⟨z,rfl,hz,k,kt⟩:=h
  have hwl:=qc hz
  have hpl:∀ x∈wds z,x.length<=20000:=λx hx=>by have:=qr hx;omega
  refine⟨_,(cV (fi (eg qs (pv 0) dY (gA _))
 (cX (dG (eJ cR))) dU)
 (cV (dS (i:=1) kO.nd rfl (Or.inl rfl) (hJ bJ bY PySem.F.type_str_split oV (pv 0) (cQ dY cR)))
 (cV (fi (iR (pJ (cY ef (dN eB rfl B.len cL (cQ (pv 1) cR)) cU) cU))
 (cX (ig gH rfl rfl XS.gC.m XS.gC.q bB (cQ dY cR))) dU)
 (cX (dG (rQ oB (uG rfl B.zip (cQ (rP (pv 1) cU) (cQ (rO (pv 1) cU cU) cR))) rfl ic (.tup (.cons (.name (by decide)) (.cons (.name (by decide)) .nil))) (λ_ _ _ _=>(kD (n:=2) rfl (eQ (dC (i:=0) ic.nd rfl (Or.inl rfl)) (eQ (dC (i:=1) ic.nd rfl (Or.inl rfl)) ji)))) (λ_ _ _ _=>fJ) (λ_ _ _ _=>(di i8 (hr.mono (by decide)) rfl fw.m fw.F.kp fw.b .nil kS (cQ (pv 0) (cQ (pv 1) cR)))))))))),?_⟩
  refine⟨_,rfl,rfl,_,rfl,eW (λh=>?_) (λh=>?_)⟩
  ·have h:z=Str.ofString "-" :=V.str.inj (cF h)
   refine⟨aQ _,λq nq=>k [] (by unfold rdR;rw[ar h]) q _ (cS nq) nq ⟨⟨[],cT,eE.mpr rfl⟩,λk hk=>nomatch hk⟩⟩
  have h:¬z=Str.ofString "-" :=λe=>h (decide_eq_true (bM V.str e))
  have hR:rdR z=if(wds z).length%2=1 then none else nY ((prs (wds z)).map rdM):=by unfold rdR;rw[ao h]
  refine⟨_,rfl,rfl,_,_,rfl,rfl,by decide,by omega,λq0 nq0=>?_⟩
  rw[gz]
  have s1:dc H (upd H q0 (.lst ((wds z).map V.str))):=cS nq0
  have hq0:(upd H q0 (.lst ((wds z).map V.str))) q0=some (.lst ((wds z).map V.str)):=cT
  have eH:upd H q0 (.lst ((Txt.split z (chS 32)).map V.str))=upd H q0 (.lst ((wds z).map V.str)):=rfl
  rw[eH]
  generalize upd H q0 (.lst ((wds z).map V.str))=H1 at s1 hq0 ⊢
  refine⟨_,rfl,q0,_,rfl,.inl (SqL.of hq0),_,_,rfl,rfl,(by show(0:Int)<2;decide),_,_,rfl,rfl,_,rfl,eW (λh2=>?_) (λh2=>?_)⟩
  ·have h2:(((wds z).map V.str).length:Int)%2=1:=by simpa using h2
   rw[aa]at h2
   exact⟨by show 1<=sizeLine;decide,λe ne=>kt (by rw[hR,ar (by omega)]) _ s1 e ne⟩
  have h2:¬(((wds z).map V.str).length:Int)%2=1:=by simpa using h2
  rw[aa]at h2
  have hR:rdR z=nY ((prs (wds z)).map rdM):=by rw[hR,ao (by omega)]
  refine⟨_,rfl,_,rfl,q0,_,rfl,rfl,SqL.of hq0,λa na=>?_⟩
  have s2:=cS (o:=.lst (ev ((wds z).map V.str))) na
  have ha:(upd H1 a (.lst (ev ((wds z).map V.str)))) a=some (.lst ((ev (wds z)).map V.str)):=by rw[cT,p6]
  generalize upd H1 a _=H2 at s2 ha ⊢
  refine⟨_,rfl,_,rfl,_,rfl,q0,_,rfl,rfl,rfl,SqL.of (s2 _ _ hq0),λb nb=>?_⟩
  have s3:=cS (o:=.lst (ev (((wds z).map V.str).drop 1))) nb
  have hb:(upd H2 b (.lst (ev (((wds z).map V.str).drop 1)))) b=some (.lst ((ev ((wds z).drop 1)).map V.str)):=by rw[cT,<-List.map_drop,p6]
  have ha:=s3 _ _ ha
  generalize upd H2 b _=H3 at s3 ha hb ⊢
  have T3:=s1.trans (s2.trans s3)
  have la:(ev (wds z)).length=(wds z).length/2:=by rw[jL];omega
  have lb:(ev ((wds z).drop 1)).length=(wds z).length/2:=by rw[jL,bU];omega
  have lp:(prs (wds z)).length=(wds z).length/2:=by unfold prs;rw[List.length_zip,la,lb];omega
  refine⟨a,b,rfl,⟨_,SqL.of ha⟩,⟨_,SqL.of hb⟩,λt nt=>sh (K:=K) (prs (wds z)).length ((prs (wds z)).map rdM) dM nt (by rw[aa]) (cC (show _<=20001 by omega) (by rw[aO];decide)) (λi G sG hi=>?_) (λG sG=>?_) ?_ ?_⟩
  ·refine⟨_,_,.str ((ev (wds z))[i]'(by omega)),.str ((ev ((wds z).drop 1))[i]'(by omega)),SqL.of (sG _ _ ha),SqL.of (sG _ _ hb),?_,?_⟩
   ·rw[ay,ax (by omega)];rfl
   ·rw[ay,ax (by omega)];rfl
  ·exact⟨_,_,SqL.of (sG _ _ ha),SqL.of (sG _ _ hb),.inl (by rw[aa];omega)⟩
  ·intro i y r G G' sG ⟨vs',hl'⟩ yy hd' P1 P0 kk
   have hi:i<(prs (wds z)).length:=by have:=(aC.mp hd').1;rw[aa]at this;exact this
   obtain⟨pp,npp,rfl,hyy⟩:=yy
   obtain⟨p,hp⟩:∃ p,(prs (wds z))[i]? = some p:=⟨(prs (wds z))[i],by simp⟩
   have hpz:(ev (wds z))[i]? = some p.1/\(ev ((wds z).drop 1))[i]? = some p.2:=by
    unfold prs at hp
    have:=List.getElem?_zip_eq_some.mp hp
    exact this
   have eG:=hyy _ _ (.str p.1) (.str p.2) (SqL.of (sG _ _ ha)) (SqL.of (sG _ _ hb)) (by rw[ay,hpz.1];rfl) (by rw[ay,hpz.2];rfl)
   rw[eG]
   have sp:=cS (o:=.tup [.str p.1,.str p.2]) npp
   rw[ay,hp]at hd'
   have hr':rdM p=r:=by simpa using hd'
   have m1:p.1∈wds z:=by
    have:=hpz.1
    rw[lZ]at this
    exact aF this
   have m2:p.2∈wds z:=by
    have:=hpz.2
    rw[lZ,b9]at this
    exact aF this
   refine⟨pp,_,rfl,SqT.of cT,rfl,_,_,rfl,_,_,rfl,rfl,?_⟩
   unfold rC
   dsimp only
   rw[ar rfl]
   refine⟨_,rfl,_,rfl,p.1,p.2,rfl,hpl _ m1,hpl _ m2,λkq hk q G2 sG2 nq hq=>?_,λhn G2 sG2 e he=>kt ?_ G2 (T3.trans (sG.trans (sp.trans sG2))) e he⟩
   ·refine kk kq (by rw[<-hr'];exact hk) _ _ (sp.trans sG2) (eA.mpr ⟨q,_,rfl,SqT.of ?_,Dgs.two (jM.mpr rfl) (eO.mpr rfl)⟩)
    rw[iW (cA (cZ (sp _ _ hl') nq)),hq]
   ·rw[hR]
    exact kK (aL.mpr ⟨p,aF hp,hn⟩)
  intro run us1 H5 hjs s5 h5 D1
  refine k run (by rw[hR,hjs,iu]) t H5 (T3.trans s5) (jm T3 nt) ⟨⟨us1,h5,D1⟩,λkq hk=>?_⟩
  have:some kq∈(prs (wds z)).map rdM:=by rw[hjs];exact aL.mpr ⟨kq,hk,rfl⟩
  obtain⟨p,_,hp⟩:=aL.mp this
  unfold rdM at hp
  by_cases hw:isW p.1=true
  ·rw[ar hw]at hp
   cases q:hE p.2.cps.toList with
   |none=>rw[q]at hp;cases hp
   |some n=>rw[q]at hp;cases hp;exact jD (vd hw)
  ·rw[ao hw]at hp;cases hp
end
def txT (ns:List Int):Str:=Str.join (chS 32) (ns.map txE)
def txM (k:Str×Int):Str:=k.1++Str.ofString " " ++ txE k.2
def fh (run:List (Str×Int)):Str:=Str.join (chS 32) (run.map txM)++(if(if run.isEmpty=true then(1:Int)else 0)=1 then Str.ofString "-" else Str.empty)
def OkN (ns:List Int):Prop:=ns.length<=40/\∀ e∈ns,0<=e/\e<82
def OkK (run:List (Str×Int)):Prop:=run.length<=60/\∀ k∈run,(k.1=Str.ofString "on" \/k.1=Str.ofString "back")/\0<=k.2/\k.2<82
theorem jr (n:Nat):∀ {ws:List Str},(∀ w∈ws,w.length<=n)->(Str.join (chS 32) ws).length<=(n+1)*ws.length
 |[],_=>aQ _
 |[a],h=>by
  have:=h a az
  show a.length<=(n+1)*1
  omega
 |a::b::r,h=>by
  have h1:=h a az
  have h2:=jr n (ws:=b::r) λw hw=>h w (aB _ hw)
  rw[dZ,aN,aN,aT,Nat.mul_succ]
  show a.length+1+_<=_
  omega
theorem vY {ns:List Int}(h:OkN ns)(hne:ns≠ []):rdT (txT ns)=some ns/\(txT ns).length<=200:=by
 have hs:wds (txT ns)=ns.map txE:=by
  unfold wds txT
  refine lA (by simpa using hne) λw hw=>?_
  obtain⟨e,he,rfl⟩:=aL.mp hw
  exact λz=>by have:=(fD (h.2 e he).1 (h.2 e he).2).2.1 _ z;omega
 refine⟨?_,?_⟩
 ·unfold rdT
  rw[hs,bO]
  have:(ns.map ((λx:Str=>hE x.cps.toList) ∘ txE))=ns.map some:=List.map_congr_left λe he=>(fD (h.2 e he).1 (h.2 e he).2).1
  rw[this,iu]
 ·have:=jr 3 (ws:=ns.map txE) λw hw=>by
   obtain⟨e,he,rfl⟩:=aL.mp hw
   exact(fD (h.2 e he).1 (h.2 e he).2).2.2
  rw[aa]at this
  have:=h.1
  unfold txT
  omega
theorem gG {x:Str}(h:x=Str.ofString "on" \/x=Str.ofString "back"):(∀ c∈x.cps.toList,97<=c)/\x.length<=4:=by
 rcases h with rfl |rfl<;>decide +kernel
def gT:List (Str×Int)->List Str
 |[]=>[]
 |k::r=>k.1::txE k.2::gT r
theorem jt:∀ run,(gT run).length=2*run.length
 |[]=>rfl
 |k::r=>by rw[gT,aT,aT,jt r,aT];omega
theorem mQ:∀ run:List (Str×Int),Str.join (chS 32) (run.map txM)=Str.join (chS 32) (gT run)
 |[]=>rfl
 |[k]=>by
  show txM k=Str.join (chS 32) [k.1,txE k.2]
  rw[dZ,TL.join_one];unfold txM;rw[gz]
 |k::k2::r=>by
  have ih:=mQ (k2::r)
  rw[bg,bg,dZ,<-bg,ih]
  show txM k++chS 32++_=Str.join (chS 32) (k.1::txE k.2::k2.1::txE k2.2::gT r)
  rw[dZ,dZ]
  unfold txM
  rw[gz]
  show _=_++(_++Str.join (chS 32) (gT (k2::r)))
  simp only[Str.append_assoc]
theorem mR:∀ {run:List (Str×Int)},(∀ k∈run,(k.1=Str.ofString "on" \/k.1=Str.ofString "back")/\0<=k.2/\k.2<82)->∀ w∈gT run,(32:Nat)∉w.cps.toList
 |[],_,w,hw=>by cases hw
 |k::r,h,w,hw=>by
  obtain⟨h1,h2,h3⟩:=h k az
  rcases aG.mp hw with rfl |hw
  ·exact λz=>by have:=(gG h1).1 _ z;omega
  ·rcases aG.mp hw with rfl |hw
   ·exact λz=>by have:=(fD h2 h3).2.1 _ z;omega
   ·exact mR (λk hk=>h k (aB _ hk)) w hw
theorem oz:∀ run:List (Str×Int),prs (gT run)=run.map λk=>(k.1,txE k.2)
 |[]=>rfl
 |[k]=>rfl
 |k::k2::r=>by
  have ih:=oz (k2::r)
  unfold prs at ih ⊢
  show(ev (k.1::txE k.2::gT (k2::r))).zip (ev (txE k.2::k2.1::(gT (k2::r)).drop 1))=_
  rw[ev,ev,List.zip_cons_cons,ih]
  rfl
theorem vZ {run:List (Str×Int)}(h:OkK run):rdR (fh run)=some run/\(fh run).length<=600:=by
 cases run with
 |nil=>
  have e:fh []=Str.ofString "-" :=by decide +kernel
  rw[e]
  exact⟨by unfold rdR;rw[ar rfl],by decide +kernel⟩
 |cons k r=>
  have e:fh (k::r)=Str.join (chS 32) (gT (k::r)):=by
   unfold fh
   rw[mQ]
   refine jV ?_
   rw[fb]
   have:(if(if(k::r).isEmpty=true then(1:Int)else 0)=1 then Str.ofString "-" else Str.empty)=Str.empty:=rfl
   rw[this]
   show _ ++ []=_
   rw[bE]
  have hw:wds (fh (k::r))=gT (k::r):=by
   unfold wds
   rw[e]
   exact lA (by simp[gT]) (mR h.2)
  have hd:fh (k::r)≠Str.ofString "-" :=λz=>by
   have h1:=bM List.length hw
   rw[z,jt]at h1
   have h2:(wds (Str.ofString "-")).length=1:=by decide +kernel
   rw[h2]at h1
   omega
  refine⟨?_,?_⟩
  ·unfold rdR
   rw[ao hd,hw,jt,ao (by omega),oz,bO]
   have:((k::r).map (rdM ∘ λk=>(k.1,txE k.2)))=(k::r).map some:=List.map_congr_left λq hq=>by
    obtain⟨h1,h2,h3⟩:=h.2 q hq
    show rdM (q.1,txE q.2)=some q
    unfold rdM
    rw[ar (by unfold isW;simpa using h1),(fD h2 h3).1]
    rfl
   rw[this,iu]
  ·rw[e]
   have:=jr 4 (ws:=gT (k::r)) λw hw=>by
    have key:∀ {run:List (Str×Int)},(∀ k∈run,(k.1=Str.ofString "on" \/k.1=Str.ofString "back")/\0<=k.2/\k.2<82)->∀ w∈gT run,w.length<=4:=by
     intro run
     induction run with
     |nil=>intro _ w hw;cases hw
     |cons k r ih=>
      intro h w hw
      obtain⟨h1,h2,h3⟩:=h k az
      rcases aG.mp hw with rfl |hw
      ·exact(gG h1).2
      ·rcases aG.mp hw with rfl |hw
       ·have:=(fD h2 h3).2.2;omega
       ·exact ih (λk hk=>h k (aB _ hk)) w hw
    exact key h.2 w hw
   rw[jt]at this
   have:=h.1
   omega
def jY (K:PySem.W.Frag):Sp:=λvs H Q _=>∃ (v:V) (ns:List Int),vs = [v]/\Da K H (dI ns) v/\OkN ns/\∀ H',dc H H'->Q (.str (txT ns)) H'
def jZ (K:PySem.W.Frag):Sp:=λvs H Q _=>∃ (v:V) (run:List (Str×Int)),vs = [v]/\Da K H (dR run) v/\OkK run/\∀ H',dc H H'->Q (.str (fh run)) H'
abbrev eI:Stmt:=top 27
theorem j6:dE ["_law_train_here"] ["_law_train_here"] (cW eI):=⟨rfl,rfl,rfl,by decide +kernel,rfl,by decide +kernel,by decide +kernel⟩
theorem gE:d7 (cW eI) ["_law_train_here"] {kind:=.function,names:=[(Str.ofString ".0",.local),(Str.ofString "_law_end",.local),(Str.ofString "_law_end_text",.globalImplicit)],isGenerator:=false,isCoroutine:=false,more:=[]} ["_law_end"] 1 [none]:=⟨rfl,by decide +kernel,by decide +kernel,by decide +kernel,rfl,by decide +kernel,rfl,by decide +kernel⟩
abbrev eU:Stmt:=top 28
theorem kZ:dE ["_law_run_here"] ["_law_run_here"] (cW eU):=⟨rfl,rfl,rfl,by decide +kernel,rfl,by decide +kernel,by decide +kernel⟩
theorem fK:d7 (cW eU) ["_law_run_here"] {kind:=.function,names:=[(Str.ofString ".0",.local),(Str.ofString "_law_word",.local),(Str.ofString "_law_end",.local),(Str.ofString "_law_end_text",.globalImplicit)],isGenerator:=false,isCoroutine:=false,more:=[]} ["_law_word","_law_end"] 2 [none,none]:=⟨rfl,by decide +kernel,by decide +kernel,by decide +kernel,rfl,by decide +kernel,rfl,by decide +kernel⟩
section
variable {P:Program}{w:World}{K:PySem.W.Frag}{mg:Str->Option Value}{base:Heap}{f:Addr}{fd:FuncData}
theorem j7 {f1:Addr}{fd1:FuncData}(F:Fn K mg "_law_train_text" eI ["_law_train_here"] f fd)(B:Bm mg)(dz:Fn K mg "_law_end_text" eV ["_law_end"] f1 fd1):dw P w K mg base CX0 2 f fd ["_law_train_here"] (jY K):=by
 have gY:dw P w K mg base CX0 1 f1 fd1 ["_law_end"] lD:=iJ dz B
 refine F.F.ok j6 (λvs H Q E h=>?_) (λcdv A outer s H vs Q E hr h=>?_)
 ·obtain⟨v,ns,rfl,_⟩:=h;rfl
 ·obtain⟨v,ns,rfl,hv,hN,k⟩:=h
  obtain⟨a,rfl,hS⟩:=ki.mp hv
  have hl:=hN.1
  refine⟨_,(cX (dG (hJ bJ cm ck lr dY (cQ (jy (eD (pv 0)) rfl gE (.name (by decide)) (λ_ _ _ _=>(dC (i:=0) gE.nd rfl (Or.inl rfl))) (λ_ _ _ _=>fJ) (λ_ _ _ _=>(di gY (hr.mono (by decide)) rfl dz.m dz.F.kp dz.b .nil d5 (cQ (pv 0) cR)))) cR)))),?_⟩
  refine⟨rfl,_,rfl,a,rfl,⟨_,hS⟩,λt nt=>j9 ns.length ns (λ_=>true) (λe=>V.str (txE e)) nt rfl (eS (by omega)) (λi H s hi=>(eu hS).go i H s (by rw[aa];exact hi)) (λH s=>by have:=(eu hS).stop H s;rw[aa]at this;exact this) ?_ ?_⟩
  ·intro i y d G G' sG yy hd P1 P0 p1 p0
   have hi:i<ns.length:=(aC.mp hd).1
   obtain⟨rfl,hx'⟩:=(eu hS).yld i G y G' sG (by rw[aa];exact hi) yy
   rw[ay,hd]at hx'
   cases hx'
   have he:=hN.2 d (aF hd)
   refine il ?_
   exact⟨_,rfl,d,rfl,he.1,he.2,λG2 sG2=>p1 G2 rfl sG2⟩
  intro H5 s5 h5
  rw[fY]at h5
  refine⟨_,t,ns.map txE,rfl,rfl,SqL.of (by rw[h5,bO];rfl),λy hy=>?_,by rw[aa];omega,by decide,?_⟩
  ·obtain⟨e,he,rfl⟩:=aL.mp hy
   have:=(fD (hN.2 e he).1 (hN.2 e he).2).2.2
   omega
  ·rw[gz]
   exact k _ s5
theorem lh {f1:Addr}{fd1:FuncData}(F:Fn K mg "_law_run_text" eU ["_law_run_here"] f fd)(B:Bm mg)(dz:Fn K mg "_law_end_text" eV ["_law_end"] f1 fd1):dw P w K mg base CX0 2 f fd ["_law_run_here"] (jZ K):=by
 have gY:dw P w K mg base CX0 1 f1 fd1 ["_law_end"] lD:=iJ dz B
 refine F.F.ok kZ (λvs H Q E h=>?_) (λcdv A outer s H vs Q E hr h=>?_)
 ·obtain⟨v,run,rfl,_⟩:=h;rfl
 ·obtain⟨v,run,rfl,hv,hK,k⟩:=h
  obtain⟨a,us,rfl,hS,D⟩:=eF.mp hv
  have hl:=hK.1
  have ul:us.length=run.length:=by have:=Dgs.length D;rw[aa]at this;exact this
  refine⟨_,(cX (dG (cY iA (hJ bJ cm ck lr dY (cQ (jy (eD (pv 0)) rfl fK (.tup (.cons (.name (by decide)) (.cons (.name (by decide)) .nil))) (λ_ _ _ _=>(kD (n:=2) rfl (eQ (dC (i:=0) fK.nd rfl (Or.inl rfl)) (eQ (dC (i:=1) fK.nd rfl (Or.inl rfl)) ji)))) (λ_ _ _ _=>fJ) (λ_ _ _ _=>(cY iA (cY iA (pv 0) dY) (di gY (hr.mono (by decide)) rfl dz.m dz.F.kp dz.b .nil d5 (cQ (pv 1) cR))))) cR)) (cY tD dY (ik ro rfl B.int boot_int (cQ (qp (uN hr.units) (pv 0) (eJ cR) (gA _)) cR)))))),?_⟩
  refine⟨rfl,_,rfl,a,rfl,⟨_,hS⟩,λt nt=>j9 run.length run (λ_=>true) (λk=>V.str (txM k)) nt rfl (eS (by omega)) (λi H s hi=>(eu hS).go i H s (by rw[ul];exact hi)) (λH s=>by have:=(eu hS).stop H s;rw[ul]at this;exact this) ?_ ?_⟩
  ·intro i y d G G' sG yy hd P1 P0 p1 p0
   have hi:i<run.length:=(aC.mp hd).1
   obtain⟨rfl,hx'⟩:=(eu hS).yld i G y G' sG (by rw[ul];exact hi) yy
   obtain⟨kq,hk,dk⟩:=sF (Das.same sG D) hx'
   rw[hd]at hk
   cases hk
   obtain⟨ad,rfl,hA⟩:=sI dk
   obtain⟨g1,g2,g3⟩:=hK.2 d (aF hd)
   have gl:=(gG g1).2
   have e4:(Str.ofString " ").length=1:=by decide +kernel
   have gt:=(fD g2 g3).2.2
   refine⟨ad,_,rfl,hA,rfl,_,_,rfl,_,_,rfl,rfl,?_⟩
   unfold rC
   dsimp only
   rw[ar rfl]
   refine⟨_,rfl,_,_,rfl,rfl,by rw[aO];omega,_,rfl,d.2,rfl,g2,g3,λG2 sG2=>⟨_,_,rfl,rfl,?_,p1 G2 rfl sG2⟩⟩
   rw[aN,aO];omega
  intro H5 s5 h5
  rw[fY]at h5
  have hml:∀ y∈run.map txM,y.length<=8:=λy hy=>by
   obtain⟨kq,hk,rfl⟩:=aL.mp hy
   obtain⟨g1,g2,g3⟩:=hK.2 kq hk
   have gl:=(gG g1).2
   have e4:(Str.ofString " ").length=1:=by decide +kernel
   have gt:=(fD g2 g3).2.2
   unfold txM
   rw[aN,aN];omega
  refine⟨_,t,run.map txM,rfl,rfl,SqL.of (by rw[h5,bO];rfl),λy hy=>by have:=hml y hy;omega,by rw[aa];omega,by decide,?_⟩
  rw[gz]
  refine⟨_,rfl,aQ _,λe ne=>?_⟩
  have se:=cS (o:=.lst []) ne
  have he:=cT (H:=H5) (a:=e) (o:=.lst [])
  generalize upd H5 e _=H6 at se he ⊢
  refine⟨dR run,.list [],Da.same (s5.trans se) hv,fZ (ns:=[]) he,oQ λkq hk=>jD (hK.2 kq hk).1,nI,.inr ⟨_,rfl,?_⟩⟩
  rw[wO]
  refine⟨_,_,rfl,rfl,by decide,by cases run.isEmpty<;>simp,_,_,rfl,rfl,?_,k _ (s5.trans se)⟩
  have:=jr 8 hml
  rw[aa]at this
  have e5:(if(if run.isEmpty=true then(1:Int)else 0)=1 then Str.ofString "-" else Str.empty).length<=1:=by cases run.isEmpty<;>decide +kernel
  rw[aO]
  omega
end
def kB (K:PySem.W.Frag):Sp:=λvs H Q _=>∃ (v:V) (l:Ln) (e:Int),vs = [v,.int e]/\Da K H (dL l) v/\fO l/\(∀ p∈l.2,p.1≠p.2)/\qI H (jn l.2 e) Q
def om (K:PySem.W.Frag):Sp:=λvs H Q _=>∃ (v:V) (l:Ln) (c n:Int),vs = [v,.int c,.int n]/\Da K H (dL l) v/\fO l/\(∀ p∈l.2,p.1≠p.2)/\0<=c/\1<=n/\n<=40/\
 ∀ (p:Addr) (ns:List Int) (H':Hp),dc H H'->H p=none->H' p=some (.lst (ns.map V.int))->ns≠ []->(ns.length:Int)<=n->sR l ns->Q (.ref p) H'
def oo (K:PySem.W.Frag):Sp:=λvs H Q _=>∃ (v u:V) (l:Ln) (ns:List Int),vs = [v,u]/\Da K H (dL l) v/\Da K H (dI ns) u/\fO l/\(∀ p∈l.2,p.1≠p.2)/\ns≠ []/\ns.length<=900/\sS K H (mvs l ns) Q
def rE (K:PySem.W.Frag):Sp:=λvs H Q _=>∃ (v u:V) (l:Ln) (ns:List Int) (c n:Int),vs = [v,u,.int c,.int n]/\Da K H (dL l) v/\Da K H (dI ns) u/\fO l/\(∀ p∈l.2,p.1≠p.2)/\ns≠ []/\ns.length<=900/\0<=c/\0<=n/\n<=100/\
 ∀ q run b H',dc H H'->H q=none->kr K H' q run->(run.length:Int)<=n->mf l ns run b->Q (.ref q) H'
abbrev eX:Stmt:=top 22
theorem ml:dE ["_law_line_here","_law_end"] ["_law_line_here","_law_end"] (cW eX):=⟨rfl,rfl,rfl,by decide +kernel,rfl,by decide +kernel,by decide +kernel⟩
theorem gB:d7 (cW eX) ["_law_line_here","_law_end"] {kind:=.function,names:=[(Str.ofString ".0",.local),(Str.ofString "_law_a",.local),(Str.ofString "_law_b",.local),(Str.ofString "_law_end",.free)],isGenerator:=false,isCoroutine:=false,more:=[]} ["_law_a","_law_b","_law_end"] 2 [none,none,some 1]:=⟨rfl,by decide +kernel,by decide +kernel,by decide +kernel,rfl,by decide +kernel,rfl,by decide +kernel⟩
abbrev fv:Stmt:=top 23
theorem fE:dE ["_law_line_here","_law_number","_law_most","_law_train_here","_law_k","_law_pieces","_law_some"] ["_law_line_here","_law_number","_law_most"] (cW fv):=⟨rfl,rfl,rfl,by decide +kernel,rfl,by decide +kernel,by decide +kernel⟩
theorem iZ:d7 (cW fv) ["_law_line_here","_law_number","_law_most","_law_train_here","_law_k","_law_pieces","_law_some"] {kind:=.function,names:=[(Str.ofString ".0",.local),(Str.ofString "_law_end",.local)],isGenerator:=false,isCoroutine:=false,more:=[]} ["_law_end"] 1 [none]:=⟨rfl,by decide +kernel,by decide +kernel,by decide +kernel,rfl,by decide +kernel,rfl,by decide +kernel⟩
theorem iY:d7 (cW fv) ["_law_line_here","_law_number","_law_most","_law_train_here","_law_k","_law_pieces","_law_some"] {kind:=.function,names:=[(Str.ofString ".0",.local),(Str.ofString "_law_end",.local),(Str.ofString "_law_pieces",.free)],isGenerator:=false,isCoroutine:=false,more:=[]} ["_law_end","_law_pieces"] 1 [none,some 5]:=⟨rfl,by decide +kernel,by decide +kernel,by decide +kernel,rfl,by decide +kernel,rfl,by decide +kernel⟩
abbrev gu:Stmt:=top 24
theorem fG:dE ["_law_line_here","_law_train_here","_law_end","_law_pieces","_law_found"] ["_law_line_here","_law_train_here"] (cW gu):=⟨rfl,rfl,rfl,by decide +kernel,rfl,by decide +kernel,by decide +kernel⟩
theorem i6:d7 (cW gu) ["_law_line_here","_law_train_here","_law_end","_law_pieces","_law_found"] {kind:=.function,names:=[(Str.ofString ".0",.local),(Str.ofString "_law_end",.local)],isGenerator:=false,isCoroutine:=false,more:=[]} ["_law_end"] 1 [none]:=⟨rfl,by decide +kernel,by decide +kernel,by decide +kernel,rfl,by decide +kernel,rfl,by decide +kernel⟩
abbrev jg:Stmt:=top 25
theorem fq:dE ["_law_line_here","_law_train_here","_law_number","_law_most","_law_run_here","_law_here","_law_k","_law_some","_law_move"] ["_law_line_here","_law_train_here","_law_number","_law_most"] (cW jg):=⟨rfl,rfl,rfl,by decide +kernel,rfl,by decide +kernel,by decide +kernel⟩
section
variable {P:Program}{w:World}{K:PySem.W.Frag}{mg:Str->Option Value}{base:Heap}{f:Addr}{fd:FuncData}
theorem jz (F:Fn K mg "_law_joined" eX ["_law_line_here","_law_end"] f fd)(B:Bl mg):dw P w K mg base CX0 1 f fd ["_law_line_here","_law_end"] (kB K):=by
 refine F.F.ok ml (λvs H Q E h=>?_) (λcdv A outer s H vs Q E hr h=>?_)
 ·obtain⟨v,l,e,rfl,_⟩:=h;rfl
 ·obtain⟨v,l,e,rfl,hv,ok,hnp,k⟩:=h
  obtain⟨a,b,rfl,ht,us,hl,hq⟩:=qD hv
  have hlen:=nP hq
  have hz:us.length<sizeLine:=fS (by rw[hlen];have:=ok.len;omega)
  refine⟨_,(cX (dG (dN (nS rfl) rfl B.sorted boot_sorted (cQ (jy (eD (eh pW (pv 0) cU (λ_ _=>rfl))) rfl gB (.tup (.cons (.name (by decide)) (.cons (.name (by decide)) .nil))) (λ_ _ _ _=>(kD (n:=2) rfl (eQ (dC (i:=0) gB.nd rfl (Or.inl rfl)) (eQ (dC (i:=1) gB.nd rfl (Or.inl rfl)) ji)))) (λ_ _ _ _=>(iS (eg (pN (K:=K) rfl) (pv 2) (gR (cQ (pv 0) (cQ (pv 1) cR))) (by with_unfolding_all rfl)))) (λ_ _ _ _=>(cY pK (cY eN (pv 0) (pv 1)) (pv 2)))) cR)))),?_⟩
  refine⟨_,rfl,a,_,_,_,rfl,rfl,ht,rfl,b,rfl,⟨us,hl⟩,λl1 n1=>j9 us.length l.2 (λp=>decide (p.1=e\/p.2=e)) (λp=>V.int (p.1+p.2-e)) n1 hlen hz (λi H s hi=>(eu hl).go i H s hi) (λH s=>(eu hl).stop H s) ?_ ?_⟩
  ·intro i x d H' H2 sm y hd P1 P0 q1 q0
   obtain⟨rfl,y⟩:=y
   obtain⟨ad,p,e1,rfl,hp⟩:=sE (Das.same sm hq) (y _ (sm.seq hl))
   rw[hd]at e1;cases e1
   refine⟨ad,_,rfl,hp,rfl,_,_,rfl,_,_,rfl,rfl,_,rfl,_,rfl,_,rfl,by show 2<=sizeLine;decide,λt nt=>?_⟩
   have st:=cS (o:=.tup [.int d.1,.int d.2]) nt
   refine⟨t,_,rfl,.inr (SqT.of cT),rfl,rfl,_,rfl,?_⟩
   have ein:inV (.int e) [.int d.1,.int d.2]=decide (d.1=e\/d.2=e):=by
    rw[bH];simp[inV,eqV]
   refine eW (λh=>?_) (λh=>?_)
   ·have h:inV (.int e) [.int d.1,.int d.2]=true:=h
    rw[ein]at h
    exact⟨_,rfl,_,rfl,_,_,rfl,rfl,_,rfl,_,_,rfl,rfl,q1 _ h st⟩
   ·have h:¬inV (.int e) [.int d.1,.int d.2]=true:=h
    rw[ein]at h
    exact q0 _ (by simpa using h) st
  intro H2 s2 hl2
  have hln:((l.2.filter λp=>decide (p.1=e\/p.2=e)).map λp=>p.1+p.2-e).length<=160:=by
   have h:=jF ((l.2.filter λp=>decide (p.1=e\/p.2=e)).map λp=>p.1+p.2-e)
   rw[sk hnp]at h
   rw[<-h];exact lU ok e
  refine⟨l1,(l.2.filter λp=>decide (p.1=e\/p.2=e)).map (λp=>p.1+p.2-e),rfl,SqL.of (by rw[hl2,bO];rfl),by omega,λp2 hp2=>?_⟩
  rw[sk hnp]
  exact k p2 _ (s2.trans (cS hp2)) (dc.free s2 hp2) cT
theorem nG {f1 f2 f3:Addr}{fd1 fd2 fd3:FuncData}(F:Fn K mg "_law_train" fv ["_law_line_here","_law_number","_law_most"] f fd)(de:Fn K mg "_law_mix" fV ["_law_cell","_law_k"] f1 fd1)(dF:Fn K mg "_law_other" gr ["_law_end"] f2 fd2)
  (dy:Fn K mg "_law_joined" eX ["_law_line_here","_law_end"] f3 fd3) (B:Bl mg):dw P w K mg base CX0 2 f fd ["_law_line_here","_law_number","_law_most"] (om K):=by
 have fc:dw P w K mg base CX0 1 f1 fd1 ["_law_cell","_law_k"] lC:=iB de B
 have hW:dw P w K mg base CX0 1 f2 fd2 ["_law_end"] lB:=j8 dF
 have gF:dw P w K mg base CX0 1 f3 fd3 ["_law_line_here","_law_end"] (kB K):=jz dy B
 refine F.F.ok fE (λvs H Q E h=>?_) (λcdv A outer s H vs Q E hr h=>?_)
 ·obtain⟨v,l,c,n,rfl,_⟩:=h;rfl
 ·obtain⟨v,l,c,n,rfl,hv,ok,hnp,hc0,h1,h40,k⟩:=h
  obtain⟨a,b,rfl,ht,us,hl,hq⟩:=qD hv
  have o1:=ok.one
  refine⟨_,(cV (dS (i:=3) fE.nd rfl (Or.inl rfl) (eJ (cQ (cY ef (pv 1) (cY fW cU (eh pW (pv 0) cU (λ_ _=>rfl)))) cR)))
 (cV (iz bL rfl (ij rfl B.range (cQ (cY ef (cY ei (pv 1) cU) (pv 2)) cR)) (dC (i:=4) fE.nd rfl (Or.inl rfl))
 (cV (dS (i:=5) fE.nd rfl (Or.inr rfl) (jy (eD (pv 3)) rfl iZ (.name (by decide)) (λ_ _ _ _=>(dC (i:=0) iZ.nd rfl (Or.inl rfl))) (λ_ _ _ _=>fJ) (λ_ _ _ _=>(cY ei (pv 0) cU))))
 (cV (uc (i:=6) fE.nd rfl rfl (eD (di gF (hr.mono (by decide)) rfl dy.m dy.F.kp dy.b .nil d5 (cQ (pv 0) (cQ (di hW (hr.mono (by decide)) rfl dF.m dF.F.kp dF.b .nil d5 (cQ (eh dO (pv 3) (mJ ky cU) (λ_ _=>rfl)) cR)) cR)))) rfl iY (.name (by decide)) (λ_ _ _ _=>(dC (i:=0) iY.nd rfl (Or.inl rfl))) (λ_ _ _ _=>(iS (eg (pM (K:=K) rfl hr.units) (cY ei (pv 0) cU) (pv 1) (by with_unfolding_all rfl)))) (λ_ _ _ _=>(pv 0)))
 (cX (fi (eg (kE hr.units) (pv 6) (eJ cR) (gA _))
 (cX (hG (hJ bp bx bw eY (pv 3) (cQ (eh dO (pv 6) (cY ef (di fc (hr.mono (by decide)) rfl de.m de.F.kp de.b .nil d5 (cQ (pv 1) (cQ (cY eN cU (pv 4)) cR))) (dN eB rfl B.len cL (cQ (pv 6) cR))) (λ_ _=>rfl)) cR)))) dU)))))
 (cX (dG (pv 3))))),?_⟩
  refine⟨_,rfl,_,rfl,a,_,_,_,rfl,rfl,ht,rfl,_,_,rfl,rfl,.inl ⟨by decide,by decide⟩,_,_,rfl,rfl,(by show(0:Int)<2*l.1;omega),by show 1<=sizeLine;decide,λt nt=>?_⟩
  have e0:0<=c%(2*l.1):=bz _ (by omega)
  have e1:c%(2*l.1)<2*l.1:=bb _ (by omega)
  have m0:0<=c/100%n:=bz _ (by omega)
  have m1:c/100%n<n:=bb _ (by omega)
  refine⟨_,rfl,_,_,rfl,rfl,⟨by decide,by decide⟩,_,rfl,_,_,rfl,rfl,(by show(0:Int)<n;omega),_,rfl,by show -(2 ^ 62)<=c/100%n;omega,by show c/100%n<2 ^ 62;omega,ip (λi σ H3=>∃ (ns:List Int) (x4 x5 x6:Option V),σ = [some (.ref a),some (.int c),some (.int n),some (.ref t),x4,x5,x6]/\dc H H3/\H3 t=some (.lst (ns.map V.int))/\ns≠ []/\ns.length<=i+1/\sR l ns)
   ⟨[c%(2*l.1)],none,none,none,rfl,cS nt,cT,by simp,ah _,⟨λe he=>(by rw[aS.mp he];exact⟨e0,e1⟩),by simp,λi x y hx hy=>by simp at hy⟩⟩ ?_ ?_⟩
  ·rintro i σ H3 hi ⟨ns,x4,x5,x6,rfl,S3,ht3,hne,nl,T⟩
   have hi':i+1<=39:=by
    have h:i<(c/100%n).toNat:=hi
    omega
   refine⟨_,rfl,t,rfl,⟨_,SqL.of ht3⟩,λpc npc=>jq ns (λ_=>true) (λe=>V.int (e/2)) npc (SqL.of ht3) (by rw[aa]) (by rw[aa];exact eS (by omega)) ?_ ?_⟩
   ·intro j x d H' hx hd sm P1 P0 k1 k0
    rw[ay,hd]at hx
    cases hx
    refine il ?_
    exact⟨_,rfl,_,_,rfl,rfl,⟨by decide,by decide⟩,k1 rfl⟩
   rw[fY]
   have e1:(ns.map λe=>V.int (e/2))=(ns.map (· / 2)).map V.int:=by rw[bO];rfl
   rw[e1]
   have s4:dc H3 (upd H3 pc (.lst ((ns.map (· / 2)).map V.int))):=cS npc
   refine⟨_,rfl,_,rfl,_,rfl,t,_,_,_,rfl,rfl,SqL.of (s4 _ _ ht3),TL.km hne,_,rfl,_,l,_,rfl,Da.same (S3.trans s4) hv,ok,hnp,λp H5 s5 hp hp2=>⟨p,rfl,⟨_,SqL.of hp2⟩,λq nq=>jq (jn l.2 (oth (ns.getLastD 0))) (λt=> !decide (t/2∈ns.map (· / 2))) (λt=>V.int t) nq (SqL.of hp2) (by rw[aa]) ?_ ?_ ?_⟩⟩
   ·rw[aa]
    exact eS (by have:=lU ok (oth (ns.getLastD 0));omega)
   ·intro j x d H' hx hd sm P1 P0 k1 k0
    rw[ay,hd]at hx
    cases hx
    have hD:Da K H' (.list ((ns.map (· / 2)).map .int)) (.ref pc):=Da.same (s5.trans sm) (fZ cT)
    refine⟨_,rfl,_,_,rfl,rfl,⟨by decide,by decide⟩,_,rfl,_,.int (d/2),hD,eO.mpr rfl,pP _,nJ _,_,rfl,?_⟩
    rw[sQ]
    exact eW (λh=>⟨_,rfl,k1 h⟩) (λh=>k0 (by simpa using h))
   have efr:((jn l.2 (oth (ns.getLastD 0))).filter λt=> !decide (t/2∈ns.map (· / 2)))=fr l ns (oth (ns.getLastD 0)):=rfl
   rw[efr]
   have S6:dc H3 (upd H5 q (.lst ((fr l ns (oth (ns.getLastD 0))).map V.int))):=(s4.trans s5).trans (cS nq)
   refine⟨_,rfl,aQ _,λe ne=>?_⟩
   have s7:=cS (o:=.lst []) ne
   have hq7:=s7 _ _ (cT (H:=H5) (a:=q) (o:=.lst ((fr l ns (oth (ns.getLastD 0))).map V.int)))
   refine⟨dI (fr l ns (oth (ns.getLastD 0))),.list [],fZ hq7,fZ (ns:=[]) cT,gS _,nI,_,rfl,?_⟩
   have ee:PyData.eqv (dI (fr l ns (oth (ns.getLastD 0)))) (.list [])=((fr l ns (oth (ns.getLastD 0))).map PyData.int).isEmpty:=iC _
   rw[ee]
   refine eW (λhem=>?_) (λ_=>?_)
   ·have wD:0<(fr l ns (oth (ns.getLastD 0))).length:=by
     cases hh:fr l ns (oth (ns.getLastD 0))with
     |nil=>rw[hh]at hem;exact absurd hem (by decide)
     |cons x r=>simp
    refine⟨_,rfl,.inl ⟨rfl,_,SqL.of (s7 _ _ (S6 _ _ ht3))⟩,_,rfl,_,rfl,_,rfl,_,_,rfl,rfl,c,_,rfl,by show(0:Int)<=3+(0+(i:Int));omega,by show 3+(0+(i:Int))<=1000;omega,λm m0 m1=>?_⟩
    have r0:0<=m%((fr l ns (oth (ns.getLastD 0))).length:Int):=bz _ (by omega)
    have r1:m%((fr l ns (oth (ns.getLastD 0))).length:Int)<((fr l ns (oth (ns.getLastD 0))).length:Int):=bb _ (by omega)
    obtain⟨x,_,zo,hat⟩:=vA r0 r1
    refine⟨_,rfl,q,_,rfl,.inl (SqL.of hq7),_,_,rfl,rfl,?_,q,_,_,V.int x,rfl,rfl,SqL.of hq7,?_,t,_,_,rfl,rfl,s7 _ _ (S6 _ _ ht3),?_,?_⟩
    ·show(0:Int)<(((fr l ns (oth (ns.getLastD 0))).map V.int).length:Int)
     rw[aa];omega
    ·show atI _ (m%(((fr l ns (oth (ns.getLastD 0))).map V.int).length:Int))=_
     rw[aa];exact hat
    ·rw[aa];exact eS (by omega)
    refine⟨ns ++ [x],_,_,_,rfl,dc.upd (S3.trans (S6.trans s7)) nt,?_,by simp,by rw[aY];show ns.length+1<=_;omega,T.snoc ok hne zo⟩
    rw[cT,aZ];rfl
   ·exact⟨ns,_,_,_,rfl,S3.trans (S6.trans s7),s7 _ _ (S6 _ _ ht3),hne,by omega,T⟩
  rintro σ H3 ⟨ns,x4,x5,x6,rfl,S3,ht3,hne,nl,T⟩
  refine⟨_,rfl,k t ns _ S3 nt ht3 hne ?_ T⟩
  have h:ns.length<=(c/100%n).toNat+1:=nl
  omega
theorem nH {f1 f2:Addr}{fd1 fd2:FuncData}(F:Fn K mg "_law_moves" gu ["_law_line_here","_law_train_here"] f fd)(dF:Fn K mg "_law_other" gr ["_law_end"] f1 fd1)(dy:Fn K mg "_law_joined" eX ["_law_line_here","_law_end"] f2 fd2)
  (B:Bl mg):dw P w K mg base CX0 2 f fd ["_law_line_here","_law_train_here"] (oo K):=by
 have hW:dw P w K mg base CX0 1 f1 fd1 ["_law_end"] lB:=j8 dF
 have gF:dw P w K mg base CX0 1 f2 fd2 ["_law_line_here","_law_end"] (kB K):=jz dy B
 refine F.F.ok fG (λvs H Q E h=>?_) (λcdv A outer s H vs Q E hr h=>?_)
 ·obtain⟨v,u,l,ns,rfl,_⟩:=h;rfl
 ·obtain⟨v,u,l,ns,rfl,hv,hu,ok,hnp,hne,hz,k⟩:=h
  obtain⟨a,rfl,hS⟩:=ki.mp hu
  refine⟨_,(cV (uc (i:=3) fG.nd rfl rfl (eD (pv 1)) rfl i6 (.name (by decide)) (λ_ _ _ _=>(dC (i:=0) i6.nd rfl (Or.inl rfl))) (λ_ _ _ _=>fJ) (λ_ _ _ _=>(cY ei (pv 0) cU)))
 (cV (dS (i:=4) fG.nd rfl (Or.inl rfl) (eJ cR))
 (cV (iz bL rfl (eD (di gF (hr.mono (by decide)) rfl dy.m dy.F.kp dy.b .nil d5 (cQ (pv 0) (cQ (di hW (hr.mono (by decide)) rfl dF.m dF.F.kp dF.b .nil d5 (cQ (eh dO (pv 1) (mJ ky cU) (λ_ _=>rfl)) cR)) cR)))) (dC (i:=2) fG.nd rfl (Or.inl rfl))
 (cX (fi (eg (jk hr.units) (cY ei (pv 2) cU) (pv 3) (by with_unfolding_all rfl))
 (cX (hG (hJ bp bx bw eY (pv 4) (cQ (gR (cQ (gR (cQ dY (cQ (pv 2) cR))) (cQ (cY rW (lJ qj (pv 1) (jh cU) ny) (eJ (cQ (pv 2) cR))) cR))) cR)))) dU)))
 (cV (iz bL rfl (eD (di gF (hr.mono (by decide)) rfl dy.m dy.F.kp dy.b .nil d5 (cQ (pv 0) (cQ (eh dO (pv 1) cU (λ_ _=>rfl)) cR)))) (dC (i:=2) fG.nd rfl (Or.inl rfl))
 (cX (fi (eg (jk hr.units) (cY ei (pv 2) cU) (pv 3) (by with_unfolding_all rfl))
 (cX (hG (hJ bp bx bw eY (pv 4) (cQ (gR (cQ (gR (cQ dY (cQ (pv 2) cR))) (cQ (cY rW (eJ (cQ (di hW (hr.mono (by decide)) rfl dF.m dF.F.kp dF.b .nil d5 (cQ (pv 2) cR)) cR)) (lJ qj (pv 1) ny (jh (mJ ky cU)))) cR))) cR)))) dU)))
 (cX (dG (pv 4))))))),?_⟩
  refine⟨_,rfl,a,rfl,⟨_,hS⟩,λpc n0=>jq ns (λ_=>true) (λe=>V.int (e/2)) n0 hS (by rw[aa]) (by rw[aa];exact fS (by omega)) ?_ ?_⟩
  ·intro i x d H' hx hd sm P1 P0 k1 k0
   rw[ay,hd]at hx
   cases hx
   refine il ?_
   exact⟨_,rfl,_,_,rfl,rfl,⟨by decide,by decide⟩,k1 rfl⟩
  rw[fY]
  have e1:(ns.map λe=>V.int (e/2))=(ns.map (· / 2)).map V.int:=by rw[bO];rfl
  rw[e1]
  have s0:dc H (upd H pc (.lst ((ns.map (· / 2)).map V.int))):=cS n0
  have hpc:(upd H pc (.lst ((ns.map (· / 2)).map V.int))) pc=some (.lst ((ns.map (· / 2)).map V.int)):=cT
  generalize hH0:upd H pc (.lst ((ns.map (· / 2)).map V.int))=H0 at s0 hpc
  refine⟨aQ _,λt ht=>?_⟩
  have s1:dc H0 (upd H0 t (.lst [])):=cS ht
  have S1:dc H (upd H0 t (.lst [])):=s0.trans s1
  refine⟨_,rfl,_,rfl,_,rfl,a,_,_,_,rfl,rfl,S1.seq hS,TL.km hne,_,rfl,v,l,_,rfl,Da.same S1 hv,ok,hnp,λp H2 s2 hp hp2=>?_⟩
  have nt:p≠t:=(cZ cT hp).symm
  have AV:=lU ok (oth (ns.getLastD 0))
  have AX:=lU ok (ns.headD 0)
  refine⟨p,rfl,⟨_,SqL.of hp2⟩,kg (K:=K) (a:=p) (xs:=(jn l.2 (oth (ns.getLastD 0))).map V.int) (λi σ H3=>∃ (vs:List V) (x:Option V),σ = [some v,some (.ref a),x,some (.ref pc),some (.ref t)]/\dc H0 H3/\H3 p=some (.lst ((jn l.2 (oth (ns.getLastD 0))).map V.int))/\H3 t=some (.lst vs)/\
    Dgs (Lf H0 H3 t) (SqT K H3) (((((jn l.2 (oth (ns.getLastD 0))).take i).filter λt=> !decide (t/2∈ns.map (· / 2))).map (onM ns)).map dMv) vs)
   ⟨[],none,rfl,s1.trans s2,hp2,s2 _ _ cT,eE.mpr rfl⟩ (λi σ H3 _ ⟨_,_,_,_,h,_⟩=>SqL.of h) ?_ ?_⟩
  ·rintro i y σ H3 hi ⟨vs,x,rfl,S3,hp3,ht3,D⟩
   rw[ay]at hi
   cases q:(jn l.2 (oth (ns.getLastD 0)))[i]? with
   |none=>rw[q]at hi;cases hi
   |some e=>
    rw[q]at hi
    cases hi
    have hil:i<(jn l.2 (oth (ns.getLastD 0))).length:=(aC.mp q).1
    have st:=take_succ_filter (λt=> !decide (t/2∈ns.map (· / 2))) _ i e q
    refine⟨_,rfl,_,_,rfl,rfl,⟨by decide,by decide⟩,_,rfl,_,.int (e/2),fZ (S3 _ _ hpc),eO.mpr rfl,pP _,nJ _,_,rfl,?_⟩
    rw[sQ]
    refine eW (c:=(!decide (e/2∈ns.map (· / 2)))=true) (λhc=>?_) (λhc=>?_)
    ·refine⟨_,rfl,.inl ⟨rfl,_,SqL.of ht3⟩,_,rfl,by show 2<=sizeLine;decide,λp1 n1=>?_⟩
     refine⟨_,rfl,_,rfl,a,_,rfl,((s0.trans S3).trans (cS n1)).seq hS,λp2 n2=>?_⟩
     refine⟨_,rfl,by show 1<=sizeLine;decide,λp3 n3=>?_⟩
     rw[sJ]at n3 ⊢
     refine⟨p2,p3,_,_,rfl,rfl,by rw[dj (cZ cT n3),cT],cT,?_,λp4 n4=>?_⟩
     ·refine Nat.le_of_lt (fS ?_)
      rw[aa,bU]
      show ns.length-1+1<=1000
      omega
     refine⟨by show 2<=sizeLine;decide,λp5 n5=>?_⟩
     have S5:dc H3 _:=(cS n1).trans ((cS n2).trans ((cS n3).trans ((cS n4).trans (cS (o:=.tup [.ref p1,.ref p4]) n5))))
     have lv:vs.length<=160:=by
      rw[D.length,aa,aa]
      refine ba (bt _ _) ?_
      rw[bj];omega
     refine⟨t,vs,_,rfl,rfl,S5 _ _ ht3,fS (by omega),?_⟩
     have g1:dc (upd H3 p1 (.tup [.str "on",.int e])) _:=(cS n2).trans ((cS n3).trans ((cS n4).trans (cS (o:=.tup [.ref p1,.ref p4]) n5)))
     obtain⟨r1,r2,r3⟩:=mI (w:= "on") (e:=e) (xs:=ns.drop 1 ++ [e]) S3 ht ht3 D S5 (g1 _ _ cT) (dc.free ((cS n1).trans ((cS n2).trans (cS n3))) n4) (by rw[dj (cZ cT n5),cT,aZ];rfl) cT
     refine⟨_,_,rfl,r1,?_,r2,?_⟩
     ·rw[dj nt];exact S5 _ _ hp3
     ·rw[st,ar hc,aZ];exact r3
    ·refine⟨vs,_,rfl,S3,hp3,ht3,?_⟩
     rw[st,ao hc,bE];exact D
  rintro σ H3 ⟨vs,x,rfl,S3,hp3,ht3,D⟩
  rw[aa,cO]at D
  refine⟨_,rfl,_,rfl,a,_,_,_,rfl,rfl,(s0.trans S3).seq hS,sP hne,v,l,_,rfl,Da.same (s0.trans S3) hv,ok,hnp,λp' H4 s4 hp' hp4=>?_⟩
  have nt':p'≠t:=(cZ ht3 hp').symm
  have D4:Dgs (Lf H0 H4 t) (SqT K H4) (((fr l ns (oth (ns.getLastD 0))).map (onM ns)).map dMv) vs:=Dgs.mono (λa us ⟨h1,h2,h3⟩=>⟨s4 _ _ h1,h2,h3⟩) (λa us h=>fT s4 h) D
  have AW:=pZ ok ns (oth (ns.getLastD 0))
  refine⟨p',rfl,⟨_,SqL.of hp4⟩,kg (K:=K) (a:=p') (xs:=(jn l.2 (ns.headD 0)).map V.int) (λi σ H3=>∃ (vs:List V) (x:Option V),σ = [some v,some (.ref a),x,some (.ref pc),some (.ref t)]/\dc H0 H3/\H3 p'=some (.lst ((jn l.2 (ns.headD 0)).map V.int))/\H3 t=some (.lst vs)/\
    Dgs (Lf H0 H3 t) (SqT K H3) (((fr l ns (oth (ns.getLastD 0))).map (onM ns)++(((jn l.2 (ns.headD 0)).take i).filter λt=> !decide (t/2∈ns.map (· / 2))).map (qG ns)).map dMv) vs)
   ⟨vs,x,rfl,S3.trans s4,hp4,s4 _ _ ht3,by simpa using D4⟩ (λi σ H3 _ ⟨_,_,_,_,h,_⟩=>SqL.of h) ?_ ?_⟩
  ·rintro i y σ H3 hi ⟨vs,x,rfl,S3,hp3,ht3,D⟩
   rw[ay]at hi
   cases q:(jn l.2 (ns.headD 0))[i]? with
   |none=>rw[q]at hi;cases hi
   |some e=>
    rw[q]at hi
    cases hi
    have hil:i<(jn l.2 (ns.headD 0)).length:=(aC.mp q).1
    have st:=take_succ_filter (λt=> !decide (t/2∈ns.map (· / 2))) _ i e q
    refine⟨_,rfl,_,_,rfl,rfl,⟨by decide,by decide⟩,_,rfl,_,.int (e/2),fZ (S3 _ _ hpc),eO.mpr rfl,pP _,nJ _,_,rfl,?_⟩
    rw[sQ]
    refine eW (c:=(!decide (e/2∈ns.map (· / 2)))=true) (λhc=>?_) (λhc=>?_)
    ·refine⟨_,rfl,.inl ⟨rfl,_,SqL.of ht3⟩,_,rfl,by show 2<=sizeLine;decide,λp1 n1=>?_⟩
     refine⟨_,rfl,e,rfl,by show 1<=sizeLine;decide,λp2 n2=>?_⟩
     refine⟨_,rfl,_,rfl,_,rfl,a,_,rfl,((s0.trans S3).trans ((cS n1).trans (cS n2))).seq hS,λp3 n3=>?_⟩
     have ec:l0 (ns.map V.int) none (some (-1))=ns.dropLast.map V.int:=sL ns
     refine⟨p2,p3,_,_,rfl,rfl,by rw[dj (cZ cT n3),cT],cT,?_,λp4 n4=>?_⟩
     ·refine Nat.le_of_lt (fS ?_)
      show 1+(l0 (ns.map V.int) none (some (-1))).length<=1000
      rw[ec,aa,bP]
      omega
     refine⟨by show 2<=sizeLine;decide,λp5 n5=>?_⟩
     have S5:dc H3 _:=(cS n1).trans ((cS n2).trans ((cS n3).trans ((cS n4).trans (cS (o:=.tup [.ref p1,.ref p4]) n5))))
     have lv:vs.length<=320:=by
      rw[D.length,aa,aY,aa,aa]
      have:=bt (λt=> !decide (t/2∈ns.map (· / 2))) ((jn l.2 (ns.headD 0)).take i)
      rw[bj]at this
      omega
     refine⟨t,vs,_,rfl,rfl,S5 _ _ ht3,fS (by omega),?_⟩
     have g1:dc (upd H3 p1 (.tup [.str "back",.int e])) _:=(cS n2).trans ((cS n3).trans ((cS n4).trans (cS (o:=.tup [.ref p1,.ref p4]) n5)))
     obtain⟨r1,r2,r3⟩:=mI (w:= "back") (e:=e) (xs:=oth e::ns.dropLast) S3 ht ht3 D S5 (g1 _ _ cT) (dc.free ((cS n1).trans ((cS n2).trans (cS n3))) n4) (by
      rw[dj (cZ cT n5),cT]
      show some (HO.lst ([V.int (oth e)]++l0 (ns.map V.int) none (some (-1))))=_
      rw[ec];rfl) cT
     refine⟨_,_,rfl,r1,?_,r2,?_⟩
     ·rw[dj nt'];exact S5 _ _ hp3
     ·rw[st,ar hc,aZ (f:=qG ns),<-aK];exact r3
    ·refine⟨vs,_,rfl,S3,hp3,ht3,?_⟩
     rw[st,ao hc,bE];exact D
  rintro σ H3 ⟨vs,x,rfl,S3,hp3,ht3,D⟩
  rw[aa,cO]at D
  exact⟨_,rfl,k t vs H3 (s0.trans S3) (dc.free s0 ht) ht3 (Dgs.mono (λa us ⟨h1,h2,h3⟩=>⟨h1,dc.free s0 h2,h3⟩) (λ_ _ h=>h) D)⟩
theorem pO {f1 f3:Addr}{fd1 fd3:FuncData}(F:Fn K mg "_law_run" jg ["_law_line_here","_law_train_here","_law_number","_law_most"] f fd)(B:Bm mg)(de:Fn K mg "_law_mix" fV ["_law_cell","_law_k"] f3 fd3)
  (fC:Fn K mg "_law_moves" gu ["_law_line_here","_law_train_here"] f1 fd1) (jc:dw P w K mg base CX0 2 f1 fd1 ["_law_line_here","_law_train_here"] (oo K)):dw P w K mg base CX0 3 f fd ["_law_line_here","_law_train_here","_law_number","_law_most"] (rE K):=by
 have fc:dw P w K mg base CX0 1 f3 fd3 ["_law_cell","_law_k"] lC:=iB de B.toBl
 refine F.F.ok fq (λvs H Q E h=>?_) (λcdv A outer s H vs Q E hr h=>?_)
 ·obtain⟨v,u,l,ns,c,n,rfl,_⟩:=h;rfl
 ·obtain⟨v,u,l,ns,c,n,rfl,hv,hu,ok,hnp,hne,hz,c0,n0,n1,k⟩:=h
  refine⟨_,(cV (dS (i:=4) fq.nd rfl (Or.inl rfl) (eJ cR))
 (cV (dS (i:=5) fq.nd rfl (Or.inl rfl) (pv 1))
 (cV (iz bL rfl (ij rfl B.range (cQ (cY ef (pv 2) (cY eN (pv 3) cU)) cR)) (dC (i:=6) fq.nd rfl (Or.inl rfl))
 (cV (dS (i:=7) fq.nd rfl (Or.inl rfl) (di jc (hr.mono (by decide)) rfl fC.m fC.F.kp fC.b .nil d5 (cQ (pv 0) (cQ (pv 5) cR))))
 (cX (fi (eg (kE hr.units) (pv 7) (eJ cR) (gA _))
 (cV (uF (eh dO (pv 7) (cY ef (di fc (hr.mono (by decide)) rfl de.m de.F.kp de.b .nil d5 (cQ (pv 2) (cQ (cY eN cU (pv 6)) cR))) (dN eB rfl B.len cL (cQ (pv 7) cR))) (λ_ _=>rfl)) (kD (n:=2) rfl (eQ (dC (i:=8) fq.nd rfl (Or.inl rfl)) (eQ (dC (i:=5) fq.nd rfl (Or.inl rfl)) ji))))
 (cX (hG (hJ bp bx bw eY (pv 4) (cQ (pv 8) cR))))) dU))))
 (cX (dG (pv 4)))))),?_⟩
  refine⟨aQ _,λp np=>?_⟩
  have s1:=cS (o:=.lst []) np
  have hp:=cT (H:=H) (a:=p) (o:=.lst [])
  have du:Da K (hid p (upd H p (.lst []))) (dI ns) u:=Da.same (rJ s1 np) hu
  generalize upd H p _=H1 at s1 hp du ⊢
  refine⟨_,rfl,?_⟩
  have m0:0<=c%(n+1):=bz _ (by omega)
  have m1:c%(n+1)<n+1:=bb _ (by omega)
  refine⟨_,rfl,_,rfl,_,_,rfl,rfl,_,_,rfl,rfl,(by show(0:Int)<n+1;omega),_,rfl,by show -(2 ^ 62)<=c%(n+1);omega,by show c%(n+1)<2 ^ 62;omega,ip (λi σ H3=>∃ (run:List (Str×Int)) (hns:List Int) (here:V) (x6 x7 x8:Option V),σ = [some v,some u,some (.int c),some (.int n),some (.ref p),some here,x6,x7,x8]/\dc H H3/\kr K H3 p run/\run.length<=i/\Da K (hid p H3) (dI hns) here/\hns≠ []/\hns.length=ns.length/\mf l ns run hns)
   ⟨[],ns,u,none,none,none,rfl,s1,⟨⟨[],hp,eE.mpr rfl⟩,λk hk=>nomatch hk⟩,ah _,du,hne,rfl,.nil⟩ ?_ ?_⟩
  ·rintro i σ H3 hi ⟨run,hns,here,x6,x7,x8,rfl,S3,R3,rl,dh,sr,hl2,ST⟩
   have A0:(i:Int)<101:=by
    have h:i<(c%(n+1)).toNat:=hi
    omega
   refine⟨_,rfl,_,rfl,_,_,l,hns,rfl,Da.same S3 hv,Da.same kc dh,ok,hnp,sr,by omega,λpm vm H6 s6 hpm wF Dm=>?_⟩
   obtain⟨bs,hb1,hb2,hb3⟩:=uT Dm
   subst hb2
   have bl:bs.length<=320:=by have h1:=bM List.length hb1;rw[aa]at h1;rw[h1];exact tF ok _
   have hbm:∀ x∈bs,x.1∈mvs l hns:=λx hx=>by rw[<-hb1];exact aL.mpr ⟨x,hx,rfl⟩
   have R6:=R3.same s6
   obtain⟨⟨vr,hp6,dr6⟩,okr⟩:=id R6
   have vl:vr.length=run.length:=by have:=Dgs.length dr6;rw[aa]at this;exact this
   refine⟨_,rfl,aQ _,λe2 ne2=>⟨dMs (mvs l hns),.list [],Da.same (cS ne2) (sH wF Dm),fZ (ns:=[]) cT,qV (mE l hns),nI,_,rfl,?_⟩⟩
   have s9:=cS (o:=.lst []) ne2
   generalize upd H6 e2 _=H9 at s9 ⊢
   rw[vv]
   refine eW (λhem=>?_) (λ_=>?_)
   ·have wD:0<bs.length:=by
     have h1:=bM List.length hb1
     rw[aa]at h1
     cases hh:mvs l hns with
     |nil=>rw[hh]at hem;exact absurd hem (by decide)
     |cons x r=>rw[h1,hh];simp
    refine⟨_,rfl,_,rfl,_,rfl,_,_,rfl,rfl,c,_,rfl,by show(0:Int)<=20+(0+(i:Int));omega,by show 20+(0+(i:Int))<=1000;omega,λm m0 m1=>?_⟩
    have r0:0<=m%(bs.length:Int):=bz _ (by omega)
    have r1:m%(bs.length:Int)<(bs.length:Int):=bb _ (by omega)
    have hjl:(m%(bs.length:Int)).toNat<bs.length:=by omega
    have hx:bs[(m%(bs.length:Int)).toNat]? = some bs[(m%(bs.length:Int)).toNat]:=by simp[hjl]
    generalize bs[(m%(bs.length:Int)).toNat]=x at hx
    have hxm:x∈bs:=aF hx
    obtain⟨⟨p1,ht,hdm⟩,hb,hbn,hbp⟩:=hb3 x hxm
    have hm9:=s9 _ _ wF
    refine⟨_,rfl,pm,_,rfl,.inl (SqL.of hm9),_,_,rfl,rfl,?_,pm,_,_,V.ref x.2.1,rfl,rfl,SqL.of hm9,?_,?_⟩
    ·show(0:Int)<((bs.map λx=>V.ref x.2.1).length:Int)
     rw[aa];omega
    ·show atI _ (m%((bs.map λx=>V.ref x.2.1).length:Int))=_
     rw[aa]
     exact vz r0 (by rw[ay,hx];rfl)
    refine⟨x.2.1,_,rfl,fT s9 ht,rfl,_,_,rfl,_,_,rfl,rfl,?_⟩
    have hbr:x.2.2≠p:=(cZ (R3.ex.choose_spec.1) hbn).symm
    refine⟨_,rfl,.inl ⟨rfl,_,SqL.of (s9 _ _ hp6)⟩,_,rfl,p,_,_,rfl,rfl,s9 _ _ hp6,eS (by omega),?_⟩
    have zt:=wI (s9 _ _ hp6) (Da.same s9 hdm)
    refine⟨run ++ [x.1.1],x.1.2,_,_,_,_,rfl,dc.upd (S3.trans (s6.trans s9)) np,⟨⟨_,cT,?_⟩,λk hk=>?_⟩,by rw[aY];show run.length+1<=_;omega,?_,(mM sr (hbm x hxm)).1,((mM sr (hbm x hxm)).2).trans hl2,.snoc ST (hbm x hxm)⟩
    ·rw[nN,aZ]
     exact Dgs.append (Das.same (kd s9) dr6) (Dgs.one zt)
    ·rcases aI.mp hk with z |z
     ·exact okr k z
     ·rw[aS.mp z];exact mE l hns x.1 (hbm x hxm)
    ·rw[nN]
     exact fZ (by rw[iW hbr];exact s9 _ _ hb)
   ·exact⟨run,hns,here,_,_,_,rfl,S3.trans (s6.trans s9),(R3.same (s6.trans s9)),by omega,Da.same (kd (s6.trans s9)) dh,sr,hl2,ST⟩
  ·rintro σ H3 ⟨run,hns,here,x6,x7,x8,rfl,S3,R3,rl,dh,sr,hl2,ST⟩
   refine⟨_,rfl,k p run hns _ S3 np R3 ?_ ST⟩
   have h:run.length<=(c%(n+1)).toNat:=rl
   omega
end
theorem qJ:fh []=Str.ofString "-" :=by decide +kernel
theorem rA {run:List (Str×Int)}(h:run≠ []):fh run=Str.join (chS 32) (run.map txM):=by
 cases run with
 |nil=>exact absurd rfl h
 |cons k r=>
  unfold fh
  refine jV ?_
  rw[fb]
  show _ ++ []=_
  rw[bE]
theorem empty_app (x:Str):Str.empty++x=x:=by
 refine jV ?_
 rw[fb];rfl
abbrev fH:Stmt:=top 9
theorem mi:dE ["train"] ["train"] (cW fH):=⟨rfl,rfl,rfl,by decide +kernel,rfl,by decide +kernel,by decide +kernel⟩
theorem iK:d7 (cW fH) ["train"] {kind:=.function,names:=[(Str.ofString ".0",.local),(Str.ofString "end",.local),(Str.ofString "show_end",.globalImplicit)],isGenerator:=false,isCoroutine:=false,more:=[]} ["end"] 1 [none]:=⟨rfl,by decide +kernel,by decide +kernel,by decide +kernel,rfl,by decide +kernel,rfl,by decide +kernel⟩
abbrev gL:Stmt:=top 10
theorem oq:dE ["run"] ["run"] (cW gL):=⟨rfl,rfl,rfl,by decide +kernel,rfl,by decide +kernel,by decide +kernel⟩
theorem hZ:d7 (cW gL) ["run"] {kind:=.function,names:=[(Str.ofString ".0",.local),(Str.ofString "word",.local),(Str.ofString "end",.local),(Str.ofString "show_end",.globalImplicit)],isGenerator:=false,isCoroutine:=false,more:=[]} ["word","end"] 2 [none,none]:=⟨rfl,by decide +kernel,by decide +kernel,by decide +kernel,rfl,by decide +kernel,rfl,by decide +kernel⟩
section
variable {P:Program}{w:World}{K:PySem.W.Frag}{mg:Str->Option Value}{base:Heap}{f:Addr}{fd:FuncData}
theorem mm {f1:Addr}{fd1:FuncData}(F:Fn K mg "show_train" fH ["train"] f fd)(d9:Fn K mg "show_end" gM ["end"] f1 fd1)(gc:dw P w K mg base CX0 2 f1 fd1 ["end"] jG):dw P w K mg base CX0 3 f fd ["train"] (jY K):=by
 refine F.F.ok mi (λvs H Q E h=>?_) (λcdv A outer s H vs Q E hr h=>?_)
 ·obtain⟨v,ns,rfl,_⟩:=h;rfl
 ·obtain⟨v,ns,rfl,hv,hN,k⟩:=h
  obtain⟨a,rfl,hS⟩:=ki.mp hv
  have hl:=hN.1
  refine⟨_,(cX (dG (hJ bJ cm ck lr dY (cQ (jy (eD (pv 0)) rfl iK (.name (by decide)) (λ_ _ _ _=>(dC (i:=0) iK.nd rfl (Or.inl rfl))) (λ_ _ _ _=>fJ) (λ_ _ _ _=>(di gc (hr.mono (by decide)) rfl d9.m d9.F.kp d9.b .nil d5 (cQ (pv 0) cR)))) cR)))),?_⟩
  refine⟨rfl,_,rfl,a,rfl,⟨_,hS⟩,λt nt=>j9 ns.length ns (λ_=>true) (λe=>V.str (txE e)) nt rfl (eS (by omega)) (λi H s hi=>(eu hS).go i H s (by rw[aa];exact hi)) (λH s=>by have:=(eu hS).stop H s;rw[aa]at this;exact this) ?_ ?_⟩
  ·intro i y d G G' sG yy hd P1 P0 p1 p0
   have hi:i<ns.length:=(aC.mp hd).1
   obtain⟨rfl,hx'⟩:=(eu hS).yld i G y G' sG (by rw[aa];exact hi) yy
   rw[ay,hd]at hx'
   cases hx'
   have he:=hN.2 d (aF hd)
   refine il ?_
   exact⟨_,rfl,d,rfl,he.1,he.2,p1 _ rfl (dc.refl _)⟩
  intro H5 s5 h5
  rw[fY]at h5
  refine⟨_,t,ns.map txE,rfl,rfl,SqL.of (by rw[h5,bO];rfl),λy hy=>?_,by rw[aa];omega,by decide,?_⟩
  ·obtain⟨e,he,rfl⟩:=aL.mp hy
   have:=(fD (hN.2 e he).1 (hN.2 e he).2).2.2
   omega
  ·rw[gz]
   exact k _ s5
theorem oF {f1:Addr}{fd1:FuncData}(F:Fn K mg "show_run" gL ["run"] f fd)(d9:Fn K mg "show_end" gM ["end"] f1 fd1)(gc:dw P w K mg base CX0 2 f1 fd1 ["end"] jG):dw P w K mg base CX0 3 f fd ["run"] (jZ K):=by
 refine F.F.ok oq (λvs H Q E h=>?_) (λcdv A outer s H vs Q E hr h=>?_)
 ·obtain⟨v,run,rfl,_⟩:=h;rfl
 ·obtain⟨v,run,rfl,hv,hK,k⟩:=h
  obtain⟨a,us,rfl,hS,D⟩:=eF.mp hv
  have hl:=hK.1
  have ul:us.length=run.length:=by have:=Dgs.length D;rw[aa]at this;exact this
  refine⟨_,(cV (fi (gQ (oy (pv 0) (λ_=>rfl)))
 (cX (dG dY)) dU)
 (cX (dG (hJ bJ cm ck lr dY (cQ (jy (eD (pv 0)) rfl hZ (.tup (.cons (.name (by decide)) (.cons (.name (by decide)) .nil))) (λ_ _ _ _=>(kD (n:=2) rfl (eQ (dC (i:=0) hZ.nd rfl (Or.inl rfl)) (eQ (dC (i:=1) hZ.nd rfl (Or.inl rfl)) ji)))) (λ_ _ _ _=>fJ) (λ_ _ _ _=>(nA (nz (pv 0) (lI (nz (di gc (hr.mono (by decide)) rfl d9.m d9.F.kp d9.b .nil d5 (cQ (pv 1) cR)) pI)))))) cR))))),?_⟩
  refine⟨_,rfl,_,.inl ⟨_,hS,rfl⟩,eW (λh=>?_) (λh=>?_)⟩
  ·have h:us = []:=by simpa using h
   have hr:run = []:=cc.mp (by rw[<-ul,h];rfl)
   have:=k H (dc.refl _)
   rw[hr,qJ]at this
   exact this
  have hne:run≠ []:=λe=>h (by
   have:us = []:=cc.mp (by rw[ul,e];rfl)
   simp[this])
  refine⟨rfl,_,rfl,a,rfl,⟨_,hS⟩,λt nt=>j9 run.length run (λ_=>true) (λk=>V.str (txM k)) nt rfl (eS (by omega)) (λi H s hi=>(eu hS).go i H s (by rw[ul];exact hi)) (λH s=>by have:=(eu hS).stop H s;rw[ul]at this;exact this) ?_ ?_⟩
  ·intro i y d G G' sG yy hd P1 P0 p1 p0
   have hi:i<run.length:=(aC.mp hd).1
   obtain⟨rfl,hx'⟩:=(eu hS).yld i G y G' sG (by rw[ul];exact hi) yy
   obtain⟨kq,hk,dk⟩:=sF (Das.same sG D) hx'
   rw[hd]at hk
   cases hk
   obtain⟨ad,rfl,hA⟩:=sI dk
   obtain⟨g1,g2,g3⟩:=hK.2 d (aF hd)
   have gl:=(gG g1).2
   have e4:(Str.ofString " ").length=1:=by decide +kernel
   have gt:=(fD g2 g3).2.2
   refine⟨ad,_,rfl,hA,rfl,_,_,rfl,_,_,rfl,rfl,?_⟩
   unfold rC
   dsimp only
   rw[ar rfl]
   have e5:Str.empty++d.1=d.1:=empty_app _
   refine⟨_,rfl,d.1,.inr ⟨rfl,by rw[aO];omega⟩,by rw[e5,aO];omega,by rw[e5,aN,aO];omega,_,rfl,d.2,rfl,g2,g3,txE d.2,.inr ⟨rfl,by rw[aO];omega⟩,by rw[e5,aN,aN,aO];omega,?_⟩
   rw[e5]
   refine⟨by rw[aN,aN,aO];omega,?_⟩
   exact p1 _ rfl (dc.refl _)
  intro H5 s5 h5
  rw[fY]at h5
  refine⟨_,t,run.map txM,rfl,rfl,SqL.of (by rw[h5,bO];rfl),λy hy=>?_,by rw[aa];omega,by decide,?_⟩
  ·obtain⟨kq,hk,rfl⟩:=aL.mp hy
   obtain⟨g1,g2,g3⟩:=hK.2 kq hk
   have gl:=(gG g1).2
   have e4:(Str.ofString " ").length=1:=by decide +kernel
   have gt:=(fD g2 g3).2.2
   unfold txM
   rw[aN,aN];omega
  rw[gz,<-rA hne]
  exact k _ s5
end
def oj:Sp:=λvs H Q _=>∃ e:Int,vs = [.int e]/\Q (.bl true) H
def qf (K:PySem.W.Frag):Sp:=λvs H Q _=>∃ (p a q:Addr) (u g:V) (ns:List Int) (run:List (Str×Int)),vs = [.ref p,u,g]/\H p=some (.lst [.ref a,.ref q])/\H a=some (.lst (ns.map V.int))/\kr K H q run/\Da K H (dI ns) u/\Da K H (dR run) g/\OkN ns/\OkK run/\∀ H',dc H H'->Q (.bl true) H'
def qi (K:PySem.W.Frag):Sp:=λvs H Q _=>∃ (u g:V) (ns:List Int) (run:List (Str×Int)),vs = [u,g]/\Da K H (dI ns) u/\Da K H (dR run) g/\ns≠ []/\OkN ns/\OkK run/\(∀ k∈run,PyData.strOk k.1=true)/\∀ H',dc H H'->Q (.bl true) H'
def dTR (ns:List Int)(run:List (Str×Int)):PyData:=.list [dI ns,dR run]
theorem pQ (ns:List Int){run:List (Str×Int)}(h:∀ k∈run,PyData.strOk k.1=true):OkD (dTR ns run):=by
 have h1:=gS ns
 have h2:=oQ h
 refine⟨?_,?_⟩
 ·simp only[dTR,PyData.canLay0,PyData.canLayAll0,h1.1,h2.1,cK]
 ·have d1:(dI ns).depth<=1:=by
   simp only[dI,PyData.depth]
   have:=d6 (f:=PyData.int) (k:=0) (λ_=>by simp[PyData.depth]) ns
   omega
  have d2:(dR run).depth<=2:=by
   simp only[dR,PyData.depth]
   have:=d6 (f:=dM) (k:=1) (λm=>by simp[dM,PyData.depth,PyData.depthAll]) run
   omega
  simp only[dTR,PyData.depth,PyData.depthAll]
  omega
theorem pR {x y:Str}(h1:PyData.strOk x=true)(h2:PyData.strOk y=true):OkD (.list [.str x,.str y]):=by
 refine⟨?_,by simp[PyData.depth,PyData.depthAll]⟩
 simp only[PyData.canLay0,PyData.canLayAll0,h1,h2,cK]
def Chr (z:Str):Prop:=∀ c∈z.cps.toList,c<200
theorem Chr.ok {z:Str}(h:Chr z):PyData.strOk z=true:=by
 unfold PyData.strOk
 rw[<-Array.all_toList,b7]
 intro c hc
 have:=h c hc
 exact decide_eq_true (by omega)
theorem Chr.app {x y:Str}(h:Chr x)(k:Chr y):Chr (x++y):=λc hc=>by
 rw[fb]at hc
 rcases aI.mp hc with q |q
 ·exact h c q
 ·exact k c q
theorem Chr.of {z:Str}(h:(z.cps.toList.all λc=>decide (c<200))=true):Chr z:=λc hc=>cF (b7.mp h c hc)
theorem Chr.join:∀ {ws:List Str},(∀ z∈ws,Chr z)->Chr (Str.join (chS 32) ws)
 |[],_=>Chr.of (by decide +kernel)
 |[a],h=>h a az
 |a::b::r,h=>by
  rw[dZ]
  exact((h a az).app (Chr.of (by decide +kernel))).app (Chr.join λz hz=>h z (aB _ hz))
theorem qE {e:Int}(h0:0<=e)(h1:e<82):Chr (txE e):=λc hc=>by
 have:=(fD h0 h1).2.1 c hc
 omega
theorem uA {ns:List Int}(h:OkN ns):PyData.strOk (txT ns)=true:=Chr.ok (Chr.join λz hz=>by
 obtain⟨e,he,rfl⟩:=aL.mp hz
 exact qE (h.2 e he).1 (h.2 e he).2)
theorem rG {run:List (Str×Int)}(h:OkK run):PyData.strOk (fh run)=true:=by
 refine Chr.ok ((Chr.join λz hz=>?_).app ?_)
 ·obtain⟨k,hk,rfl⟩:=aL.mp hz
  obtain⟨w1,k0,k1⟩:=h.2 k hk
  refine Chr.app (Chr.app ?_ (Chr.of (by decide +kernel))) (qE k0 k1)
  rcases w1 with e |e<;>rw[e]<;>exact Chr.of (by decide +kernel)
 ·split<;>exact Chr.of (by decide +kernel)
abbrev g9:Stmt:=top 19
theorem nj:dE ["_law_found"] ["_law_found"] (cW g9):=⟨rfl,rfl,rfl,by decide +kernel,rfl,by decide +kernel,by decide +kernel⟩
abbrev fU:Stmt:=top 29
theorem ow:dE ["_law_found","_law_train_here","_law_run_here"] ["_law_found","_law_train_here","_law_run_here"] (cW fU):=⟨rfl,rfl,rfl,by decide +kernel,rfl,by decide +kernel,by decide +kernel⟩
theorem jB:d7 (cW fU) ["_law_found","_law_train_here","_law_run_here"] {kind:=.function,names:=[(Str.ofString ".0",.local),(Str.ofString "_law_end",.local),(Str.ofString "_law_whole",.globalImplicit)],isGenerator:=false,isCoroutine:=false,more:=[]} ["_law_end"] 1 [none]:=⟨rfl,by decide +kernel,by decide +kernel,by decide +kernel,rfl,by decide +kernel,rfl,by decide +kernel⟩
theorem jA:d7 (cW fU) ["_law_found","_law_train_here","_law_run_here"] {kind:=.function,names:=[(Str.ofString ".0",.local),(Str.ofString "_law_move",.local),(Str.ofString "isinstance",.globalImplicit),(Str.ofString "tuple",.globalImplicit),(Str.ofString "_law_whole",.globalImplicit)],isGenerator:=false,isCoroutine:=false,more:=[]} ["_law_move"] 1 [none]:=⟨rfl,by decide +kernel,by decide +kernel,by decide +kernel,rfl,by decide +kernel,rfl,by decide +kernel⟩
abbrev gP:Stmt:=top 30
theorem fu:dE ["_law_train_here","_law_run_here","_law_handed","_law_texts","_law_found","_law_time","_law_again"] ["_law_train_here","_law_run_here"] (cW gP):=⟨rfl,rfl,rfl,by decide +kernel,rfl,by decide +kernel,by decide +kernel⟩
theorem jC:d7 (cW gP) ["_law_train_here","_law_run_here","_law_handed","_law_texts","_law_found","_law_time","_law_again"] {kind:=.function,names:=[(Str.ofString ".0",.local),(Str.ofString "_law_text",.local),(Str.ofString "isinstance",.globalImplicit),(Str.ofString "str",.globalImplicit)],isGenerator:=false,isCoroutine:=false,more:=[]} ["_law_text"] 1 [none]:=⟨rfl,by decide +kernel,by decide +kernel,by decide +kernel,rfl,by decide +kernel,rfl,by decide +kernel⟩
section
variable {P:Program}{w:World}{K:PySem.W.Frag}{mg:Str->Option Value}{base:Heap}{f:Addr}{fd:FuncData}{c6:Addr}
theorem nF (F:Fn K mg "_law_whole" g9 ["_law_found"] f fd)(B:Bm mg):dw P w K mg base CX0 1 f fd ["_law_found"] oj:=by
 refine F.F.ok nj (λvs H Q E h=>?_) (λcdv A outer s H vs Q E hr h=>?_)
 ·obtain⟨e,rfl,_⟩:=h;rfl
 ·obtain⟨e,rfl,k⟩:=h
  refine⟨_,(cX (dG (uM (dN i7 rfl B.isinstance cx (cQ (pv 0) (cQ (jj (v:=.ty "int") rfl B.int boot_int rfl) cR))) (uJ (uK (dN i7 rfl B.isinstance cx (cQ (pv 0) (cQ (jj (v:=.ty "bool") rfl B.bool boot_bool rfl) cR)))))))),?_⟩
  refine⟨_,rfl,_,_,_,true,rfl,.int _,iV,true,rfl,?_⟩
  refine vc ⟨_,rfl,_,_,_,false,rfl,.int _,nL,_,rfl,k⟩
theorem oM {f1:Addr}{fd1:FuncData}(F:Fn K mg "_law_same" fU ["_law_found","_law_train_here","_law_run_here"] f fd)(B:Bm mg)(eC:Fn K mg "_law_whole" g9 ["_law_found"] f1 fd1):dw P w K mg base CX0 2 f fd ["_law_found","_law_train_here","_law_run_here"] (qf K):=by
 have kX:dw P w K mg base CX0 1 f1 fd1 ["_law_found"] oj:=nF eC B
 refine F.F.ok ow (λvs H Q E h=>?_) (λcdv A outer s H vs Q E hr h=>?_)
 ·obtain⟨p,a,q,u,g,ns,run,rfl,_⟩:=h;rfl
 ·obtain⟨p,a,q,u,g,ns,run,rfl,hp,ha,RA,hu,hg,oN,oK,k⟩:=h
  obtain⟨vs,hq,Dq⟩:=RA.ex
  have Dq:=Das.same kc Dq
  have vl:vs.length=run.length:=by have:=Dgs.length Dq;rw[aa]at this;exact this
  have hpl:=SqL.of (K:=K) hp
  have hal:=SqL.of (K:=K) ha
  have hql:=SqL.of (K:=K) hq
  have n40:=oN.1
  have r60:=oK.1
  refine⟨_,(cV (fi (PW.pt (lG (eg (kE hr.units) (eh dO (pv 0) cU (λ_ _=>rfl)) (pv 1) (gA _)) (lG (eg (kE hr.units) (eh dO (pv 0) cU (λ_ _=>rfl)) (pv 2) (gA _)) (lG (gQ (iy (dN kl rfl B.isinstance cx (cQ (eh dO (pv 0) cU (λ_ _=>rfl)) (cQ (jj (v:=.ty "list") rfl B.list boot_list rfl) cR))))) (nv (gQ (iy (dN kl rfl B.isinstance cx (cQ (eh dO (pv 0) cU (λ_ _=>rfl)) (cQ (jj (v:=.ty "list") rfl B.list boot_list rfl) cR))))))))))
 (cX (dG lK)) dU)
 (cV (fi (iR (qq (dN eB rfl B.len cL (cQ (jy (eD (eh dO (pv 0) cU (λ_ _=>rfl))) rfl jB (.name (by decide)) (λ_ _ _ _=>(dC (i:=0) jB.nd rfl (Or.inl rfl))) (λ_ _ _ _=>(iS (gQ (iy (di kX (hr.mono (by decide)) rfl eC.m eC.F.kp eC.b .nil d5 (cQ (pv 0) cR)))))) (λ_ _ _ _=>(pv 0))) cR)) cU))
 (cX (dG lK)) dU)
 (cX (dG (uL (pJ (dN eB rfl B.len cL (cQ (jy (eD (eh dO (pv 0) cU (λ_ _=>rfl))) rfl jA (.name (by decide)) (λ_ _ _ _=>(dC (i:=0) jA.nd rfl (Or.inl rfl))) (λ_ _ _ _=>(iS (PW.pt (lG (gQ (iy (dN (mw (K:=K) rfl) rfl B.isinstance cx (cQ (pv 0) (cQ (jj (v:=.ty "tuple") rfl B.tuple boot_tuple rfl) cR))))) (nv (gQ (iy (di kX (hr.mono (by decide)) rfl eC.m eC.F.kp eC.b .nil d5 (cQ (eh (tK (K:=K) rfl) (pv 0) cU (λ_ _=>rfl)) cR))))))))) (λ_ _ _ _=>(pv 0))) cR)) cU)))))),?_⟩
  refine⟨_,rfl,p,_,_,_,rfl,rfl,hpl,rfl,_,rfl,dI ns,dI ns,fZ ha,hu,gS _,gS _,_,rfl,?_⟩
  rw[kh (gS _)]
  refine eW (λz=>absurd z (by decide)) (λ_=>?_)
  refine⟨_,rfl,p,_,_,_,rfl,rfl,hpl,rfl,_,rfl,dR run,dR run,RA.da,hg,oQ RA.ok,oQ RA.ok,_,rfl,?_⟩
  rw[kh (oQ RA.ok)]
  refine eW (λz=>absurd z (by decide)) (λ_=>?_)
  refine⟨_,rfl,p,_,_,_,rfl,rfl,hpl,rfl,a,_,_,true,rfl,hal,iV,_,rfl,eW (λz=>absurd z (by decide)) (λ_=>?_)⟩
  refine⟨_,rfl,p,_,_,_,rfl,rfl,hpl,rfl,q,_,_,true,rfl,hql,iV,_,rfl,eW (λz=>absurd z (by decide)) (λ_=>?_)⟩
  refine⟨_,rfl,p,_,_,_,rfl,rfl,hpl,rfl,a,rfl,⟨_,hal⟩,λl1 n1=>jq ns (λ_=>false) (λe=>V.int e) n1 hal (by rw[aa]) (by rw[aa];exact eS (by omega)) ?_ ?_⟩
  ·intro j x d H' hx hd sm P1 P0 k1 k0
   rw[ay,hd]at hx
   cases hx
   exact⟨_,rfl,d,rfl,_,rfl,eW (λz=>absurd z (by decide)) (λ_=>k0 rfl)⟩
  have e0:ns.filter (λ_=>false) = []:=List.filter_eq_nil_iff.mpr λ_ _=>by decide
  rw[e0]
  have s1:=cS (o:=.lst (([]:List Int).map λe=>V.int e)) n1
  refine⟨l1,_,rfl,.inl (SqL.of cT),_,_,rfl,rfl,_,rfl,eW (λz=>absurd z (by decide)) (λ_=>?_)⟩
  refine⟨_,rfl,p,_,_,_,rfl,rfl,s1.seq hpl,rfl,q,rfl,⟨_,s1.seq hql⟩,λl2 n2=>jq run (λ_=>false) (λ_=>V.non) n2 (s1.seq hql) vl (by rw[vl];exact eS (by omega)) ?_ ?_⟩
  ·intro j x d H' hx hd sm P1 P0 k1 k0
   obtain⟨x',hx',dx⟩:=Dgs.get' (Das.same (s1.trans sm) Dq) (i:=j) (d:=dM d) (by rw[ay,hd];rfl)
   rw[hx]at hx'
   cases hx'
   obtain⟨ad,rfl,had⟩:=sI dx
   refine⟨_,rfl,ad,_,_,true,rfl,had,iV,_,rfl,eW (λz=>absurd z (by decide)) (λ_=>?_)⟩
   exact⟨_,rfl,ad,_,_,_,rfl,rfl,had,rfl,d.2,rfl,_,rfl,eW (λz=>absurd z (by decide)) (λ_=>k0 rfl)⟩
  have e1:run.filter (λ_=>false) = []:=List.filter_eq_nil_iff.mpr λ_ _=>by decide
  rw[e1]
  refine⟨l2,_,rfl,.inl (SqL.of cT),_,_,rfl,rfl,?_⟩
  exact k _ (s1.trans (cS n2))
theorem oP {f1 f2 f3 f4 f5 f6 f7:Addr}{fd1 fd2 fd3 fd4 fd5 fd6 fd7:FuncData}(F:Fn K mg "_law_good" gP ["_law_train_here","_law_run_here"] f fd)(B:Bm mg)
  (d8:Fn K mg "_law_train_text" eI ["_law_train_here"] f1 fd1) (gf:dw P w K mg base CX0 2 f1 fd1 ["_law_train_here"] (jY K))
  (eL:Fn K mg "_law_run_text" eU ["_law_run_here"] f2 fd2) (gX:dw P w K mg base CX0 2 f2 fd2 ["_law_run_here"] (jZ K))
  (fe:Fn K mg "show_train" fH ["train"] f3 fd3) (iF:dw P w K mg base CX0 3 f3 fd3 ["train"] (jY K))
  (gg:Fn K mg "show_run" gL ["run"] f4 fd4) (jP:dw P w K mg base CX0 3 f4 fd4 ["run"] (jZ K))
  (fg:Fn K mg "read_train" fI ["text"] f5 fd5) (iG:dw P w K mg base (CXr P w base) 3 f5 fd5 ["text"] (t8 c6))
  (gh:Fn K mg "read_run" gN ["text"] f6 fd6) (jQ:dw P w K mg base (CXr P w base) 4 f6 fd6 ["text"] (t9 K c6))
  (gj:Fn K mg "_law_same" fU ["_law_found","_law_train_here","_law_run_here"] f7 fd7) (jR:dw P w K mg base CX0 2 f7 fd7 ["_law_found","_law_train_here","_law_run_here"] (qf K)):dw P w K mg base CX0 5 f fd ["_law_train_here","_law_run_here"] (qi K):=by
 refine F.F.ok fu (λvs H Q E h=>?_) (λcdv A outer s H vs Q E hr h=>?_)
 ·obtain⟨u,g,ns,run,rfl,_⟩:=h;rfl
 ·obtain⟨u,g,ns,run,rfl,hu,hg,hne,oN,oK,ok1,k⟩:=h
  obtain⟨a,rfl,ha⟩:=ki.mp hu
  obtain⟨b,vb,rfl,hb,Db⟩:=eF.mp hg
  obtain⟨r1,z1⟩:=vY oN hne
  obtain⟨r2,z2⟩:=vZ oK
  refine⟨_,(cV (dS (i:=2) fu.nd rfl (Or.inl rfl) (eJ (cQ (ik kj rfl B.list boot_list (cQ (pv 0) cR)) (cQ (ik kj rfl B.list boot_list (cQ (pv 1) cR)) cR))))
 (cV (dS (i:=3) fu.nd rfl (Or.inl rfl) (eJ (cQ (di gf (hr.mono (by decide)) rfl d8.m d8.F.kp d8.b .nil d5 (cQ (pv 0) cR)) (cQ (di gX (hr.mono (by decide)) rfl eL.m eL.F.kp eL.b .nil d5 (cQ (pv 1) cR)) cR))))
 (cV (dS (i:=4) fu.nd rfl (Or.inl rfl) (eJ (cQ (di iF (hr.mono (by decide)) rfl fe.m fe.F.kp fe.b .nil d5 (cQ (eh dO (pv 2) cU (λ_ _=>rfl)) cR)) (cQ (di jP (hr.mono (by decide)) rfl gg.m gg.F.kp gg.b .nil d5 (cQ (eh dO (pv 2) cU (λ_ _=>rfl)) cR)) cR))))
 (cV (fi (PW.pt (lG (iR (qq (dN eB rfl B.len cL (cQ (jy (eD (pv 4)) rfl jC (.name (by decide)) (λ_ _ _ _=>(dC (i:=0) jC.nd rfl (Or.inl rfl))) (λ_ _ _ _=>(iS (gQ (iy (dN (nV (K:=K) rfl) rfl B.isinstance cx (cQ (pv 0) (cQ (jj (v:=.ty "str") rfl B.str boot_str rfl) cR))))))) (λ_ _ _ _=>(pv 0))) cR)) cU)) (lG (eg (kE hr.units) (pv 4) (pv 3) (gA _)) (nv (eg (kE hr.units) (pv 2) (eJ (cQ (pv 0) (cQ (pv 1) cR))) (gA _))))))
 (cX (dG lK)) dU)
 (cV (iz bL rfl (ij rfl B.range (cQ cU cR)) (dC (i:=5) fu.nd rfl (Or.inl rfl))
 (cV (dS (i:=6) fu.nd rfl (Or.inl rfl) (eJ (cQ (di iG (hr.mono (by decide)) rfl fg.m fg.F.kp fg.b .nil mK (cQ (eh dO (pv 3) cU (λ_ _=>rfl)) cR)) (cQ (di jQ (hr.mono (by decide)) rfl gh.m gh.F.kp gh.b .nil mK (cQ (eh dO (pv 3) cU (λ_ _=>rfl)) cR)) cR))))
 (cV (fi (gQ (iy (di jR (hr.mono (by decide)) rfl gj.m gj.F.kp gj.b .nil d5 (cQ (pv 6) (cQ (pv 0) (cQ (pv 1) cR))))))
 (cX (dG lK)) dU)
 (cV (hG (hJ bp bx bw eY (eh dO (pv 6) cU (λ_ _=>rfl)) (cQ cU cR)))
 (cX (hG (hJ bp bx bw eY (eh dO (pv 6) cU (λ_ _=>rfl)) (cQ (gR (cQ dY (cQ cU cR))) cR))))))))
 (cX (dG lK))))))),?_⟩
  refine⟨_,rfl,a,_,rfl,.inl ha,λq1 nq1=>?_⟩
  have s1:=cS (o:=.lst (ns.map V.int)) nq1
  refine⟨_,rfl,b,vb,rfl,.inl (s1.seq hb),λq2 nq2=>⟨by show 2<=sizeLine;decide,λq3 nq3=>?_⟩⟩
  have s2:=cS (o:=.lst vb) nq2
  have s3:=cS (o:=.lst [.ref q1,.ref q2]) nq3
  have hq3:=cT (H:=upd (upd H q1 (.lst (ns.map V.int))) q2 (.lst vb)) (a:=q3) (o:=.lst [.ref q1,.ref q2])
  have hq2:=s3 _ _ (cT (H:=upd H q1 (.lst (ns.map V.int))) (a:=q2) (o:=.lst vb))
  have hq1:=(s2.trans s3) _ _ (cT (H:=H) (a:=q1) (o:=.lst (ns.map V.int)))
  have S3:=s1.trans (s2.trans s3)
  generalize upd (upd (upd H q1 (.lst (ns.map V.int))) q2 (.lst vb)) q3 _=H3 at S3 hq1 hq2 hq3 ⊢
  clear s1 s2 s3
  have dr:Da K H3 (dR run) (.ref q2):=eF.mpr ⟨q2,vb,rfl,SqL.of hq2,Das.same S3 Db⟩
  refine⟨_,rfl,_,ns,rfl,Da.same S3 hu,oN,λH4 s4=>⟨_,rfl,_,run,rfl,Da.same (S3.trans s4) hg,oK,λH5 s5=>⟨by show 2<=sizeLine;decide,λq4 nq4=>?_⟩⟩⟩
  have s6:=s4.trans (s5.trans (cS (o:=.lst [.str (txT ns),.str (fh run)]) nq4))
  have hq4:=cT (H:=H5) (a:=q4) (o:=.lst [.str (txT ns),.str (fh run)])
  generalize upd H5 q4 _=H6 at s6 hq4 ⊢
  clear s4 s5
  have S6:=S3.trans s6
  have vg:=SqL.of (K:=K) (s6 _ _ hq3)
  refine⟨_,rfl,q3,_,_,_,rfl,rfl,vg,rfl,_,ns,rfl,fZ (s6 _ _ hq1),oN,λH7 s7=>⟨_,rfl,q3,_,_,_,rfl,rfl,s7.seq vg,rfl,_,run,rfl,Da.same (s6.trans s7) dr,oK,λH8 s8=>⟨by show 2<=sizeLine;decide,λq5 nq5=>?_⟩⟩⟩
  have s9:=s7.trans (s8.trans (cS (o:=.lst [.str (txT ns),.str (fh run)]) nq5))
  have hq5:=cT (H:=H8) (a:=q5) (o:=.lst [.str (txT ns),.str (fh run)])
  generalize upd H8 q5 _=H9 at s9 hq5 ⊢
  clear s7 s8
  have S9:=S6.trans s9
  have vf:=SqL.of (K:=K) hq5
  have so1:PyData.strOk (txT ns)=true:=uA oN
  have so2:PyData.strOk (fh run)=true:=rG oK
  refine⟨_,rfl,q5,rfl,⟨_,vf⟩,λl1 n1=>jq [txT ns,fh run] (λ_=>false) (λe=>V.str e) n1 vf rfl (by show 2<sizeLine;decide) ?_ ?_⟩
  ·intro j x d H' hx hd sm P1 P0 k1 k0
   have ex:x = .str d:=by
    match j,hx,hd with
    | 0,hx,hd=>cases hx;cases hd;rfl
    | 1,hx,hd=>cases hx;cases hd;rfl
   subst ex
   exact⟨_,rfl,_,_,_,true,rfl,.str _,iV,_,rfl,eW (λz=>absurd z (by decide)) (λ_=>k0 rfl)⟩
  have e0:[txT ns,fh run].filter (λ_=>false) = []:=List.filter_eq_nil_iff.mpr λ_ _=>by decide
  rw[e0]
  have s10:=cS (o:=.lst (([]:List Str).map λe=>V.str e)) n1
  refine⟨l1,_,rfl,.inl (SqL.of cT),_,_,rfl,rfl,_,rfl,eW (λz=>absurd z (by decide)) (λ_=>?_)⟩
  generalize upd H9 l1 _=H10 at s10 ⊢
  have S10:=S9.trans s10
  have dt:∀ q,H10 q=some (.lst [.str (txT ns),.str (fh run)])->Da K H10 (.list [.str (txT ns),.str (fh run)]) (.ref q):=λq hq=>eF.mpr ⟨q,_,rfl,SqL.of hq,Dgs.two (jM.mpr rfl) (jM.mpr rfl)⟩
  refine⟨_,rfl,_,rfl,_,_,dt q5 (s10 _ _ hq5),dt q4 ((s9.trans s10) _ _ hq4),pR so1 so2,pR so1 so2,_,rfl,?_⟩
  rw[kh (pR so1 so2)]
  refine eW (λz=>absurd z (by decide)) (λ_=>?_)
  refine⟨_,rfl,_,rfl,_,rfl,by show 2<=sizeLine;decide,λq6 nq6=>?_⟩
  have s11:=cS (o:=.lst [.ref a,.ref b]) nq6
  have hq6:=cT (H:=H10) (a:=q6) (o:=.lst [.ref a,.ref b])
  generalize upd H10 q6 _=H11 at s11 hq6 ⊢
  have S11:=S10.trans s11
  have uC:=s6.trans (s9.trans (s10.trans s11))
  refine⟨dTR ns run,dTR ns run,eF.mpr ⟨q3,_,rfl,SqL.of (uC _ _ hq3),Dgs.two (fZ (uC _ _ hq1)) (Da.same uC dr)⟩,eF.mpr ⟨q6,_,rfl,SqL.of hq6,Dgs.two (Da.same S11 hu) (Da.same S11 hg)⟩,pQ _ ok1,pQ _ ok1,_,rfl,?_⟩
  rw[kh (pQ _ ok1)]
  refine eW (λz=>absurd z (by decide)) (λ_=>?_)
  have zg:=(s9.trans (s10.trans s11)) _ _ hq4
  clear s11 s10 s9 s6 S10 S9 S6 S3 vf hq5 vg hq6
  refine⟨2,rfl,by decide,by decide,ip (λi σ H4=>∃ x5 x6:Option V,σ = [some (.ref a),some (.ref b),some (.ref q3),some (.ref q4),some (.ref q5),x5,x6]/\dc H11 H4)
   ⟨none,none,rfl,dc.refl _⟩ ?_ ?_⟩
  ·rintro i σ G hi ⟨x5,x6,rfl,S⟩
   have h4:=SqL.of (K:=K) (S _ _ zg)
   refine⟨_,rfl,q4,_,_,_,rfl,rfl,h4,rfl,txT ns,rfl,by omega,⟨λns' e=>?_,λe=>by rw[r1]at e;cases e⟩⟩
   rw[r1]at e
   cases e
   intro t1 G1 g1 nt1 ht1
   refine⟨_,rfl,q4,_,_,_,rfl,rfl,g1.seq h4,rfl,fh run,rfl,by omega,⟨λrun' e=>?_,λe=>by rw[r2]at e;cases e⟩⟩
   rw[r2]at e
   cases e
   intro t2 G2 g2 nt2 R2
   refine⟨by show 2<=sizeLine;decide,λt3 nt3=>?_⟩
   have g3:=cS (o:=.lst [.ref t1,.ref t2]) nt3
   have ht3:=cT (H:=G2) (a:=t3) (o:=.lst [.ref t1,.ref t2])
   obtain⟨vr,ht2,Dr⟩:=R2.ex
   have n12:t1≠t2:=cZ ht1 nt2
   have n13:t1≠t3:=cZ (g2 _ _ ht1) nt3
   have n23:t2≠t3:=cZ ht2 nt3
   generalize upd G2 t3 _=G3 at g3 ht3 ⊢
   have T3:=g1.trans (g2.trans g3)
   have U3:=S11.trans (S.trans T3)
   refine⟨_,rfl,_,rfl,_,rfl,t3,t1,t2,_,_,ns,run,rfl,ht3,(g2.trans g3) _ _ ht1,R2.same g3,Da.same U3 hu,Da.same U3 hg,oN,oK,λG4 g4=>⟨_,rfl,eW (λz=>absurd z (by decide)) (λ_=>?_)⟩⟩
   have T4:=T3.trans g4
   have ht3:=g4 _ _ ht3
   have ht1:=(g2.trans (g3.trans g4)) _ _ ht1
   have ht2:=(g3.trans g4) _ _ ht2
   have vl:vr.length=run.length:=by have:=Dgs.length Dr;rw[aa]at this;exact this
   have r60:=oK.1
   have n40:=oN.1
   have f1:G t1=none:=nt1
   have f2:G t2=none:=dc.free g1 nt2
   refine⟨_,rfl,t3,_,_,_,rfl,rfl,SqL.of ht3,rfl,.inl ⟨rfl,_,SqL.of ht1⟩,t1,_,_,rfl,rfl,ht1,eS (by rw[aa];omega),?_⟩
   have A1:=dc.upd (o:=.lst (ns.map V.int ++ [V.int 0])) T4 f1
   have a3:upd G4 t1 (.lst (ns.map V.int ++ [V.int 0])) t3=some (.lst [.ref t1,.ref t2]):=by rw[dj (cA n13)];exact ht3
   have a2:upd G4 t1 (.lst (ns.map V.int ++ [V.int 0])) t2=some (.lst vr):=by rw[dj (cA n12)];exact ht2
   generalize upd G4 t1 _=G5 at A1 a3 a2 ⊢
   refine⟨_,rfl,t3,_,_,_,rfl,rfl,SqL.of a3,rfl,.inl ⟨rfl,_,SqL.of a2⟩,by show 2<=sizeLine;decide,λt4 nt4=>?_⟩
   have s5:=cS (o:=.tup [.str "on",.int 0]) nt4
   refine⟨t2,_,_,rfl,rfl,s5 _ _ a2,eS (by omega),?_⟩
   exact⟨_,_,rfl,S.trans (dc.upd (A1.trans s5) f2)⟩
  ·rintro σ G ⟨x5,x6,rfl,S⟩
   exact k _ (S11.trans S)
end
theorem mO {K:PySem.W.Frag}{H:Hp} :∀ {run:List (Str×Int)}{vs:List V},Das K H (run.map dM) vs->Dgs NoL (SqT K H) (run.map dM) vs
 |[],vs,h=>h
 |k::r,vs,h=>by
  obtain⟨v,us,rfl,h1,h2⟩:=dD.mp h
  obtain⟨a,rfl,ha⟩:=sI h1
  exact dD.mpr ⟨_,_,rfl,eA.mpr ⟨a,_,rfl,ha,Dgs.two (jM.mpr rfl) (eO.mpr rfl)⟩,mO h2⟩
structure TupOk (K:PySem.W.Frag)(H:Hp)(t ad:Addr)(ns:List Int)(run:List (Str×Int)):Prop where
 ex:∃ u q vs,H ad=some (.tup [.ref u,.ref q])/\u≠t/\H u=some (.lst (ns.map V.int))/\q≠t/\H q=some (.lst vs)/\Dgs NoL (SqT K H) (run.map dM) vs
 ne:ns≠ []
 oN:OkN ns
 oK:OkK run
theorem TupOk.same {K:PySem.W.Frag}{H H':Hp}{t ad:Addr}{ns:List Int}{run:List (Str×Int)}(h:TupOk K H t ad ns run)(s:dc H H'):TupOk K H' t ad ns run:=by
 obtain⟨u,q,vs,h1,h6,h7,h8,h9,h10⟩:=h.ex
 exact⟨⟨u,q,vs,s _ _ h1,h6,s _ _ h7,h8,s _ _ h9,Dgs.mono (λ_ _ h=>h) (λ_ _ h=>fT s h) h10⟩,h.ne,h.oN,h.oK⟩
theorem TupOk.upd {K:PySem.W.Frag}{H:Hp}{t ad:Addr}{ns:List Int}{run:List (Str×Int)}{zs ws:List V}(h:TupOk K H t ad ns run)(ht:H t=some (.lst zs)):TupOk K (L2.upd H t (.lst ws)) t ad ns run:=by
 obtain⟨u,q,vs,h1,h6,h7,h8,h9,h10⟩:=h.ex
 have n1:ad≠t:=λe=>by rw[e,ht]at h1;cases h1
 exact⟨⟨u,q,vs,by rw[dj n1];exact h1,h6,by rw[dj h6];exact h7,h8,by rw[dj h8];exact h9,Dgs.mono (λ_ _ h=>h) (λ_ _ h=>je ht h) h10⟩,h.ne,h.oN,h.oK⟩
def m9 (K:PySem.W.Frag):Sp:=λvs H Q _=>∃ (a:Addr) (ns:List Int),vs = [.ref a]/\SqL K H a (ns.map V.int)/\∀ H',Q (.bl true) H'
theorem tH {l:Ln}(L:jI l):fO l:=by
 obtain⟨h1,h2,h3,h4,h5⟩:=L
 exact⟨h1,h2,h3,λe=>ba (inc_le l.2 e) (by omega),λp hp=>⟨(h4 p hp).1.1,(h4 p hp).2.2.1,(h4 p hp).2.1.2⟩⟩
abbrev mG:Stmt:=top 31
theorem jH:dE ["_law_script","_law_some","_law_start","_law_line_here","_law_train_here","_law_run_here"] ["_law_script"] (cW mG):=⟨rfl,rfl,rfl,by decide +kernel,rfl,by decide +kernel,by decide +kernel⟩
section
variable {P:Program}{w:World}{K:PySem.W.Frag}{mg:Str->Option Value}{base:Heap}{f:Addr}{fd:FuncData}
theorem uO {f1 f2 f3 f4 f5 f6:Addr}{fd1 fd2 fd3 fd4 fd5 fd6:FuncData}(F:Fn K mg "law" mG ["_law_script"] f fd)(B:Bm mg)
  (gk:Fn K mg "_law_line" ix ["_law_script","_law_start","_law_most","_law_upto"] f1 fd1) (jS:dw P w K mg base CX0 2 f1 fd1 ["_law_script","_law_start","_law_most","_law_upto"] (qg K))
  (dg:Fn K mg "_law_cell_at" fk ["_law_script","_law_k"] f2 fd2) (de:Fn K mg "_law_mix" fV ["_law_cell","_law_k"] f3 fd3)
  (fz:Fn K mg "_law_train" fv ["_law_line_here","_law_number","_law_most"] f4 fd4) (i9:dw P w K mg base CX0 2 f4 fd4 ["_law_line_here","_law_number","_law_most"] (om K))
  (gJ:Fn K mg "_law_run" jg ["_law_line_here","_law_train_here","_law_number","_law_most"] f5 fd5) (kM:dw P w K mg base CX0 3 f5 fd5 ["_law_line_here","_law_train_here","_law_number","_law_most"] (rE K))
  (gm:Fn K mg "_law_good" gP ["_law_train_here","_law_run_here"] f6 fd6) (jT:dw P w K mg base CX0 5 f6 fd6 ["_law_train_here","_law_run_here"] (qi K)):dw P w K mg base CX0 6 f fd ["_law_script"] (m9 K):=by
 have fc:dw P w K mg base CX0 1 f3 fd3 ["_law_cell","_law_k"] lC:=iB de B.toBl
 have fo:dw P w K mg base CX0 1 f2 fd2 ["_law_script","_law_k"] (nc K):=iT dg B.toBl
 refine F.F.ok jH (λvs H Q E h=>?_) (λcdv A outer s H vs Q E hr h=>?_)
 ·obtain⟨a,ns,rfl,_⟩:=h;rfl
 ·obtain⟨a,ns,rfl,hS,k⟩:=h
  refine⟨_,(cV (dS (i:=1) jH.nd rfl (Or.inl rfl) (eJ cR))
 (cV (iz bL rfl (eD (eJ (cQ cU (cQ cU cR)))) (dC (i:=2) jH.nd rfl (Or.inl rfl))
 (cV (dS (i:=3) jH.nd rfl (Or.inl rfl) (di jS (hr.mono (by decide)) rfl gk.m gk.F.kp gk.b .nil d5 (cQ (pv 0) (cQ (pv 2) (cQ cU (cQ cU cR))))))
 (cV (dS (i:=4) jH.nd rfl (Or.inl rfl) (di i9 (hr.mono (by decide)) rfl fz.m fz.F.kp fz.b .nil d5 (cQ (pv 3) (cQ (di fc (hr.mono (by decide)) rfl de.m de.F.kp de.b .nil d5 (cQ (di fo (hr.mono (by decide)) rfl dg.m dg.F.kp dg.b .nil d5 (cQ (pv 0) (cQ (cY eN (pv 2) cU) cR))) (cQ cU cR))) (cQ cU cR)))))
 (cX (hG (hJ bp bx bw eY (pv 1) (cQ (gR (cQ (pv 4) (cQ (di kM (hr.mono (by decide)) rfl gJ.m gJ.F.kp gJ.b .nil d5 (cQ (pv 3) (cQ (pv 4) (cQ (di fc (hr.mono (by decide)) rfl de.m de.F.kp de.b .nil d5 (cQ (di fo (hr.mono (by decide)) rfl dg.m dg.F.kp dg.b .nil d5 (cQ (pv 0) (cQ (cY eN (pv 2) cU) cR))) (cQ cU cR))) (cQ cU cR))))) cR))) cR)))))))
 (cV (iz bL rfl (eD (eJ (cQ (eh dO (pv 1) cU (λ_ _=>rfl)) (cQ (eh dO (pv 1) cU (λ_ _=>rfl)) (cQ (eh dO (pv 1) cU (λ_ _=>rfl)) cR))))) (kD (n:=2) rfl (eQ (dC (i:=4) jH.nd rfl (Or.inl rfl)) (eQ (dC (i:=5) jH.nd rfl (Or.inl rfl)) ji)))
 (cX (fi (gQ (iy (di jT (hr.mono (by decide)) rfl gm.m gm.F.kp gm.b .nil d5 (cQ (pv 4) (cQ (pv 5) cR)))))
 (cX (dG lK)) dU)))
 (cX (dG lK))))),?_⟩
  refine⟨aQ _,λt nt=>?_⟩
  have s1:=cS (o:=.lst []) nt
  have ht:=cT (H:=H) (a:=t) (o:=.lst [])
  generalize upd H t _=H1 at s1 ht ⊢
  refine⟨by show 2<=sizeLine;decide,λq0 nq0=>?_⟩
  have s2:=cS (o:=.lst [.int 0,.int 20]) nq0
  have hq0:=cT (H:=H1) (a:=q0) (o:=.lst [.int 0,.int 20])
  have ht2:=s2 _ _ ht
  generalize upd H1 q0 _=H2 at s2 hq0 ht2 ⊢
  have ntq:q0≠t:=λe=>by rw[e,ht2]at hq0;cases hq0
  refine⟨q0,rfl,⟨_,SqL.of hq0⟩,kg (K:=K) (a:=q0) (xs:=[.int 0,.int 20]) (λi σ H3=>∃ (as:List Addr) (x2 x3 x4:Option V),σ = [some (.ref a),some (.ref t),x2,x3,x4,none]/\dc H H3/\H3 q0=some (.lst [.int 0,.int 20])/\H3 t=some (.lst (as.map V.ref))/\as.length=i/\∀ ad∈as,∃ ns run,TupOk K H3 t ad ns run)
   ⟨[],none,none,none,rfl,s1.trans s2,hq0,ht2,rfl,λad h=>nomatch h⟩ (λi σ H3 _ ⟨_,_,_,_,_,_,h,_⟩=>SqL.of h) ?_ ?_⟩
  ·rintro i y σ H3 hi ⟨as,x2,x3,x4,rfl,S3,hq3,ht3,al,A3⟩
   have hi2:i<2:=(aC.mp hi).1
   obtain⟨n,rfl,n0,n1⟩:∃ n:Int,y = .int n/\0<=n/\n<=20:=by
    have hm:=aF hi
    simp only[aG,b6,or_false]at hm
    rcases hm with rfl |rfl
    ·exact⟨0,rfl,by decide,by decide⟩
    ·exact⟨20,rfl,by decide,by decide⟩
   refine⟨_,rfl,_,rfl,a,ns,n,40,80,rfl,S3.seq hS,n0,by decide,by decide,by decide,by decide,λp tt us l H4 s4 np ntt hp htt D L lm lu=>?_⟩
   have ok:fO l:=tH L
   have hnp:=L.ne
   have m40:=ok.most
   have dl4:Da K H4 (dL l) (.ref p):=rf hp (D.da htt)
   refine⟨_,rfl,_,rfl,_,rfl,_,_,rfl,rfl,a,ns,_,rfl,(S3.trans s4).seq hS,by show(0:Int)<=n+12;omega,λc5=>⟨c5,0,rfl,by decide,by decide,λn2 n20 _=>?_⟩⟩
   refine⟨_,l,n2,40,rfl,dl4,ok,hnp,n20,by decide,by decide,λpt tns H5 s5 npt hpt hne tl T=>?_⟩
   have S5:=S3.trans (s4.trans s5)
   refine⟨_,rfl,.inl ⟨rfl,_,SqL.of ((s4.trans s5) _ _ ht3)⟩,_,rfl,_,rfl,_,rfl,_,rfl,_,rfl,_,_,rfl,rfl,a,ns,_,rfl,S5.seq hS,by show(0:Int)<=n+13;omega,λc6=>⟨c6,0,rfl,by decide,by decide,λn3 n30 _=>?_⟩⟩
   refine⟨_,_,l,tns,n3,60,rfl,Da.same s5 dl4,fZ hpt,ok,hnp,hne,by omega,n30,by decide,by decide,λq run b H6 s6 nq R rl ST=>?_⟩
   refine⟨by show 2<=sizeLine;decide,λad nad=>?_⟩
   have s7:=cS (o:=.tup [.ref pt,.ref q]) nad
   have had:=cT (H:=H6) (a:=ad) (o:=.tup [.ref pt,.ref q])
   generalize upd H6 ad _=H7 at s7 had ⊢
   have T7:=s4.trans (s5.trans (s6.trans s7))
   have ht7:=T7 _ _ ht3
   refine⟨t,_,_,rfl,rfl,ht7,eS (by rw[aa];omega),?_⟩
   obtain⟨⟨vq,hq,dq⟩,_⟩:=R
   have hT:TupOk K H7 t ad tns run:=by
    refine⟨⟨pt,q,vq,had,(cZ (s4 _ _ ht3) npt).symm,(s6.trans s7) _ _ hpt,(cZ ((s4.trans s5) _ _ ht3) nq).symm,s7 _ _ hq,?_⟩,hne,⟨by omega,λe he=>by have:=T.ends e he;omega⟩,⟨by omega,λkq hk=>by have:=ST.words ok kq hk;exact⟨this.1,this.2.1,by omega⟩⟩⟩
    exact mO (Das.same (kc.trans s7) dq)
   refine⟨as ++ [ad],_,_,_,rfl,dc.upd (S3.trans T7) nt,by rw[dj ntq];exact T7 _ _ hq3,by rw[cT,aZ];rfl,by rw[aY,al];rfl,λx hx=>?_⟩
   rcases aI.mp hx with z |z
   ·obtain⟨ns',run',h'⟩:=A3 x z
    exact⟨ns',run',(h'.same T7).upd ht7⟩
   ·rw[aS.mp z]
    exact⟨tns,run,hT.upd ht7⟩
  rintro σ H3 ⟨as,x2,x3,x4,rfl,S3,hq3,ht3,al,A3⟩
  have al:as.length=2:=al
  obtain⟨a0,a1,rfl⟩:∃ a0 a1,as = [a0,a1]:=by
   match as,al with
   |[a0,a1],_=>exact⟨a0,a1,rfl⟩
  refine⟨_,rfl,t,_,_,_,rfl,rfl,SqL.of ht3,hV (j:=0) rfl,_,rfl,t,_,_,_,rfl,rfl,SqL.of ht3,hV (j:=1) rfl,_,rfl,t,_,_,_,rfl,rfl,SqL.of ht3,hV (j:=0) rfl,by show 3<=sizeLine;decide,λg ng=>?_⟩
  have s4:=cS (o:=.lst [.ref a0,.ref a1,.ref a0]) ng
  have hg:=cT (H:=H3) (a:=g) (o:=.lst [.ref a0,.ref a1,.ref a0])
  generalize upd H3 g _=H4 at s4 hg ⊢
  refine⟨g,rfl,⟨_,SqL.of hg⟩,kg (K:=K) (a:=g) (xs:=[.ref a0,.ref a1,.ref a0]) (λi σ H5=>∃ (x4 x5:Option V),σ = [some (.ref a),some (.ref t),x2,x3,x4,x5]/\dc H4 H5)
   ⟨_,_,rfl,dc.refl _⟩ (λi σ H5 _ ⟨_,_,_,S⟩=>SqL.of (S _ _ hg)) ?_ ?_⟩
  ·rintro i y σ H5 hi ⟨x4,x5,rfl,S5⟩
   obtain⟨ad,rfl,tns,run,hT⟩:∃ ad,y = .ref ad/\∃ ns run,TupOk K H3 t ad ns run:=by
    have hm:=aF hi
    simp only[aG,b6,or_false]at hm
    rcases hm with rfl |rfl |rfl
    ·exact⟨a0,rfl,A3 a0 (by simp)⟩
    ·exact⟨a1,rfl,A3 a1 (by simp)⟩
    ·exact⟨a0,rfl,A3 a0 (by simp)⟩
   have hT5:=hT.same (s4.trans S5)
   obtain⟨u,q,vs,h1,h6,h7,h8,h9,h10⟩:=hT5.ex
   refine⟨ad,_,rfl,SqT.of h1,rfl,_,_,rfl,_,_,rfl,rfl,?_⟩
   refine⟨_,rfl,_,rfl,_,_,tns,run,rfl,fZ h7,eF.mpr ⟨q,vs,rfl,SqL.of h9,Dgs.mono (λ_ _ h=>h.elim) (λ_ _ h=>h) h10⟩,hT.ne,hT.oN,hT.oK,λkq hk=>jD (hT.oK.2 kq hk).1,λH6 s6=>⟨_,rfl,zd ?_⟩⟩
   exact⟨_,_,rfl,S5.trans s6⟩
  ·rintro σ H5 ⟨x4,x5,rfl,S5⟩
   exact k _
end
structure En (K:PySem.W.Frag)(x:Str)(st:Stmt)(f:Addr)(oc:Value)(od:Option Addr)(osl:Array (Option Value))(kV doc pm:Value)(an:Option Addr)(cdv ct:Value):Prop where
 a:PySem.W.nsIn K mainGlobals x=some (some (.ref f))
 l:K.lookup f=some ⟨oc,od,.func (PySem.W.fnOf x x (hU st) (gp st) (cW st) .none kV doc pm an cdv ct),osl⟩
 c:PySem.W.codeIn K cdv x=true
 k:PySem.W.keepIn K (.ref f)=true
theorem eT {K:PySem.W.Frag}{h:Heap}{mg:Str->Option Value}{x:Str}{st:Stmt}{ps:List Str}{f:Addr}{oc:Value}{od an:Option Addr}{osl:Array (Option Value)}{kV doc pm cdv ct:Value}(X:K.In h)(G:h.Ns mainGlobals mg)(e:En K x st f oc od osl kV doc pm an cdv ct)
  (hb:∀ (kV doc pm:Value) (an:Option Addr) (cdv ct:Value) (us:List Value),us.length=ps.length->bindArgs (PySem.W.fnOf x x (hU st) (gp st) (cW st) .none kV doc pm an cdv ct) ⟨us,[]⟩=pure (ps.zip us)):
  Fn K mg x st ps f (PySem.W.fnOf x x (hU st) (gp st) (cW st) .none kV doc pm an cdv ct):=⟨sv (st:=st) e.l e.c e.k,PySem.W.mg_of X G e.a,(sv (st:=st) e.l e.c e.k).binds (ps:=ps) hb⟩
theorem bn1 {F:FuncData}{p:List Str}(k:∀ a0,bindArgs F ⟨[a0],[]⟩=pure (p.zip [a0]))(us:List Value)(h:us.length=1):bindArgs F ⟨us,[]⟩=pure (p.zip us):=match us,h with |[a0],_=>k a0
theorem bn2 {F:FuncData}{p:List Str}(k:∀ a0 a1,bindArgs F ⟨[a0,a1],[]⟩=pure (p.zip [a0,a1]))(us:List Value)(h:us.length=2):bindArgs F ⟨us,[]⟩=pure (p.zip us):=match us,h with |[a0,a1],_=>k a0 a1
theorem bn3 {F:FuncData}{p:List Str}(k:∀ a0 a1 a2,bindArgs F ⟨[a0,a1,a2],[]⟩=pure (p.zip [a0,a1,a2]))(us:List Value)(h:us.length=3):bindArgs F ⟨us,[]⟩=pure (p.zip us):=match us,h with |[a0,a1,a2],_=>k a0 a1 a2
theorem bn4 {F:FuncData}{p:List Str}(k:∀ a0 a1 a2 a3,bindArgs F ⟨[a0,a1,a2,a3],[]⟩=pure (p.zip [a0,a1,a2,a3]))(us:List Value)(h:us.length=4):bindArgs F ⟨us,[]⟩=pure (p.zip us):=match us,h with |[a0,a1,a2,a3],_=>k a0 a1 a2 a3
theorem all_mk {l:PySem.W.OpenLaw}{w:World}{K:PySem.W.Frag}{h:Heap}{mg:Str->Option Value}{fa f1 f2 f3 f4 f5 f6 f7 f8 f9 f10 f11 f12 f13 f14 f15 f16 f17 f18 f19 f20 f21 f22 f23 f24:Addr}(X:K.In h)(G:h.Ns mainGlobals mg)(hfa:mg "law" = some (.ref fa))
  {od1 an1 od2 an2 od3 an3 od4 an4 od5 an5 od6 an6 od7 an7 od8 an8 od9 an9 yu AH yt AG yr AF yq AE yp AD yo AB yn AA ym Az yl Ay yk Ax yj Aw yi Av yh Au yg As yf wZ:Option Addr}{sl1 sl2 sl3 sl4 sl5 sl6 sl7 sl8 sl9 xG xF xE xD xC xB xA xy xx xw xu xt xr xq xp:Array (Option Value)}{oc1 kV1 dc1 pm1 cd1 ct1 oc2 kV2 dc2 pm2 cd2 ct2 oc3 kV3 dc3 pm3 cd3 ct3 oc4 kV4 dc4 pm4 cd4 ct4 oc5 kV5 dc5 pm5 cd5 ct5 oc6 kV6 dc6 pm6 cd6 ct6 oc7 kV7 dc7 pm7 cd7 ct7 oc8 kV8 dc8 pm8 cd8 ct8 oc9 kV9 dc9 pm9 cd9 ct9 yK y8 zN yd Ap Ab yJ y7 zM yc Ao Aa yI y4 zL yb An zZ yH y3 zK ya Am zY yG yZ zJ xZ Al zX yF yY zI xY Ak zW yE yX zH xX Aj zV yD yW zG xW Ai zU yC yV zF xV Ah zT yB yU zE xU Ag zS yA yT zD xT Af zR yz yS zC xS Ae zQ yx yR zB xR Ad zP yw yQ zA xQ Ac zO yv wx wR v8 wX wV:Value}
  (e1:En K "piece_of" iw f1 oc1 od1 sl1 kV1 dc1 pm1 an1 cd1 ct1)
  (e2:En K "show_end" gM f2 oc2 od2 sl2 kV2 dc2 pm2 an2 cd2 ct2)
  (e3:En K "show_train" fH f3 oc3 od3 sl3 kV3 dc3 pm3 an3 cd3 ct3)
  (e4:En K "show_run" gL f4 oc4 od4 sl4 kV4 dc4 pm4 an4 cd4 ct4)
  (e5:En K "read_number" fj f5 oc5 od5 sl5 kV5 dc5 pm5 an5 cd5 ct5)
  (e6:En K "read_end" gO f6 oc6 od6 sl6 kV6 dc6 pm6 an6 cd6 ct6)
  (e7:En K "read_train" fI f7 oc7 od7 sl7 kV7 dc7 pm7 an7 cd7 ct7)
  (e8:En K "read_move" g0 f8 oc8 od8 sl8 kV8 dc8 pm8 an8 cd8 ct8)
  (e9:En K "read_run" gN f9 oc9 od9 sl9 kV9 dc9 pm9 an9 cd9 ct9)
  (e10:En K "_law_cell_at" fk f10 yK yu xG y8 zN yd AH Ap Ab)
  (e11:En K "_law_mix" fV f11 yJ yt xF y7 zM yc AG Ao Aa)
  (e12:En K "_law_whole" g9 f12 yI yr xE y4 zL yb AF An zZ)
  (e13:En K "_law_other" gr f13 yH yq xD y3 zK ya AE Am zY)
  (e14:En K "_law_line" ix f14 yG yp xC yZ zJ xZ AD Al zX)
  (e15:En K "_law_joined" eX f15 yF yo xB yY zI xY AB Ak zW)
  (e16:En K "_law_train" fv f16 yE yn xA yX zH xX AA Aj zV)
  (e17:En K "_law_moves" gu f17 yD ym xy yW zG xW Az Ai zU)
  (e18:En K "_law_run" jg f18 yC yl xx yV zF xV Ay Ah zT)
  (e19:En K "_law_end_text" eV f19 yB yk xw yU zE xU Ax Ag zS)
  (e20:En K "_law_train_text" eI f20 yA yj xu yT zD xT Aw Af zR)
  (e21:En K "_law_run_text" eU f21 yz yi xt yS zC xS Av Ae zQ)
  (e22:En K "_law_same" fU f22 yx yh xr yR zB xR Au Ad zP)
  (e23:En K "_law_good" gP f23 yw yg xq yQ zA xQ As Ac zO)
  (e24:En K "law" mG f24 yv yf xp wx wR v8 wZ wX wV)
  (z1:PySem.W.nsIn K mainGlobals "len" = some none) (z2:PySem.W.nsIn K mainGlobals "range" = some none) (z3:PySem.W.nsIn K mainGlobals "sorted" = some none) (z4:PySem.W.nsIn K mainGlobals "enumerate" = some none) (z5:PySem.W.nsIn K mainGlobals "reversed" = some none) (z6:PySem.W.nsIn K mainGlobals "min" = some none) (z7:PySem.W.nsIn K mainGlobals "max" = some none) (z8:PySem.W.nsIn K mainGlobals "list" = some none) (z9:PySem.W.nsIn K mainGlobals "int" = some none) (z10:PySem.W.nsIn K mainGlobals "isinstance" = some none) (z11:PySem.W.nsIn K mainGlobals "zip" = some none) (z12:PySem.W.nsIn K mainGlobals "sum" = some none) (z13:PySem.W.nsIn K mainGlobals "all" = some none) (z14:PySem.W.nsIn K mainGlobals "set" = some none) (z15:PySem.W.nsIn K mainGlobals "tuple" = some none) (z16:PySem.W.nsIn K mainGlobals "abs" = some none) (z17:PySem.W.nsIn K mainGlobals "bool" = some none) (z18:PySem.W.nsIn K mainGlobals "dict" = some none) (z19:PySem.W.nsIn K mainGlobals "str" = some none)
  {E0:Addr} (xo0:p9 K "NoText" E0)
  {tk0:Tok} (ck0:PySem.W.nsIn K mainGlobals "FIGURES" = some (some (.str "0123456789" tk0)))
  {tk1:Tok} (ck1:PySem.W.nsIn K mainGlobals "MOST_FIGURES" = some (some (.int 40 tk1))):
  ∃ fd:FuncData,(∀ (s:Shared) (v:Value),BindsTo s fd ⟨[v],[]⟩ [("_law_script",v)])/\∀ base:Heap,K.In base->base.Ns mainGlobals mg->dw l.prog w K mg base CX0 6 fa fd ["_law_script"] (m9 K):=by
 have e:=hfa.symm.trans (PySem.W.mg_of X G e24.a)
 cases e
 have B:Bm mg:=⟨⟨aD X G z1,aD X G z2,aD X G z3,aD X G z4,aD X G z5,aD X G z6,aD X G z7,aD X G z8,aD X G z9,aD X G z10⟩,aD X G z11,aD X G z12,aD X G z13,aD X G z14,aD X G z15,aD X G z16,aD X G z17,aD X G z18,aD X G z19⟩
 have X0:=xo0.xc X G
 have C2:Ct mg tk0 tk1:=⟨PySem.W.mg_of X G ck0,PySem.W.mg_of X G ck1⟩
 have gi:=eT (ps:=["end"]) X G e1 λ_ _ _ _ _ _=>bn1 (λ_=>rfl)
 have d9:=eT (ps:=["end"]) X G e2 λ_ _ _ _ _ _=>bn1 (λ_=>rfl)
 have fe:=eT (ps:=["train"]) X G e3 λ_ _ _ _ _ _=>bn1 (λ_=>rfl)
 have gg:=eT (ps:=["run"]) X G e4 λ_ _ _ _ _ _=>bn1 (λ_=>rfl)
 have eR:=eT (ps:=["text"]) X G e5 λ_ _ _ _ _ _=>bn1 (λ_=>rfl)
 have ed:=eT (ps:=["text"]) X G e6 λ_ _ _ _ _ _=>bn1 (λ_=>rfl)
 have fg:=eT (ps:=["text"]) X G e7 λ_ _ _ _ _ _=>bn1 (λ_=>rfl)
 have fw:=eT (ps:=["word","end"]) X G e8 λ_ _ _ _ _ _=>bn2 (λ_ _=>rfl)
 have gh:=eT (ps:=["text"]) X G e9 λ_ _ _ _ _ _=>bn1 (λ_=>rfl)
 have dg:=eT (ps:=["_law_script","_law_k"]) X G e10 λ_ _ _ _ _ _=>bn2 (λ_ _=>rfl)
 have de:=eT (ps:=["_law_cell","_law_k"]) X G e11 λ_ _ _ _ _ _=>bn2 (λ_ _=>rfl)
 have eC:=eT (ps:=["_law_found"]) X G e12 λ_ _ _ _ _ _=>bn1 (λ_=>rfl)
 have dF:=eT (ps:=["_law_end"]) X G e13 λ_ _ _ _ _ _=>bn1 (λ_=>rfl)
 have gk:=eT (ps:=["_law_script","_law_start","_law_most","_law_upto"]) X G e14 λ_ _ _ _ _ _=>bn4 (λ_ _ _ _=>rfl)
 have dy:=eT (ps:=["_law_line_here","_law_end"]) X G e15 λ_ _ _ _ _ _=>bn2 (λ_ _=>rfl)
 have fz:=eT (ps:=["_law_line_here","_law_number","_law_most"]) X G e16 λ_ _ _ _ _ _=>bn3 (λ_ _ _=>rfl)
 have fC:=eT (ps:=["_law_line_here","_law_train_here"]) X G e17 λ_ _ _ _ _ _=>bn2 (λ_ _=>rfl)
 have gJ:=eT (ps:=["_law_line_here","_law_train_here","_law_number","_law_most"]) X G e18 λ_ _ _ _ _ _=>bn4 (λ_ _ _ _=>rfl)
 have dz:=eT (ps:=["_law_end"]) X G e19 λ_ _ _ _ _ _=>bn1 (λ_=>rfl)
 have d8:=eT (ps:=["_law_train_here"]) X G e20 λ_ _ _ _ _ _=>bn1 (λ_=>rfl)
 have eL:=eT (ps:=["_law_run_here"]) X G e21 λ_ _ _ _ _ _=>bn1 (λ_=>rfl)
 have gj:=eT (ps:=["_law_found","_law_train_here","_law_run_here"]) X G e22 λ_ _ _ _ _ _=>bn3 (λ_ _ _=>rfl)
 have gm:=eT (ps:=["_law_train_here","_law_run_here"]) X G e23 λ_ _ _ _ _ _=>bn2 (λ_ _=>rfl)
 have w5:=eT (ps:=["_law_script"]) X G e24 λ_ _ _ _ _ _=>bn1 (λ_=>rfl)
 refine⟨PySem.W.fnOf "law" "law" (hU mG) (gp mG) (cW mG) .none wx wR v8 wZ wX wV,λs v=>.of_eq rfl,λbase _ _=>?_⟩
 have jS:dw l.prog w K mg base CX0 2 _ _ _ _:=oO gk de dg B.toBl
 have ie:dw l.prog w K mg base (CXr l.prog w base) 1 _ _ _ _:=lN eR B C2 ⟨X0⟩
 have gd:dw l.prog w K mg base (CXr l.prog w base) 2 _ _ _ _:=oI ed ⟨X0⟩ eR ie
 have iG:dw l.prog w K mg base (CXr l.prog w base) 3 _ _ _ _:=mn fg ed gd
 have i8:dw l.prog w K mg base (CXr l.prog w base) 3 _ _ _ _:=nE fw ⟨X0⟩ ed gd
 have jQ:dw l.prog w K mg base (CXr l.prog w base) 4 _ _ _ _:=oH gh B ⟨X0⟩ fw i8
 have gc:dw l.prog w K mg base CX0 2 _ _ _ _:=oG d9 gi
 have iF:dw l.prog w K mg base CX0 3 _ _ _ _:=mm fe d9 gc
 have jP:dw l.prog w K mg base CX0 3 _ _ _ _:=oF gg d9 gc
 have i9:dw l.prog w K mg base CX0 2 _ _ _ _:=nG fz de dF dy B.toBl
 have jc:dw l.prog w K mg base CX0 2 _ _ _ _:=nH fC dF dy B.toBl
 have kM:dw l.prog w K mg base CX0 3 _ _ _ _:=pO gJ B de fC jc
 have gf:dw l.prog w K mg base CX0 2 _ _ _ _:=j7 d8 B dz
 have gX:dw l.prog w K mg base CX0 2 _ _ _ _:=lh eL B dz
 have jR:dw l.prog w K mg base CX0 2 _ _ _ _:=oM gj B eC
 have jT:dw l.prog w K mg base CX0 5 _ _ _ _:=oP gm B d8 gf eL gX fe iF gg jP fg iG gh jQ gj jR
 exact uO w5 B gk jS dg de fz i9 gJ kM gm jT
theorem walk {l:PySem.W.OpenLaw}{q:Program}{loose:List Str}{XP:(Str->Option Value)->Heap->Prop}{YP:World->Heap->Prop}{d:DefRec}{K:Params->PySem.W.Frag}(hn:l.most=some 63)(hdf:d.params.defaults = [])
  (hY:∀ (w:World) (h:Heap),YP w h->(K w.params).In h)
  (F:∀ (w:World) (mg:Str->Option Value) (fa:Addr) (h:Heap),(K w.params).In h->h.Ns mainGlobals mg->mg d.name=some (.ref fa)->
   ∃ fd:FuncData,(∀ (s:Shared) (u:Value),BindsTo s fd ⟨[u],[]⟩ [("_law_script",u)])/\∀ base:Heap,(K w.params).In base->base.Ns mainGlobals mg->dw l.prog w (K w.params) mg base CX0 6 fa fd ["_law_script"] (m9 (K w.params))):
  PySem.W.WalkO q loose XP YP l.row.toRowW d [] (λf vs=>PySem.call f vs):=
 L2.sU (n:=63) (k:=6) (x:= "_law_script") (CX:=λ_=>CX0) (sp:=λw=>m9 (K w.params)) hn (by decide) hdf ⟨rfl,by decide,by decide⟩ hY F (λ_ _ a ns hl _ hS=>⟨a,ns,rfl,hS,λ_=>rfl⟩) λ_ _ _ _ _ z=>z
end K72
namespace PySem.W.Fast
def tw10110934076184565362:=0
def tw10396724625525182261:=0
def tw10542676286388301388:=0
def tw10544709643384942776:=0
def tw10781105374791023529:=0
def tw10938841742193520942:=0
def tw11073680929574558392:=0
def tw11077554168042504054:=0
def tw11278138306830079379:=0
def tw11510024066674901064:=0
def tw1161207768361447135:=0
def tw11703913655043964666:=0
def tw11743459321658350308:=0
def tw11758261334764534493:=0
def tw11966598486193284911:=0
def tw12104404410863411386:=0
def tw12161099705027327662:=0
def tw12213383047016687448:=0
def tw12410033965703872089:=0
def tw12513423543989542121:=0
def tw12657259636564844969:=0
def tw12667528769356163183:=0
def tw12741812572758293795:=0
def tw12787447034832247353:=0
def tw12795860131726751634:=0
def tw12893946017243170503:=0
def tw1289971157669935175:=0
def tw12984226709082250891:=0
def tw13072187745505175300:=0
def tw13083652161813411104:=0
def tw1313339256038106269:=0
def tw13298182160970672503:=0
def tw13479954166399117988:=0
def tw1367809099274085074:=0
def tw13778258575624042292:=0
def tw13795800253218667275:=0
def tw13840239532499230078:=0
def tw13890413885427418436:=0
def tw13994615897053507940:=0
def tw14066373340234999333:=0
def tw14081040513311291665:=0
def tw14115857120233138009:=0
def tw1424084650275884065:=0
def tw14270422211078470272:=0
def tw14404382483257041079:=0
def tw14588958225773608910:=0
def tw14704521187352719949:=0
def tw14821839544904470659:=0
def tw14853187598199817633:=0
def tw15138669251467787946:=0
def tw15265038181383816792:=0
def tw15344272576839052958:=0
def tw15356200720852002039:=0
def tw15374487120038856830:=0
def tw15561051593184295995:=0
def tw15568773190954132850:=0
def tw15669888558161863525:=0
def tw15691178538906176041:=0
def tw15753951542289931130:=0
def tw15809888949248124157:=0
def tw15948840829480657868:=0
def tw16048477758258539423:=0
def tw16100371067283910415:=0
def tw16170685745224837186:=0
def tw16246558320439270598:=0
def tw16273659424662321282:=0
def tw16506324539106680964:=0
def tw1672547682151163607:=0
def tw16783436782888220353:=0
def tw16787132963766008633:=0
def tw16954365817079231957:=0
def tw16961770883339652769:=0
def tw17036270662024426026:=0
def tw17243873475665073471:=0
def tw1728085106934094354:=0
def tw17339743973281057718:=0
def tw17471083705592587097:=0
def tw17636416019377427052:=0
def tw17733245764916760522:=0
def tw17931746396404394257:=0
def tw1802134408941831607:=0
def tw18094493278468769653:=0
def tw18346401105742185539:=0
def tw1846333693534256847:=0
def tw2003471166725355874:=0
def tw2102117985740352285:=0
def tw2135391629736335153:=0
def tw2244271997961019623:=0
def tw2254784367438399064:=0
def tw2277925540103920709:=0
def tw229852772536514854:=0
def tw2545114256274042175:=0
def tw254765979453638244:=0
def tw2556147978393254211:=0
def tw2645729418720199635:=0
def tw2747976439619050175:=0
def tw2774656659662626604:=0
def tw2789494922101749527:=0
def tw28019222893616588:=0
def tw2980677579501659613:=0
def tw3254666708363816366:=0
def tw3513932497607130287:=0
def tw3568233020251256128:=0
def tw3767262390907717923:=0
def tw3943659580356184187:=0
def tw4015209646934227596:=0
def tw4143757258582245834:=0
def tw4151795566948358573:=0
def tw4217376108066654993:=0
def tw4448300963481706508:=0
def tw4583602549546793922:=0
def tw462930509189787661:=0
def tw4645487598856812615:=0
def tw4750139316416152742:=0
def tw4782628313436314158:=0
def tw4886114968885642574:=0
def tw4886684800456549543:=0
def tw4906168370799264187:=0
def tw5095727591901918871:=0
def tw5104461922383572451:=0
def tw5421127853918646672:=0
def tw547322112013078356:=0
def tw549075471166738089:=0
def tw5606114557908196249:=0
def tw5617339386545907817:=0
def tw5648749761930780144:=0
def tw5893939414019245836:=0
def tw601182615050967407:=0
def tw6223746885115793530:=0
def tw6295326306447857517:=0
def tw6341110641232357427:=0
def tw635869269672820007:=0
def tw636072622996625986:=0
def tw6399453351222448572:=0
def tw6462504796983445993:=0
def tw6519008307743654070:=0
def tw6557347599970141606:=0
def tw6613802545916377830:=0
def tw6623629087751315402:=0
def tw6655694089989722134:=0
def tw6870642799593731659:=0
def tw6918303783593422329:=0
def tw6960257904226759315:=0
def tw7073070076436748565:=0
def tw7241550106175690301:=0
def tw7343747959986516717:=0
def tw736411043916218409:=0
def tw7370635701799693489:=0
def tw7378295500343782047:=0
def tw7405401545128541288:=0
def tw757785111722753859:=0
def tw7854924687221377123:=0
def tw7906494086532669454:=0
def tw7922745759414613242:=0
def tw799071987087254678:=0
def tw8004604489723130378:=0
def tw8156537526426291894:=0
def tw8194242391713571735:=0
def tw8637323480897114847:=0
def tw8679998007734379060:=0
def tw8922701005930030813:=0
def tw8997523257040956513:=0
def tw928339641771845141:=0
def tw9335246598048275880:=0
def tw9493240942392593200:=0
def tw9600142185162317273:=0
def tw9787478071870264567:=0
end PySem.W.Fast
open PySem PySem.W PyProof.Rows
set_option maxRecDepth 100000 in
set_option maxHeartbeats 0 in
theorem PySem.Challenge.cw_turnline_k72_trains_and_runs_as_texts_holds : PySem.Challenge.rw_turnline_k72_trains_and_runs_as_texts.Holds := by
 w_on;o_law;k_head;(case hw=>w_witness2)
 k_fill
 refine K72.walk (l:=PySem.Challenge.rw_turnline_k72_trains_and_runs_as_texts) rfl rfl (λw h Y=>PySem.W.kIn_of Y) ?F
 case F=>
  intro w mg fa h KX G hmg
  refine' K72.all_mk KX G hmg ⟨?a1,?l1,?c1,?k1⟩ ⟨?a2,?l2,?c2,?k2⟩ ⟨?a3,?l3,?c3,?k3⟩ ⟨?a4,?l4,?c4,?k4⟩ ⟨?a5,?l5,?c5,?k5⟩ ⟨?a6,?l6,?c6,?k6⟩ ⟨?a7,?l7,?c7,?k7⟩ ⟨?a8,?l8,?c8,?k8⟩ ⟨?a9,?l9,?c9,?k9⟩ ⟨?a10,?l10,?c10,?k10⟩ ⟨?a11,?l11,?c11,?k11⟩ ⟨?a12,?l12,?c12,?k12⟩ ⟨?a13,?l13,?c13,?k13⟩ ⟨?a14,?l14,?c14,?k14⟩ ⟨?a15,?l15,?c15,?k15⟩ ⟨?a16,?l16,?c16,?k16⟩ ⟨?a17,?l17,?c17,?k17⟩ ⟨?a18,?l18,?c18,?k18⟩ ⟨?a19,?l19,?c19,?k19⟩ ⟨?a20,?l20,?c20,?k20⟩ ⟨?a21,?l21,?c21,?k21⟩ ⟨?a22,?l22,?c22,?k22⟩ ⟨?a23,?l23,?c23,?k23⟩ ⟨?a24,?l24,?c24,?k24⟩ ?z1 ?z2 ?z3 ?z4 ?z5 ?z6 ?z7 ?z8 ?z9 ?z10 ?z11 ?z12 ?z13 ?z14 ?z15 ?z16 ?z17 ?z18 ?z19 ?xo0 ?ck0 ?ck1
  case a1|l1|c1|k1|a2|l2|c2|k2|a3|l3|c3|k3|a4|l4|c4|k4|a5|l5|c5|k5|a6|l6|c6|k6|a7|l7|c7|k7|a8|l8|c8|k8|a9|l9|c9|k9|a10|l10|c10|k10|a11|l11|c11|k11|a12|l12|c12|k12|a13|l13|c13|k13|a14|l14|c14|k14|a15|l15|c15|k15|a16|l16|c16|k16|a17|l17|c17|k17|a18|l18|c18|k18|a19|l19|c19|k19|a20|l20|c20|k20|a21|l21|c21|k21|a22|l22|c22|k22|a23|l23|c23|k23|a24|l24|c24|k24|z1|z2|z3|z4|z5|z6|z7|z8|z9|z10|z11|z12|z13|z14|z15|z16|z17|z18|z19=>k_is
  (case xo0=>refine'⟨?u1,?u2,?u3,?u4,?u5,?u6,?u7,?u8,?u9⟩;(case u1=>k_is);(case u2=>k_exc);(case u3=>k_is);(case u4=>k_is);(case u5=>k_is);(case u6=>k_is);(case u7=>k_is);(case u8=>k_is);(case u9=>k_is))
  (case ck0=>k_is)
  (case ck1=>k_is)
