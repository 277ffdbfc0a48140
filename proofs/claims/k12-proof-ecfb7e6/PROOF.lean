import PyProof.Rows.All
import Wide.All
import OpenK.AllK
import Wide.FinOn
import Lean
import PyProof.EqAt
import PyProof.EqKinds
import PyProof.TupleCall
import KE.KRevIter
import PyProof.StationsW
import PyProof.ExcClass2
import PyProof.ExcInit
import PyProof.ExcBaseAll.ValueError
import PyProof.ExcArgsOwn
import OpenK.KMake
import KE.KIsAll
import PyProof.InstStoreFacts
import PyProof.FString2
import KE.KTryMore
import PyProof.NsDelKeeps
import PyProof.Rows.StrSplitJoin
import PyProof.StrLawsTight
import PyProof.ListMulRoad
import PyProof.ZipIter
import PyProof.TupleIter
import PyProof.WalksMore
import KE.KSortAsk
import KE.KSortTup
import KE.KDictLaws
import PyProof.NeKinds
import PyProof.EnumFor
import PyProof.EnumMake
import PyProof.DictItems
import PyProof.Draws
import PyProof.Rows.CallKwBuiltin
import PySem.Challenge.RW_codemend_k12_whole_trees_as_text
set_option compiler.extract_closed false
set_option linter.all false
def yy:=trivial
noncomputable section
section
open PySem PySem.Spec PySem.Calls PyProof.Rows
def yA:=@wpAny_bind
def yB:=@List.getElem?_eq_getElem
def yC:=@Heap.get?_push_of_some
def yD:=@wpAny_pure
def yE:=@List.length_map
def yF:=@Nat.le_refl
def yG:=@List.getElem?_eq_some_iff
def yH:=@List.mem_cons_of_mem
def yI:=@Heap.get?_push_size
def yJ:=@List.getElem?_map
def yK:=@List.size_toArray
def yL:=@Bool.false_ne_true
def yM:=@if_neg
def yN:=@List.mem_cons
def yO:=@absurd
def yP:=@List.length_append
def yQ:=@Heap.lt_size
def yR:=@if_pos
def yS:=@decide_eq_false
def yT:=@List.mem_cons_self
def yU:=@List.mem_map
def yV:=@List.mem_of_getElem?
def yW:=@List.all_eq_true
def yX:=@Nat.lt_of_lt_of_le
def yY:=@PyProof.Rows.boot_isinstance
def yZ:=@List.map_cons
def ya:=@Nat.ne_of_lt
def yb:=@List.mem_append_right
def yc:=@wpAny_newObj_type
def yd:=@List.take_of_length_le
def ye:=@congrArg
def yf:=@Nat.zero_le
def yg:=@Bool.and_eq_true
def yh:=@List.map_map
def yi:=@Array.getElem?_eq_getElem
def yj:=@List.length_reverse
def yk:=@List.getElem?_set_ne
def ym:=@decide_eq_true_eq
def yn:=@List.mem_append
def yo:=@List.find?_cons
def yp:=@decide_eq_true
def yq:=@PySem.boot_len
def yr:=@Nat.le_trans
def yt:=@wpAny_field
def yu:=@List.map_congr_left
def yw:=@Array.length_toList
def yx:=@wpAny_call_entry
def yz:=@List.not_mem_nil
def YA:=@List.length_cons
def YB:=@PySem.F.plainAttrs_str
def YC:=@List.nodup_cons
def YD:=@List.lookup_cons
def YE:=@PyProof.Rows.callWith_type1
def YF:=@PyProof.Rows.boot_tuple
def YG:=@PyProof.Rows.boot_str
def YH:=@List.take_succ
def YI:=@List.mem_singleton
def YJ:=@List.append_nil
def YK:=@List.drop_eq_getElem_cons
def YL:=@Bool.false_eq_true
def YM:=@List.map_append
def YN:=@List.replicate_succ
def YO:=@PySem.F.slot_str_split
def YQ:=@List.drop_eq_nil_of_le
def YR:=@wpAny_of_eq
def YS:=@wpAny_holding
def YT:=@wpAny_attempt
def YU:=@Obj.data_mapFields
def YV:=@Calls.spliced_cons
def YW:=@List.length_singleton
def YX:=@wpAny_truthy_bool
def YY:=@PySem.F.slot_tuple_iterator_next
def YZ:=@Nat.le_of_lt
def Ya:=@wpAny_mono
def Yb:=@PyProof.Rows.slot_tuple_getitem
def Yc:=@wpAny_seqItems
def Yd:=@List.length_take
def Ye:=@List.getElem_mem
def Yf:=@wpAny_typeNameOfWhole_keyiter
def Yg:=@List.eq_nil_of_length_eq_zero
def Yh:=@wpAny_setField_rec
def Yi:=@List.getElem?_set_self
def Yj:=@wpAny_passesOwn
def Yk:=@PySem.F.type_str_join
def Yl:=@PySem.F.slot_str_join
def Ym:=@Heap.get?_update_self
def Yn:=@List.flatten_cons
def Yo:=@Int.toNat_natCast
end
set_option Elab.async false
set_option maxRecDepth 100000
namespace L2
open PySem PySem.Spec PyProof.Rows
abbrev Key:=Sum Int Str
def zjs:Key->Value->Bool
 | .inl k,v=>Value.isInt k v
 | .inr x,v=>Value.isStrOf x v
def ztP (w:World):Key->Int
 | .inl k=>hashInt k
 | .inr x=>hashStr w x
theorem zaV:∀ {k:Key} {v:Value},zjs k v=true->(∃ i t,k=Sum.inl i/\v=Value.int i t)\/(∃ x t,k=Sum.inr x/\v=Value.str x t)
 | .inl i,v,h=>by
  obtain ⟨t,e⟩:=Value.isInt_shape (k:=i) (v:=v) h; exact .inl ⟨i,t,rfl,e⟩
 | .inr x,v,h=>by
  obtain ⟨t,e⟩:=Value.isStrOf_shape (x:=x) (v:=v) h; exact .inr ⟨x,t,rfl,e⟩
theorem zkN (i:Int) (t:Tok):zjs (.inl i) (.int i t)=true:=by simp [zjs,Value.isInt]
theorem zkM (x:Str) (t:Tok):zjs (.inr x) (.str x t)=true:=by simp [zjs,Value.isStrOf]
theorem zqU (a b:Int):decide ((Sum.inl a:Key)=Sum.inl b)=(a == b):=by
 by_cases e:a=b
 ·subst e; simp
 ·have h:¬ (Sum.inl a:Key)=Sum.inl b:=fun q=>e (Sum.inl.inj q)
  rw [yS h]; exact (beq_eq_false_iff_ne.mpr e).symm
theorem zqR (a b:Str):decide ((Sum.inr a:Key)=Sum.inr b)=decide (a=b):=by
 by_cases e:a=b
 ·subst e; simp
 ·have h:¬ (Sum.inr a:Key)=Sum.inr b:=fun q=>e (Sum.inr.inj q)
  rw [yS h,yS e]
theorem zqT (a:Int) (b:Str):decide ((Sum.inl a:Key)=Sum.inr b)=false:=yS (fun q=>nomatch q)
theorem zqS (a:Str) (b:Int):decide ((Sum.inr a:Key)=Sum.inl b)=false:=yS (fun q=>nomatch q)
def zbj (prog:Program) (w:World):PySem.KeyKind prog w Key where
 is:=zjs
 hash:=ztP w
 inj:=fun v a b ha hb=>by
  rcases zaV ha with ⟨i,t,rfl,rfl⟩ | ⟨x,t,rfl,rfl⟩
  ·rcases zaV hb with ⟨j,u,rfl,e⟩ | ⟨y,u,rfl,e⟩
   ·injection e with e1 _; rw [e1]
   ·exact nomatch e
  ·rcases zaV hb with ⟨j,u,rfl,e⟩ | ⟨y,u,rfl,e⟩
   ·exact nomatch e
   ·injection e with e1 _; rw [e1]
 byValue:=fun k v h=>by
  rcases zaV h with ⟨i,t,rfl,rfl⟩ | ⟨x,t,rfl,rfl⟩ <;> rfl
 pyHash:=fun hv h=>by
  rcases zaV hv with ⟨i,t,rfl,rfl⟩ | ⟨x,t,rfl,rfl⟩
  ·exact wpAny_pyHash_int h
  ·exact wpAny_pyHash_str h
 eqBool:=fun hu hv h=>by
  rcases zaV hu with ⟨i,t,rfl,rfl⟩ | ⟨x,t,rfl,rfl⟩
  ·rcases zaV hv with ⟨j,u,rfl,rfl⟩ | ⟨y,u,rfl,rfl⟩
   ·rw [zqU] at h; exact wpAny_eqBool_int h
   ·rw [zqT] at h; exact SeqAt.EqAt.int_str i t y u _ _ _ _ h
  ·rcases zaV hv with ⟨j,u,rfl,rfl⟩ | ⟨y,u,rfl,rfl⟩
   ·rw [zqS] at h; exact SeqAt.EqAt.str_int x t j u _ _ _ _ h
   ·rw [zqR] at h; exact wpAny_eqBool_str h
 «strs»:=fun k x t v h=>by
  rcases zaV h with ⟨i,u,rfl,e⟩ | ⟨y,u,rfl,e⟩
  ·exact nomatch e
  ·injection e with e1 _
   subst e1
   cases v <;> rfl
theorem zhO (prog:Program) (w:World) (i:Int) (t:Tok):(zbj prog w).is (.inl i) (.int i t)=true:=zkN i t
theorem zhN (prog:Program) (w:World) (x:Str) (t:Tok):(zbj prog w).is (.inr x) (.str x t)=true:=zkM x t
inductive V where
 | non | bl (b:Bool) | int (i:Int) | str (x:Str) | byt (b:Array UInt8) | flt (b:UInt64) | ref (a:Addr) | ty (n:String)
 deriving DecidableEq
def za8:V->Value->Prop
 | .non,u=>u=Value.none
 | .bl b,u=>u=Value.bool b
 | .int i,u=>∃ t,u=Value.int i t
 | .str x,u=>∃ t,u=Value.str x t
 | .byt b,u=>∃ t,u=Value.bytes b t
 | .flt b,u=>∃ t,u=Value.float b t
 | .ref a,u=>u=Value.ref a
 | .ty n,u=>u=Value.type n
abbrev zaL:List V->List Value->Prop:=Paired za8
theorem zaL.length {xs:List V} {us:List Value} (r:zaL xs us):xs.length=us.length:=Paired.length r
theorem zaL.get:∀ {xs:List V} {us:List Value} {i:Nat} {x:V},zaL xs us->xs[i]?=some x->∃ u,us[i]?=some u/\za8 x u
 | _,_,_,_,.nil,e=>by simp at e
 | _,_,0,_,.cons r _,e=>by simp at e; subst e; exact ⟨_,rfl,r⟩
 | _,_,i+1,x,.cons _ t,e=>by
  obtain ⟨u,h1,h2⟩:=zaL.get (i:=i) (x:=x) t (by simpa using e)
  exact ⟨u,by simpa using h1,h2⟩
theorem zaL.append:∀ {xs ys:List V} {us ws:List Value},zaL xs us->zaL ys ws->zaL (xs ++ ys) (us ++ ws)
 | _,_,_,_,.nil,s=>s
 | _,_,_,_,.cons r t,s=>.cons r (zaL.append t s)
theorem zaL.take:∀ {xs:List V} {us:List Value} (n:Nat),zaL xs us->zaL (xs.take n) (us.take n)
 | _,_,0,_=>.nil
 | _,_,_+1,.nil=>.nil
 | _,_,n+1,.cons r t=>.cons r (zaL.take n t)
theorem zaL.drop:∀ {xs:List V} {us:List Value} (n:Nat),zaL xs us->zaL (xs.drop n) (us.drop n)
 | _,_,0,r=>r
 | _,_,_+1,.nil=>.nil
 | _,_,n+1,.cons _ t=>zaL.drop n t
def zlj:Option V->Option Value->Prop
 | some v,some u=>za8 v u
 | none,none=>True
 | _,_=>False
def KV {κ:Type}:List (κ × V)->List (κ × Value)->Prop:=Paired fun (p:κ × V) (q:κ × Value)=>p.1=q.1/\za8 p.2 q.2
def kV:Key->V
 | .inl i=>.int i
 | .inr x=>.str x
inductive HO where
 | lst (xs:List V)
 | tup (xs:List V)
 | dK (kvs:List (Key × V)) | dT (kvs:List (List Key × V))
 | dE (kvs:List (List Key × V)) (ep:Nat)
 | set (S:Int->Bool) (n:Nat)
 | ins (C dx:Addr) (fs:List (Str × V))
 | own (x:Addr)
 | xd (fs:List (Str × V))
 | met (f x:Addr)
 | rng (lo hi:Int)
 | frz (o:Obj) (u:HO)
 | tbl (ps:Array Value)
 | ext (φ:Heap->Prop)
abbrev zsU:HO:=.ext fun _=>True
def zm2:List V ⊕ Obj->HO
 | .inl xs=>.tup xs
 | .inr o=>.frz o zsU
abbrev Hp:=Addr->Option HO
def upd (H:Hp) (a:Addr) (o:HO):Hp:=fun b=>if b=a then some o else H b
theorem zu {H:Hp} {a:Addr} {o:HO}:upd H a o a=some o:=by unfold upd; rw [yR rfl]
theorem zN {H:Hp} {a b:Addr} {o:HO} (h:b≠a):upd H a o b=H b:=by unfold upd; rw [yM h]
theorem zoR {H:Hp} {a b:Addr} {o u:HO} (h:H a=some o) (h':H b=some u) (d:o≠u):a≠b:=by
 intro e; subst e; rw [h] at h'; exact d (Option.some.inj h')
theorem zaQ {H:Hp} {a b:Addr} {o:HO} (h:H a=some o) (h':H b=none):a≠b:=by
 intro e; subst e; rw [h] at h'; cases h'
section
variable (P:Program) (w:World)
def zbN (H:Hp) (h:Heap) (a:Addr):HO->Prop
 | .lst xs=>xs.length<=sizeLine/\∃ (its:List Value) (n:Nat),zaL xs its/\h.get? a=some { cls:=.type "list",data:=.seq its.toArray n }
 | .tup xs=>xs.length<=sizeLine/\∃ its:List Value,zaL xs its/\IsTup h a its.toArray
 | .dK kvs=>kvs.length<=sizeLine/\(a == sysModules)=false/\∃ vs,KV kvs vs/\h.DictOf (zbj P w) a vs
 | .dT kvs=>kvs.length<=sizeLine/\(a == sysModules)=false/\∃ xs:List (List Key × Addr × Value),
   Paired (fun (p:List Key × V) (q:List Key × Addr × Value)=>p.1=q.1/\H q.2.1=some (.tup (p.1.map kV))/\za8 p.2 q.2.2) kvs xs /\
   ∃ o es ep,h.get? a=some o/\o.ExactDict/\o.data=.dict es ep/\es.toList=xs.map (entryOfKey (tupleKind (zbj P w)))/\(xs.map (·.1)).Nodup
 | .dE kvs ep=>kvs.length<=sizeLine/\(a == sysModules)=false/\∃ xs:List (List Key × Addr × Value),
   Paired (fun (p:List Key × V) (q:List Key × Addr × Value)=>p.1=q.1/\H q.2.1=some (.tup (p.1.map kV))/\za8 p.2 q.2.2) kvs xs /\
   ∃ o es,h.get? a=some o/\o.ExactDict/\o.data=.dict es ep/\es.toList=xs.map (entryOfKey (tupleKind (zbj P w)))/\(xs.map (·.1)).Nodup
 | .set S n=>h.SetOf (intKind P w) a S n
 | .ins C dx fs=>H dx=some (.own a)/\fs.length<=1000/\dx≠a/\h.get? a=some (W.instObj C dx) /\
   ∃ mA,h.Ns1 dx mA/\(∀ f,zlj (fs.lookup f) (mA f))/\PySem.Within mA (fs.map (·.1))
 | .own _=>∃ o,h.get? a=some o
 | .xd fs=>∃ mA,h.Ns1 a mA/\∀ f,zlj (fs.lookup f) (mA f)
 | .rng lo hi=>∃ t u v,h.get? a=some { cls:=.type "range",data:=.fields #[.int lo t,.int hi u,.int 1 v] }
 | .frz o u=>h.get? a=some o/\zbN H h a u
 | .tbl ps=>∃ ts:Array Value,h.get? a=some { cls:=.none,data:=.fields ts }/\TriplesOk ts.toList/\∀ pos cv,codeAmong pos ts.toList=some cv->∃ c oc vs t q t0,cv=.ref c/\H c=some (zm2 (.inr oc))/\oc.data=.fields vs/\vs[1]?=some (.str q t)/\ps[0]?=some (.str q t0)
 | .met f x=>h.get? a=some (W.methodObj (.ref f) (.ref x))
 | .ext φ=>φ h/\(∃ o,h.get? a=some o)/\∀ h1 h2:Heap,φ h1->(∀ o,h1.get? a=some o->h2.get? a=some o)->φ h2
def HOk (H:Hp) (h:Heap):Prop:=∀ a o,H a=some o->zbN P w H h a o
end
section
variable {P:Program} {w:World} {H H':Hp} {h h':Heap} {a:Addr} {o:HO}
theorem zbN.lt (x:zbN P w H h a o):a<h.objs.size:=by
 cases o with
 | lst xs=>obtain ⟨_,_,_,_,e⟩:=x; exact yQ e
 | tup xs=>obtain ⟨_,_,_,p⟩:=x; exact p.lt
 | dK kvs=>obtain ⟨_,_,_,_,o,_,_,e,_⟩:=x; exact yQ e
 | dT kvs=>obtain ⟨_,_,_,_,o,_,_,e,_⟩:=x; exact yQ e
 | dE kvs ep=>obtain ⟨_,_,_,_,o,_,e,_⟩:=x; exact yQ e
 | set S n=>obtain ⟨o,_,_,_,e,_⟩:=x; exact yQ e
 | ins C dx fs=>obtain ⟨_,_,_,e,_⟩:=x; exact yQ e
 | own y=>obtain ⟨_,e⟩:=x; exact yQ e
 | xd fs=>obtain ⟨_,⟨_,_,_,e,_⟩,_⟩:=x; exact yQ e
 | rng lo hi=>obtain ⟨_,_,_,e⟩:=x; exact yQ e
 | frz ob u=>obtain ⟨e,_⟩:=x; exact yQ e
 | tbl ps=>obtain ⟨_,e,_⟩:=x; exact yQ e
 | met f y=>exact yQ (show h.get? a=some _ from x)
 | ext φ=>obtain ⟨_,⟨_,e⟩,_⟩:=x; exact yQ e
theorem Paired.mapP {α β:Type} {F G:α->β->Prop}:∀ {l₁:List α} {l₂:List β},Paired F l₁ l₂->(∀ a b,F a b->G a b)->Paired G l₁ l₂
 | _,_,.nil,_=>.nil
 | _,_,.cons r t,f=>.cons (f _ _ r) (Paired.mapP t f)
theorem zbN.stay (x:zbN P w H h a o) (k:∀ b u,(b=a\/H b=some (.own a))->h.get? b=some u->h'.get? b=some u)
  (ho:∀ b,H b=some (.own a)->H' b=some (.own a)) (ht:∀ b xs,H b=some (zm2 xs)->H' b=some (zm2 xs)):zbN P w H' h' a o:=by
 induction o with
 | lst xs=>obtain ⟨z,its,n,r,e⟩:=x; exact ⟨z,its,n,r,k _ _ (.inl rfl) e⟩
 | tup xs=>obtain ⟨z,its,r,ob,e,c⟩:=x; exact ⟨z,its,r,ob,k _ _ (.inl rfl) e,c⟩
 | dK kvs=>obtain ⟨z,y,vs,r,ob,es,ep,e,c⟩:=x; exact ⟨z,y,vs,r,ob,es,ep,k _ _ (.inl rfl) e,c⟩
 | dT kvs =>
  obtain ⟨z,y,xs,r,ob,es,ep,e,c⟩:=x
  exact ⟨z,y,xs,Paired.mapP r fun p q z=>⟨z.1,ht _ (.inl _) z.2.1,z.2.2⟩,ob,es,ep,k _ _ (.inl rfl) e,c⟩
 | dE kvs ep =>
  obtain ⟨z,y,xs,r,ob,es,e,c⟩:=x
  exact ⟨z,y,xs,Paired.mapP r fun p q z=>⟨z.1,ht _ (.inl _) z.2.1,z.2.2⟩,ob,es,k _ _ (.inl rfl) e,c⟩
 | set S n=>obtain ⟨ob,es,ep,t,e,c⟩:=x; exact ⟨ob,es,ep,t,k _ _ (.inl rfl) e,c⟩
 | ins C dx fs =>
  obtain ⟨d,z,ne,e,mA,⟨od,es,ep,e2,c⟩,r⟩:=x
  exact ⟨ho _ d,z,ne,k _ _ (.inl rfl) e,mA,⟨od,es,ep,k _ _ (.inr d) e2,c⟩,r⟩
 | own y=>obtain ⟨ob,e⟩:=x; exact ⟨ob,k _ _ (.inl rfl) e⟩
 | xd fs=>obtain ⟨mA,⟨od,es,ep,e,c⟩,r⟩:=x; exact ⟨mA,⟨od,es,ep,k _ _ (.inl rfl) e,c⟩,r⟩
 | rng lo hi=>obtain ⟨t,u,v,e⟩:=x; exact ⟨t,u,v,k _ _ (.inl rfl) e⟩
 | frz ob u ih=>obtain ⟨e,q⟩:=x; exact ⟨k _ _ (.inl rfl) e,ih q⟩
 | tbl ps=>obtain ⟨ts,e,t,c⟩:=x; exact ⟨ts,k _ _ (.inl rfl) e,t,fun pos cv z=>let ⟨c,oc,vs,t,q,t0,z1,z2,z3⟩:=c pos cv z; ⟨c,oc,vs,t,q,t0,z1,ht _ _ z2,z3⟩⟩
 | met f y =>
  have e:h.get? a=some (W.methodObj (.ref f) (.ref y)):=x
  show h'.get? a=some (W.methodObj (.ref f) (.ref y))
  exact k a _ (.inl rfl) e
 | ext φ=>obtain ⟨p,⟨o,e⟩,st⟩:=x; exact ⟨st _ _ p fun o q=>k _ _ (.inl rfl) q,⟨o,k _ _ (.inl rfl) e⟩,st⟩
theorem HOk.lt (x:HOk P w H h) (e:H a=some o):a<h.objs.size:=(x a o e).lt
theorem HOk.fresh (x:HOk P w H h) (e:h.objs.size<=a):H a=none:=by
 cases q:H a with
 | none=>rfl
 | some u=>exact yO (yX (x.lt q) e) (Nat.lt_irrefl _)
theorem HOk.kept (x:HOk P w H h) (k:∀ b u,h.get? b=some u->h'.get? b=some u):HOk P w H h':=fun a o e =>
 (x a o e).stay (fun b u _ q=>k b u q) (fun _ q=>q) fun _ _ q=>q
theorem HOk.laid (x:HOk P w H h) (k:∀ b u,h.get? b=some u->h'.get? b=some u) (hp:h.objs.size<=a) (new:zbN P w (upd H a o) h' a o):HOk P w (upd H a o) h':=fun b u e=>by
 have hn:=x.fresh hp
 by_cases hb:b=a
 ·subst hb; rw [zu] at e; cases e; exact new
 ·rw [zN hb] at e
  exact (x b u e).stay (fun c v _ q=>k c v q) (fun c q=>by rw [zN (zaQ q hn)]; exact q) fun c xs q=>by rw [zN (zaQ q hn)]; exact q
end
def Rd (H:Hp) (a:Addr) (u:HO):Prop:=H a=some u\/∃ o,H a=some (.frz o u)
theorem Rd.ok {P:Program} {w:World} {H:Hp} {h:Heap} {a:Addr} {u:HO} (r:Rd H a u) (x:HOk P w H h):zbN P w H h a u:=by
 rcases r with r | ⟨o,r⟩
 ·exact x a u r
 ·obtain ⟨_,q⟩:=x a _ r
  exact q
def Mut:Option HO->Prop
 | some (.lst _)=>True
 | some (.dK _)=>True
 | some (.dT _)=>True
 | some (.dE _ _)=>True
 | some (.set _ _)=>True
 | some (.ins _ _ _)=>True
 | some (.ext _)=>True
 | _=>False
section
variable {P:Program} {w:World} {H:Hp} {h h':Heap} {x e:Addr} {o':HO}
theorem HOk.write (ok:HOk P w H h) (mu:Mut (H x)) (he:e=x\/H e=some (.own x)) (k:∀ b u,b≠e->h.get? b=some u->h'.get? b=some u) (heo:∃ u,h'.get? e=some u)
  (new:zbN P w (upd H x o') h' x o'):HOk P w (upd H x o') h':=fun b u q=>by
 have nown:∀ c y,H c=some (.own y)->c≠x:=fun c y r z=>by subst z; rw [r] at mu; exact mu
 have ntup:∀ c xs,H c=some (zm2 xs)->c≠x:=fun c xs r z=>by subst z; rw [r] at mu; cases xs <;> exact mu
 by_cases hb:b=x
 ·subst hb; rw [zu] at q; cases q; exact new
 ·rw [zN hb] at q
  by_cases hbe:b=e
  ·have q':H b=some (.own x):=by
    rcases he with z | z
    ·exact yO (hbe.trans z) hb
    ·rw [hbe]; exact z
   rw [q] at q'; cases q'
   obtain ⟨v,hv⟩:=heo
   exact ⟨v,by rw [hbe]; exact hv⟩
  ·refine (ok b u q).stay (fun c v hc r=>k c v ?_ r) (fun c r=>by rw [zN (nown c b r)]; exact r) fun c xs r=>by rw [zN (ntup c xs r)]; exact r
   rcases hc with rfl | hc
   ·exact hbe
   ·rintro rfl
    rcases he with z | z
    ·exact nown c b hc z
    ·rw [hc] at z; cases z; exact hb rfl
end
structure Un (fs ex:List Addr) (H H':Hp) (h h':Heap):Prop where
 keep:∀ b o,h.get? b=some o->H b=none->b ∉ fs->b ∉ ex->h'.get? b=some o
 slot:∀ b o,h.get? b=some o->H b=none->b ∈ fs->b ∉ ex->∃ sl,h'.get? b=some { o with slots:=sl }
 free:∀ b o,h.get? b=some o->H b=none->b ∉ ex->H' b=none
 there:∀ b o,h.get? b=some o->b ∉ ex->∃ o',h'.get? b=some o'
 tups:∀ b xs,H b=some (.tup xs)->H' b=some (.tup xs)
 frzs:∀ b o u,H b=some (.frz o u)->H' b=some (.frz o u)
 tbls:∀ b ps,H b=some (.tbl ps)->∃ more,H' b=some (.tbl (ps ++ more))
section
variable {fs fs' ex ex':List Addr} {H H1 H2:Hp} {h h1 h2 h':Heap} {a x e:Addr} {o:HO}
theorem Un.any (u:Un fs ex H H1 h h1) {b:Addr} {ob:Obj} (q:h.get? b=some ob) (n:H b=none) (hx:b ∉ ex):∃ sl,h1.get? b=some { ob with slots:=sl }:=by
 by_cases hb:b ∈ fs
 ·exact u.slot b ob q n hb hx
 ·exact ⟨ob.slots,u.keep b ob q n hb hx⟩
theorem Un.kept (k:∀ b u,h.get? b=some u->h'.get? b=some u):Un fs ex H H h h' :=
 ⟨fun b ob q _ _ _=>k b ob q,fun b ob q _ _ _=>⟨ob.slots,k b ob q⟩,fun _ _ _ n _=>n,fun b ob q _=>⟨ob,k b ob q⟩,fun _ _ q=>q,fun _ _ _ q=>q,fun _ ps q=>⟨#[],by rw [q]; simp⟩⟩
theorem Un.refl:Un fs ex H H h h:=Un.kept fun _ _ q=>q
theorem Un.laid (k:∀ b u,h.get? b=some u->h'.get? b=some u) (hp:h.objs.size<=a) (hn:H a=none):Un fs ex H (upd H a o) h h' where
 keep:=fun b u q _ _ _=>k b u q
 slot:=fun b u q _ _ _=>⟨u.slots,k b u q⟩
 free:=fun b u q n _=>by rw [zN (ya (yX (yQ q) hp))]; exact n
 there:=fun b u q _=>⟨u,k b u q⟩
 tups:=fun b xs q=>by rw [zN (zaQ q hn)]; exact q
 frzs:=fun b u xs q=>by rw [zN (zaQ q hn)]; exact q
 tbls:=fun b ps q=>⟨#[],by rw [zN (zaQ q hn),q]; simp⟩
theorem Un.write (mu:Mut (H x)) (he:e=x\/H e=some (.own x)) (k:∀ b u,b≠e->h.get? b=some u->h'.get? b=some u) (heo:∃ u,h'.get? e=some u):Un fs ex H (upd H x o) h h':=by
 have hx:∀ b,H b=none->b≠x:=fun b n z=>by subst z; rw [n] at mu; exact mu
 have hb:∀ b,H b=none->b≠e:=fun b n z=>by
  subst z
  rcases he with r | r
  ·exact hx b n r
  ·rw [n] at r; cases r
 have hm:∀ b u,H b=some u->¬ Mut (some u)->b≠x:=fun b u q nm z=>by subst z; rw [q] at mu; exact nm mu
 refine ⟨fun b u q n _ _=>k b u (hb b n) q,fun b u q n _ _=>⟨u.slots,k b u (hb b n) q⟩,fun b u q n _=>by rw [zN (hx b n)]; exact n,fun b u q _=>?_,
  fun b xs q=>by rw [zN (hm b _ q fun z=>z)]; exact q,fun b u xs q=>by rw [zN (hm b _ q fun z=>z)]; exact q,fun b ps q=>⟨#[],by rw [zN (hm b _ q fun z=>z),q]; simp⟩⟩
 by_cases hbe:b=e
 ·subst hbe; exact heo
 ·exact ⟨u,k b u hbe q⟩
end
def zpv (g h:Heap) (L:Addr):List (Addr × Obj):=(List.range h.objs.size).filterMap fun a=>if a=L\/(g.get? a).isSome=true then none else (h.get? a).map fun o=>(a,o)
def zdP (g h:Heap) (L d:Addr):List (Addr × Obj):=(zpv g h L).filter fun p=>decide (p.1≠d)
def zlI (q:Str):Obj:=⟨.str q 0,none,.freed,#[]⟩
def zjA (base:Heap) (H:Hp):Prop:=∀ P q,base.objs[P]?=some (zlI q)->∃ ps,H P=some (.tbl ps)/\ps[0]?=some (.str q 0)
theorem zjA.un {base:Heap} {H H':Hp} (t:zjA base H) (u:∀ b ps,H b=some (.tbl ps)->∃ more,H' b=some (.tbl (ps ++ more))):zjA base H':=fun P q e=>by
 obtain ⟨ps,e1,e2⟩:=t P q e; obtain ⟨more,e3⟩:=u P ps e1; refine ⟨_,e3,?_⟩
 rw [Array.getElem?_append_left (by rw [Array.getElem?_eq_some_iff] at e2; exact e2.1)]
 exact e2
def zrH:Obj:=⟨.none,none,.freed,#[]⟩
def zmA (o:Obj):Option HO->Obj
 | some (.tbl ps)=>match (ps[0]?:Option Value) with
  | some (.str q 0)=>zlI q
  | _=>zrH
 | some _=>zrH
 | none=>match o.data with
  | .freed=>zrH
  | _=>o
def nrm (h:Heap) (H:Hp):Heap:=⟨h.objs.mapIdx fun a o=>zmA o (H a),h.life⟩
theorem zmz (h:Heap) (H:Hp):(nrm h H).objs.size=h.objs.size:=by unfold nrm; simp
theorem zky (h:Heap) (H:Hp) (b:Addr):(nrm h H).objs[b]?=(h.objs[b]?).map fun o=>zmA o (H b):=by unfold nrm; simp
theorem zeS {h:Heap} {b:Addr} {o:Obj} (e:h.objs[b]?=some o) (n:o.data≠.freed):h.get? b=some o:=by
 unfold Heap.get?
 rw [e]; obtain ⟨c,d,dt,sl⟩:=o
 cases dt <;> first | rfl | exact yO rfl n
theorem zeJ {h:Heap} {b:Addr} {o:Obj} (e:h.get? b=some o):h.objs[b]?=some o/\o.data≠.freed:=by
 unfold Heap.get? at e
 cases q:h.objs[b]? with
 | none=>rw [q] at e; cases e
 | some u =>
  rw [q] at e; obtain ⟨c,d,dt,sl⟩:=u
  cases dt <;> first | (cases e; exact ⟨rfl,fun z=>nomatch z⟩) | cases e
theorem zoQ {h:Heap} {H:Hp} {b:Addr} {o:Obj} (e:h.get? b=some o) (n:H b=none):(nrm h H).get? b=some o:=by
 obtain ⟨e1,e2⟩:=zeJ e; refine zeS ?_ e2; rw [zky,e1,n]
 show some (zmA o none)=some o
 obtain ⟨c,d,dt,sl⟩:=o
 cases dt <;> first | rfl | exact yO rfl e2
theorem zqE {h:Heap} {H:Hp} {b:Addr} {o:Obj} (e:(nrm h H).get? b=some o):h.get? b=some o/\H b=none:=by
 obtain ⟨e1,e2⟩:=zeJ e; rw [zky] at e1
 cases q:h.objs[b]? with
 | none=>rw [q] at e1; cases e1
 | some u =>
  rw [q] at e1
  have e3:zmA u (H b)=o:=Option.some.inj e1
  cases z:H b with
  | some t =>
   rw [z] at e3
   exfalso
   unfold zmA at e3; split at e3
   ·split at e3 <;> exact e2 (by rw [<- e3]; rfl)
   ·exact e2 (by rw [<- e3]; rfl)
   ·rename_i y; cases y
  | none =>
   rw [z] at e3; refine ⟨?_,rfl⟩; obtain ⟨c,d,dt,sl⟩:=u; unfold zmA at e3
   cases dt <;> first | (cases e3; exact zeS q fun y=>nomatch y) | exact yO (show o.data=.freed by rw [<- e3]; rfl) e2
theorem zmy (h:Heap) (H:Hp):zjA (nrm h H) H:=fun P q e=>by
 rw [zky] at e
 cases z:h.objs[P]? with
 | none=>rw [z] at e; cases e
 | some u =>
  rw [z] at e
  have e3:zmA u (H P)=zlI q:=Option.some.inj e
  cases y:H P with
  | none =>
   rw [y] at e3
   exfalso
   obtain ⟨c,d,dt,sl⟩:=u; unfold zmA zlI zrH at e3
   cases dt <;> cases e3
  | some t =>
   rw [y] at e3; unfold zmA at e3; split at e3
   ·rename_i ps hps
    cases hps; split at e3
    ·rename_i q' hq
     cases e3; exact ⟨_,rfl,hq⟩
    ·cases e3
   ·cases e3
   ·rename_i hh; cases hh
structure Mod (K:W.Frag) (mg:Str->Option Value) (base:Heap):Prop where
 kin:K.In base
 glob:base.Ns mainGlobals mg
 blt:∃ mb,base.Ns builtinsNs mb/\∀ x:Str,x≠"__name__"->mb x=bootBuiltins x
 nolimit:base.NoLimit
 bm:∃ bm ob,mg "__builtins__"=some (.ref bm)/\bm≠builtinsNs/\base.get? bm=some ob/\ob.cls=.type "module"/\ob.dict=some builtinsNs/\ob.data=.plain
/-- the context: a def's body (or a comprehension's block) running. base: fixed through the whole law; s₀, H₀: the entry; outer: the frames whose slots others may change (a def's callers); stack: all frames that run;
   ex: iterators that were made ahead of the entry and are walked here (a comprehension's); fn: the names whose cells were made at the entry (a def: all; a comprehension's block: its own); calm: not within an except suite; pn: pins that every state bears; xe: what is wanted of an exception that leaves the code -/
structure Cx where
 prog:Program
 w:World
 K:W.Frag
 mg:Str->Option Value
 base:Heap
 A:Around
 N:List Str
 s₀:Shared
 H₀:Hp
 env:Env
 outer:List Env
 stack:List Env
 ex:List Addr
 fn:Str->Bool
 calm:Bool
 pn:List (Addr × Obj)
 xe:Value->Shared->Prop
def frs (l:List Env):List Addr:=l.filterMap (·.frame)
abbrev Cx.fs (X:Cx):List Addr:=frs X.outer
def Vis (sc:Scope) (x:Str):Prop:=sc.names.lookup x=some .local\/sc.names.lookup x=some .cell\/sc.names.lookup x=some .free
def Loc (sc:Scope) (x:Str):Prop:=sc.names.lookup x=some .local\/sc.names.lookup x=some .cell
def zua (env:Env) (h:Heap) (m:Str->Option Value) (x:Str) (u:Value):Prop :=
 (env.kindOf x=some .local/\m x=some u)\/((env.kindOf x=some .cell\/env.kindOf x=some .free)/\∃ c,env.cells.lookup x=some c/\h.IsCell c (some u))
structure Cx.Ok (X:Cx):Prop where
 mod:Mod X.K X.mg X.base
 kind:X.env.scope.kind=.function
 glob:X.env.globals=mainGlobals
 blt:X.env.builtins=builtinsNs
 above:X.s₀.heap.objs.size<=X.env.locals
 inj:∀ x y c,X.env.cells.lookup x=some c->X.env.cells.lookup y=some c->x=y
 has:∀ x,(X.env.kindOf x=some .cell\/X.env.kindOf x=some .free)->∃ c,X.env.cells.lookup x=some c
 cab:∀ x c,X.fn x=true->X.env.cells.lookup x=some c->X.s₀.heap.objs.size<=c
 hd:X.calm=true->X.A.handled=none
 frames:X.A.frames=some X.stack
 stk:X.stack=X.outer\/(X.stack=X.env :: X.outer/\X.env.frame=some X.env.locals)
 exf:∀ b ∈ X.ex,b≠X.env.locals/\∀ x c,X.env.cells.lookup x=some c->c≠b
 bs:∀ b o,X.base.get? b=some o->X.s₀.heap.get? b=some o/\X.H₀ b=none
 bsz:X.base.objs.size<=X.s₀.heap.objs.size
 noex:∀ b o,X.base.get? b=some o->b ∉ X.ex
 exfs:∀ b ∈ X.ex,b ∉ X.fs
 funs:X.s₀.heap.FunFrames X.base X.outer
 frf:∀ b ∈ X.fs,X.H₀ b=none
 tab:zjA X.base X.H₀
structure Inv (X:Cx) (pins:List (Addr × Obj)) (σ:List (Option V)) (H:Hp) (s:Shared):Prop where
 ok:X.Ok
 os:s.os=X.s₀.os
 bare:AllBare s.gens
 base:Un X.fs X.ex X.H₀ H X.s₀.heap s.heap
 loc:∃ m,s.heap.Ns X.env.locals m/\∀ (i:Nat) (x:Str) (v:V),X.N[i]?=some x->σ[i]?=some (some v)->Vis X.env.scope x->∃ u,za8 v u/\zua X.env s.heap m x u
 cell:∀ x c,X.env.cells.lookup x=some c->∃ v,s.heap.IsCell c v
 free:H X.env.locals=none
 freeC:∀ x c,X.env.cells.lookup x=some c->H c=none
 pin:∀ p ∈ X.pn ++ pins,s.heap.get? p.1=some p.2/\H p.1=none/\p.1≠X.env.locals/\p.1 ∉ X.fs/\∀ v,p.2.data≠.cell v
 hok:HOk X.prog X.w H s.heap
 len:σ.length=X.N.length
section
variable {X:Cx} {pins:List (Addr × Obj)} {σ:List (Option V)} {H H':Hp} {s:Shared} {h':Heap}
theorem Cx.Ok.nofr (ok:X.Ok) {b:Addr} {o:Obj} (e:X.base.get? b=some o):b ∉ X.fs:=fun hb=>by
 have:=(ok.funs.mem hb).1
 rw [e] at this; cases this
theorem Inv.bs (I:Inv X pins σ H s):∀ b o,X.base.get? b=some o->s.heap.get? b=some o/\H b=none:=fun b o e =>
 ⟨I.base.keep b o (I.ok.bs b o e).1 (I.ok.bs b o e).2 (I.ok.nofr e) (I.ok.noex b o e),I.base.free b o (I.ok.bs b o e).1 (I.ok.bs b o e).2 (I.ok.noex b o e)⟩
theorem Inv.bk (I:Inv X pins σ H s):∀ b o,X.base.get? b=some o->s.heap.get? b=some o:=fun b o e=>(I.bs b o e).1
theorem Inv.mod (I:Inv X pins σ H s):Mod X.K X.mg X.base:=I.ok.mod
theorem Inv.kIn (I:Inv X pins σ H s):X.K.In s.heap:=I.ok.mod.kin.keeps I.bk
theorem Inv.lt (I:Inv X pins σ H s):X.env.locals<s.heap.objs.size:=let ⟨_,hn,_⟩:=I.loc; hn.lt
theorem Inv.sz (I:Inv X pins σ H s):X.s₀.heap.objs.size<=s.heap.objs.size:=yr I.ok.above (YZ I.lt)
theorem Inv.nofs (I:Inv X pins σ H s) {a:Addr} (h:s.heap.objs.size<=a):a ∉ X.fs:=fun hb=>by
 obtain ⟨_,o,ho,_⟩:=I.ok.funs.mem hb; exact yO (yX (yQ ho) (yr I.sz h)) (Nat.lt_irrefl _)
theorem Inv.cne (I:Inv X pins σ H s):∀ x c,X.env.cells.lookup x=some c->c≠X.env.locals:=fun x c e z=>by
 obtain ⟨v,o,ho,hd⟩:=I.cell x c e
 obtain ⟨m,⟨o',es,ep,ho',hd',_⟩,_⟩:=I.loc
 rw [z,ho'] at ho; cases ho; rw [hd'] at hd; cases hd
theorem Inv.funs (I:Inv X pins σ H s):s.heap.FunFrames X.base X.outer:=by
 have all:∀ (l:List Env),(∀ b ∈ frs l,b ∈ X.fs)->X.s₀.heap.FunFrames X.base l->s.heap.FunFrames X.base l:=by
  intro l
  induction l with
  | nil=>intro _ _; trivial
  | cons env r ih =>
   intro hs hl
   obtain ⟨hk,⟨L,o,hf,hn,ho,hd⟩,hr⟩:=hl
   have hL:L ∈ X.fs:=hs L (by unfold frs; rw [List.filterMap_cons,hf]; exact yT)
   obtain ⟨sl,e⟩:=I.base.slot L o ho (I.ok.frf L hL) hL fun z=>I.ok.exfs L z hL
   exact ⟨hk,⟨L,_,hf,hn,e,hd⟩,ih (fun b hb=>hs b (by unfold frs; rw [List.filterMap_cons,hf]; exact yH _ hb)) hr⟩
 exact all X.outer (fun _ hb=>hb) I.ok.funs
theorem Inv.stack (I:Inv X pins σ H s):s.heap.FunFrames X.base X.stack:=by
 rcases I.ok.stk with e | ⟨e,hf⟩
 ·rw [e]; exact I.funs
 ·rw [e]
  obtain ⟨m,hn,_⟩:=I.loc
  refine .cons (by rw [I.ok.kind]; decide) hf hn ?_ I.funs
  exact Heap.get?_none_of_le (yr I.ok.bsz I.ok.above)
theorem Inv.stkSub (I:Inv X pins σ H s):∀ b ∈ frs X.stack,b ∈ X.env.locals :: X.fs:=fun b hb=>by
 rcases I.ok.stk with e | ⟨e,hf⟩
 ·rw [e] at hb; exact yH _ hb
 ·rw [e] at hb
  unfold frs at hb; rw [List.filterMap_cons,hf] at hb; exact hb
theorem Inv.stkFree (I:Inv X pins σ H s):∀ b ∈ frs X.stack,H b=none:=fun b hb=>by
 rcases yN.mp (I.stkSub b hb) with e | hb
 ·rw [e]; exact I.free
 ·obtain ⟨_,o,ho,_⟩:=I.ok.funs.mem hb
  exact I.base.free b o ho (I.ok.frf b hb) fun z=>I.ok.exfs b z hb
theorem Inv.step {g':Array GenState} {t':Nat} {d':Drawn} {ch:List Addr} (I:Inv X pins σ H s)
  (hch:∀ b ∈ ch,(b ∈ X.ex\/X.s₀.heap.objs.size<=b)/\b≠X.env.locals/\(∀ x c,X.env.cells.lookup x=some c->c≠b)/\∀ p ∈ X.pn ++ pins,p.1≠b)
  (keep:∀ b o,b≠X.env.locals->b ∉ X.fs->b ∉ ch->s.heap.get? b=some o->H b=none->h'.get? b=some o)
  (slot:∀ b o,b≠X.env.locals->b ∈ X.fs->b ∉ ch->s.heap.get? b=some o->H b=none->∃ sl,h'.get? b=some { o with slots:=sl }) (free:∀ b o,b ∉ ch->s.heap.get? b=some o->H b=none->H' b=none)
  (there:∀ b o,b ∉ ch->s.heap.get? b=some o->∃ o',h'.get? b=some o')
  (tups:∀ b xs,H b=some (.tup xs)->H' b=some (.tup xs)) (frzs:∀ b o u,H b=some (.frz o u)->H' b=some (.frz o u)) (tbls:∀ b ps,H b=some (.tbl ps)->∃ more,H' b=some (.tbl (ps ++ more)))
  (ns:∀ m,s.heap.Ns X.env.locals m->h'.Ns X.env.locals m) (hok:HOk X.prog X.w H' h') (hg:AllBare g') :
  Inv X pins σ H' { s with heap:=h',gens:=g',drawn:=d',toks:=t' }:=by
 have neL:∀ b o,X.s₀.heap.get? b=some o->b≠X.env.locals:=fun b o e=>ya (yX (yQ e) I.ok.above)
 have neC:∀ b o,X.s₀.heap.get? b=some o->b ∉ X.ex->b ∉ ch:=fun b o e hx hb=>by
  rcases (hch b hb).1 with z | z
  ·exact hx z
  ·exact yO (yX (yQ e) z) (Nat.lt_irrefl _)
 have cellK:∀ x c,X.env.cells.lookup x=some c->∀ v,s.heap.IsCell c v->h'.IsCell c v:=fun x c e v ⟨o,ho,hd⟩=>by
  have nch:c ∉ ch:=fun z=>(hch c z).2.2.1 x c e rfl
  by_cases hc:c ∈ X.fs
  ·obtain ⟨sl,q⟩:=slot c o (I.cne x c e) hc nch ho (I.freeC x c e)
   exact ⟨_,q,hd⟩
  ·exact ⟨o,keep c o (I.cne x c e) hc nch ho (I.freeC x c e),hd⟩
 refine ⟨I.ok,I.os,hg,⟨fun b o e n hb hx=>?_,fun b o e n hb hx=>?_,fun b o e n hx=>?_,fun b o e hx=>?_,fun b xs e=>tups b xs (I.base.tups b xs e),fun b o xs e=>frzs b o xs (I.base.frzs b o xs e),fun b ps e=>?_⟩,?_,fun x c e=>?_,?_,fun x c e=>?_,fun p hp=>?_,hok,I.len⟩
 ·exact keep b o (neL b o e) hb (neC b o e hx) (I.base.keep b o e n hb hx) (I.base.free b o e n hx)
 ·obtain ⟨sl,e1⟩:=I.base.slot b o e n hb hx
  obtain ⟨sl',e2⟩:=slot b _ (neL b o e) hb (neC b o e hx) e1 (I.base.free b o e n hx); exact ⟨sl',e2⟩
 ·obtain ⟨o',e1⟩:=I.base.there b o e hx
  exact free b o' (neC b o e hx) e1 (I.base.free b o e n hx)
 ·obtain ⟨o',e1⟩:=I.base.there b o e hx
  exact there b o' (neC b o e hx) e1
 ·obtain ⟨m1,e1⟩:=I.base.tbls b ps e
  obtain ⟨m2,e2⟩:=tbls b _ e1
  exact ⟨m1 ++ m2,by rw [e2,Array.append_assoc]⟩
 ·obtain ⟨m,hn,hl⟩:=I.loc
  refine ⟨m,ns m hn,fun i x v e1 e2 e3=>?_⟩
  obtain ⟨u,r,l⟩:=hl i x v e1 e2 e3; refine ⟨u,r,?_⟩
  rcases l with l | ⟨k,c,e,z⟩
  ·exact .inl l
  ·exact .inr ⟨k,c,e,cellK x c e _ z⟩
 ·obtain ⟨v,z⟩:=I.cell x c e
  exact ⟨v,cellK x c e v z⟩
 ·obtain ⟨m,⟨o,_,_,ho,_⟩,_⟩:=I.loc
  exact free _ o (fun z=>(hch _ z).2.1 rfl) ho I.free
 ·obtain ⟨v,o,ho,hd⟩:=I.cell x c e
  exact free c o (fun z=>(hch c z).2.2.1 x c e rfl) ho (I.freeC x c e)
 ·obtain ⟨e,n,ne,nf,d⟩:=I.pin p hp
  have nch:p.1 ∉ ch:=fun z=>(hch p.1 z).2.2.2 p hp rfl
  exact ⟨keep p.1 p.2 ne nf nch e n,free p.1 p.2 nch e n,ne,nf,d⟩
theorem Inv.un {t':Nat} (I:Inv X pins σ H s) (u:Un X.fs [] H H' s.heap h') (hok:HOk X.prog X.w H' h'):Inv X pins σ H' { s with heap:=h',toks:=t' }:=by
 obtain ⟨m,⟨o,es,ep,ho,r⟩,_⟩:=id I.loc
 obtain ⟨sl,hL⟩:=u.any ho I.free (by simp)
 exact I.step (g':=s.gens) (d':=s.drawn) (ch:=[]) (fun _ z=>nomatch z) (fun b o _ hb _ e n=>u.keep b o e n hb (by simp)) (fun b o _ hb _ e n=>u.slot b o e n hb (by simp)) (fun b o _ e n=>u.free b o e n (by simp)) (fun b o _ e=>u.there b o e (by simp)) u.tups u.frzs u.tbls (fun m' hm=>by
  obtain ⟨o',es',ep',ho',r'⟩:=hm
  rw [ho] at ho'; cases ho'
  exact ⟨_,es',ep',hL,r'⟩) hok I.bare
theorem Inv.call {g':Array GenState} {t':Nat} {d':Drawn} {ch:List Addr} (I:Inv X pins σ H s) (u:Un (frs X.stack) ch H H' s.heap h') (hok:HOk X.prog X.w H' h') (hg:AllBare g')
  (hch:∀ b ∈ ch,(b ∈ X.ex\/X.s₀.heap.objs.size<=b)/\b≠X.env.locals/\(∀ x c,X.env.cells.lookup x=some c->c≠b)/\∀ p ∈ X.pn ++ pins,p.1≠b) :
  Inv X pins σ H' { s with heap:=h',gens:=g',drawn:=d',toks:=t' }:=by
 obtain ⟨m,⟨o,es,ep,ho,r⟩,_⟩:=id I.loc
 obtain ⟨sl,hL⟩:=u.any ho I.free fun z=>(hch _ z).2.1 rfl
 exact I.step (ch:=ch) hch (fun b o hL hb hc e n=>u.keep b o e n (fun z=>(yN.mp (I.stkSub b z)).elim hL hb) hc) (fun b o _ _ hc e n=>u.any e n hc) (fun b o hc e n=>u.free b o e n hc) (fun b o hc e=>u.there b o e hc) u.tups u.frzs u.tbls (fun m' hm=>by
  obtain ⟨o',es',ep',ho',r'⟩:=hm
  rw [ho] at ho'; cases ho'
  exact ⟨_,es',ep',hL,r'⟩) hok hg
theorem Inv.turned {t':Nat} {it:Addr} (I:Inv X pins σ H s) (k:∀ b o,b≠it->s.heap.get? b=some o->h'.get? b=some o) (hn:H it=none) (hL:it≠X.env.locals)
  (h1:it ∈ X.ex\/X.s₀.heap.objs.size<=it) (h2:∀ x c,X.env.cells.lookup x=some c->c≠it) (h3:∀ p ∈ X.pn ++ pins,p.1≠it):Inv X pins σ H { s with heap:=h',toks:=t' }:=by
 have nit:∀ b u,H b=some u->b≠it:=fun b u e z=>by rw [z,hn] at e; cases e
 refine I.step (g':=s.gens) (d':=s.drawn) (ch:=[it]) (fun b hb=>?_) (fun b o _ _ hc e _=>k b o (fun z=>hc (by simp [z])) e) (fun b o _ _ hc e _=>⟨o.slots,k b o (fun z=>hc (by simp [z])) e⟩) (fun _ _ _ _ n=>n)
  (fun b o hc e=>⟨o,k b o (fun z=>hc (by simp [z])) e⟩) (fun _ _ e=>e) (fun _ _ _ e=>e) (fun b ps e=>⟨#[],by rw [e]; simp⟩) (fun m hm=>?_) (fun b u e=>?_) I.bare
 ·have e:b=it:=by simpa using hb
  subst e; exact ⟨h1,hL,h2,h3⟩
 ·obtain ⟨o,es,ep,ho,r⟩:=hm
  exact ⟨o,es,ep,k _ o (Ne.symm hL) ho,r⟩
 ·refine (I.hok b u e).stay (fun c v hc q=>k c v ?_ q) (fun _ q=>q) fun _ _ q=>q
  rcases hc with z | z
  ·rw [z]; exact nit b u e
  ·exact nit c _ z
theorem Inv.tok (I:Inv X pins σ H s) (t:Nat):Inv X pins σ H { s with toks:=t }:=I.un (h':=s.heap) (t':=t) Un.refl I.hok
theorem Inv.kept {t':Nat} (I:Inv X pins σ H s) (k:∀ b u,s.heap.get? b=some u->h'.get? b=some u):Inv X pins σ H { s with heap:=h',toks:=t' }:=I.un (Un.kept k) (I.hok.kept k)
theorem Inv.laid {a:Addr} {o:HO} {t':Nat} (I:Inv X pins σ H s) (k:∀ b u,s.heap.get? b=some u->h'.get? b=some u) (hp:s.heap.objs.size<=a) (new:zbN X.prog X.w (upd H a o) h' a o) :
  Inv X pins σ (upd H a o) { s with heap:=h',toks:=t' }:=I.un (Un.laid k hp (I.hok.fresh hp)) (I.hok.laid k hp new)
theorem Inv.write {x e:Addr} {o:HO} {t':Nat} (I:Inv X pins σ H s) (mu:Mut (H x)) (he:e=x\/H e=some (.own x)) (k:∀ b u,b≠e->s.heap.get? b=some u->h'.get? b=some u) (heo:∃ u,h'.get? e=some u)
  (new:zbN X.prog X.w (upd H x o) h' x o):Inv X pins σ (upd H x o) { s with heap:=h',toks:=t' }:=I.un (Un.write mu he k heo) (I.hok.write mu he k heo new)
theorem Inv.pins_of {pins':List (Addr × Obj)} (I:Inv X pins σ H s) (h:∀ p ∈ pins',s.heap.get? p.1=some p.2/\H p.1=none/\p.1≠X.env.locals/\p.1 ∉ X.fs/\∀ v,p.2.data≠.cell v):Inv X pins' σ H s :=
 ⟨I.ok,I.os,I.bare,I.base,I.loc,I.cell,I.free,I.freeC,fun p hp=>(yn.mp hp).elim (fun z=>I.pin p (List.mem_append_left _ z)) (h p),I.hok,I.len⟩
theorem ziw {N:List Str} (hN:N.Nodup) {i j:Nat} {x:Str} (a:N[i]?=some x) (b:N[j]?=some x):i=j:=by
 obtain ⟨h1,e1⟩:=yG.mp a; obtain ⟨h2,e2⟩:=yG.mp b; exact (List.getElem_inj hN).mp (e1.trans e2.symm)
theorem zgj {M:Model} {A:Around} {E:Value->Shared->Prop} {i:Nat} {x:Str} {v:V} {u:Value} {Q:Unit->Shared->Prop} (I:Inv X pins σ H s) (hN:X.N.Nodup) (hi:X.N[i]?=some x) (hx:Loc X.env.scope x) (r:za8 v u)
  (h:∀ s',Inv X pins (σ.set i (some v)) H s'->(∃ a,Heap.SameBut a s.heap s'.heap/\(a=X.env.locals\/X.env.cells.lookup x=some a))->Q () s') (hf:X.fn x=true\/X.env.scope.names.lookup x=some .local:=by first | exact .inl rfl | exact .inr rfl | assumption):wpAny M A (storeName X.env x u) Q E s:=by
 obtain ⟨m,hn,hl⟩:=id I.loc
 have hcls:(X.env.scope.kind == .class || (X.env.scope.kind == .module && X.env.locals != X.env.globals))=false:=by rw [I.ok.kind]; rfl
 have hiσ:i<σ.length:=by rw [I.len]; exact (yG.mp hi).1
 have cne:=I.cne
 have tracked:∀ {a:Addr} {h':Heap},(∃ o,s.heap.get? a=some o/\H a=none)->Heap.SameBut a s.heap h'->HOk X.prog X.w H h':=fun {a h'} ha hs b ob e=>by
  obtain ⟨_,_,hfree⟩:=ha
  refine (I.hok b ob e).stay (fun c w' hc q=>(hs.2 c ?_).trans q) (fun _ q=>q) fun _ _ q=>q
  rintro rfl
  rcases hc with rfl | hc
  ·rw [hfree] at e; cases e
  ·rw [hfree] at hc; cases hc
 rcases hx with hk | hk
 ·refine wpAny_storeName_local hk hn (fun h' hn' hs=>?_) hcls
  obtain ⟨oL,_,_,hoL,_⟩:=id hn
  refine h _ ⟨I.ok,I.os,I.bare,⟨fun b o e n hb hx=>?_,fun b o e n hb hx=>?_,I.base.free,fun b o e hx=>?_,I.base.tups,I.base.frzs,I.base.tbls⟩,⟨_,hn',fun j y v' e1 e2 e3=>?_⟩,fun y c e=>?_,I.free,I.freeC,fun p hp=>?_,tracked ⟨oL,hoL,I.free⟩ hs,by simpa using I.len⟩ ⟨_,hs,.inl rfl⟩
  ·exact (hs.2 b (ya (yX (yQ e) I.ok.above))).trans (I.base.keep b o e n hb hx)
  ·obtain ⟨sl,e1⟩:=I.base.slot b o e n hb hx
   exact ⟨sl,(hs.2 b (ya (yX (yQ e) I.ok.above))).trans e1⟩
  ·obtain ⟨o',e1⟩:=I.base.there b o e hx
   exact ⟨o',(hs.2 b (ya (yX (yQ e) I.ok.above))).trans e1⟩
  ·by_cases hj:j=i
   ·subst hj
    rw [hi] at e1; cases e1
    rw [Yi hiσ] at e2; cases e2
    exact ⟨u,r,.inl ⟨hk,by simp⟩⟩
   ·rw [yk (Ne.symm hj)] at e2
    obtain ⟨u',r',q⟩:=hl j y v' e1 e2 e3; refine ⟨u',r',?_⟩
    rcases q with ⟨k,e⟩ | ⟨k,c,e,z⟩
    ·refine .inl ⟨k,?_⟩
     have:y≠x:=fun e=>hj (ziw hN e1 (e ▸ hi))
     simp [this,e]
    ·exact .inr ⟨k,c,e,z.sameBut hs (cne y c e)⟩
  ·obtain ⟨w',z⟩:=I.cell y c e
   exact ⟨w',z.sameBut hs (cne y c e)⟩
  ·obtain ⟨e,n,ne,nf,d⟩:=I.pin p hp
   exact ⟨(hs.2 p.1 ne).trans e,n,ne,nf,d⟩
 ·have hfn:X.fn x=true:=by
   rcases hf with z | z
   ·exact z
   ·rw [z] at hk; cases hk
  obtain ⟨c,hc⟩:=I.ok.has x (.inl hk); obtain ⟨w',z⟩:=I.cell x c hc
  refine wpAny_storeName_cell I.ok.kind hk hc z (fun h' hc' hs=>?_)
  obtain ⟨oc,hoc,hocd⟩:=id z
  refine h { s with heap:=h' } ⟨I.ok,I.os,I.bare,⟨fun b o e n hb hx=>?_,fun b o e n hb hx=>?_,I.base.free,fun b o e hx=>?_,I.base.tups,I.base.frzs,I.base.tbls⟩,⟨m,hn.sameBut hs (Ne.symm (cne x c hc)),fun j y v' e1 e2 e3=>?_⟩,fun y c' e=>?_,I.free,I.freeC,fun p hp=>?_,tracked ⟨oc,hoc,I.freeC x c hc⟩ hs,by simpa using I.len⟩ ⟨c,hs,.inr hc⟩
  ·exact (hs.2 b (ya (yX (yQ e) (I.ok.cab x c hfn hc)))).trans (I.base.keep b o e n hb hx)
  ·obtain ⟨sl,e1⟩:=I.base.slot b o e n hb hx
   exact ⟨sl,(hs.2 b (ya (yX (yQ e) (I.ok.cab x c hfn hc)))).trans e1⟩
  ·obtain ⟨o',e1⟩:=I.base.there b o e hx
   exact ⟨o',(hs.2 b (ya (yX (yQ e) (I.ok.cab x c hfn hc)))).trans e1⟩
  ·by_cases hj:j=i
   ·subst hj
    rw [hi] at e1; cases e1
    rw [Yi hiσ] at e2; cases e2; exact ⟨u,r,.inr ⟨.inl hk,c,hc,hc'⟩⟩
   ·rw [yk (Ne.symm hj)] at e2
    obtain ⟨u',r',q⟩:=hl j y v' e1 e2 e3; refine ⟨u',r',?_⟩
    rcases q with q | ⟨k,c',e,z'⟩
    ·exact .inl q
    ·refine .inr ⟨k,c',e,z'.sameBut hs ?_⟩
     rintro rfl
     exact hj (ziw hN e1 (I.ok.inj _ _ _ e hc ▸ hi))
  ·by_cases hcc:c'=c
   ·subst hcc; exact ⟨_,hc'⟩
   ·obtain ⟨w2,z2⟩:=I.cell y c' e
    exact ⟨w2,z2.sameBut hs hcc⟩
  ·obtain ⟨e,n,ne,nf,d⟩:=I.pin p hp
   refine ⟨(hs.2 p.1 ?_).trans e,n,ne,nf,d⟩; intro q; rw [q,hoc] at e
   have q':oc=p.2:=Option.some.inj e
   exact d w' (by rw [<- q']; exact hocd)
theorem zia {M:Model} {A:Around} {E:Value->Shared->Prop} {i:Nat} {x:Str} {v:V} {u:Value} {Q:Unit->Shared->Prop} (I:Inv X pins σ H s) (hN:X.N.Nodup) (hi:X.N[i]?=some x) (hx:Loc X.env.scope x) (r:za8 v u)
  (h:∀ s',Inv X pins (σ.set i (some v)) H s'->Q () s') (hf:X.fn x=true\/X.env.scope.names.lookup x=some .local:=by first | exact .inl rfl | exact .inr rfl | assumption):wpAny M A (storeName X.env x u) Q E s :=
 zgj I hN hi hx r (fun s' I' _=>h s' I') hf
theorem Inv.call' {s':Shared} {ch:List Addr} (I:Inv X pins σ H s) (ho:s'.os=s.os) (u:Un (frs X.stack) ch H H' s.heap s'.heap) (hok:HOk X.prog X.w H' s'.heap) (hg:AllBare s'.gens)
  (hch:∀ b ∈ ch,(b ∈ X.ex\/X.s₀.heap.objs.size<=b)/\b≠X.env.locals/\(∀ x c,X.env.cells.lookup x=some c->c≠b)/\∀ p ∈ X.pn ++ pins,p.1≠b):Inv X pins σ H' s':=by
 obtain ⟨h',g',d',t',o'⟩:=s'
 have e:o'=s.os:=ho
 subst e; exact I.call (g':=g') (t':=t') (d':=d') u hok hg hch
end
abbrev XK:=Value->Option Addr->Hp->Prop
abbrev St:=List (Option V)
abbrev VK:=V->Hp->Prop
abbrev TE:=St->Hp->VK->Prop
abbrev TT:=St->Hp->(Bool->Hp->Prop)->Prop
abbrev TA:=St->Hp->(List V->Hp->Prop)->Prop
structure Ends where
 nx:St->Hp->Prop
 rt:VK
 bk:St->Hp->Prop:=fun _ _=>False
 ct:St->Hp->Prop:=fun _ _=>False
abbrev TS:=Ends->St->Hp->Prop
def EP (X:Cx) (pins:List (Addr × Obj)) (σ:St) (Q:VK) (u:Value) (s':Shared):Prop:=∃ v H',Inv X pins σ H' s'/\za8 v u/\Q v H'
def TP (X:Cx) (pins:List (Addr × Obj)) (σ:St) (Q:Bool->Hp->Prop) (b:Bool) (s':Shared):Prop:=∃ H',Inv X pins σ H' s'/\Q b H'
def AP (X:Cx) (pins:List (Addr × Obj)) (σ:St) (Q:List V->Hp->Prop) (us:List Value) (s':Shared):Prop:=∃ vs H',Inv X pins σ H' s'/\zaL vs us/\Q vs H'
def SP (X:Cx) (pins:List (Addr × Obj)) (D:Ends) (f:Flow) (s':Shared):Prop :=
 match f with
 | .next=>∃ σ' H',Inv X pins σ' H' s'/\D.nx σ' H'
 | .brk=>∃ σ' H',Inv X pins σ' H' s'/\D.bk σ' H'
 | .cont=>∃ σ' H',Inv X pins σ' H' s'/\D.ct σ' H'
 | .ret u=>∃ v σ' H',Inv X pins σ' H' s'/\za8 v u/\D.rt v H'
def PE (X:Cx) (e:Expr) (t:TE):Prop :=
 ∀ (pins:List (Addr × Obj)) (s:Shared) (σ:St) (H:Hp) (Q:VK),Inv X pins σ H s->t σ H Q->wpAny (model X.prog X.w) X.A (eval e X.env) (EP X pins σ Q) X.xe s
def PT (X:Cx) (e:Expr) (t:TT):Prop :=
 ∀ (pins:List (Addr × Obj)) (s:Shared) (σ:St) (H:Hp) (Q:Bool->Hp->Prop),Inv X pins σ H s->t σ H Q->wpAny (model X.prog X.w) X.A (isTrue e X.env (eval e X.env)) (TP X pins σ Q) X.xe s
def PW (X:Cx) (e:Expr) (t:TT):Prop :=
 ∀ (whole:Sem Value) (pins:List (Addr × Obj)) (s:Shared) (σ:St) (H:Hp) (Q:Bool->Hp->Prop),Inv X pins σ H s->t σ H Q->wpAny (model X.prog X.w) X.A (isTrue e X.env whole) (TP X pins σ Q) X.xe s
def PA (X:Cx) (es:List Expr) (t:TA):Prop :=
 ∀ (pos:Pos) (pins:List (Addr × Obj)) (s:Shared) (σ:St) (H:Hp) (Q:List V->Hp->Prop),Inv X pins σ H s->t σ H Q->wpAny (model X.prog X.w) X.A (spliced (backTo pos (starEach es X.env))) (AP X pins σ Q) X.xe s
def PS (X:Cx) (st:Stmt) (t:TS):Prop :=
 ∀ (pins:List (Addr × Obj)) (s:Shared) (σ:St) (H:Hp) (D:Ends),Inv X pins σ H s->t D σ H->wpAny (model X.prog X.w) X.A (exec st X.env) (SP X pins D) X.xe s
def PSs (X:Cx) (st:List Stmt) (t:TS):Prop :=
 ∀ (pins:List (Addr × Obj)) (s:Shared) (σ:St) (H:Hp) (D:Ends),Inv X pins σ H s->t D σ H->wpAny (model X.prog X.w) X.A (execs st X.env) (SP X pins D) X.xe s
theorem thn {α:Type} {t:Sem α} {Q Q':α->Shared->Prop} {M:Model} {A:Around} {E:Value->Shared->Prop} {s:Shared} (h:wpAny M A t Q E s) (hQ:∀ a s,Q a s->Q' a s):wpAny M A t Q' E s:=Ya h hQ fun _ _ x=>x
section
variable {X:Cx}
def ziZ (i:Nat):TE:=fun σ H Q=>∃ v,σ[i]?=some (some v)/\Q v H
def tC (v:V):TE:=fun _ H Q=>Q v H
theorem zcB {i:Nat} {x:Str} {pos:Pos} (hN:X.N[i]?=some x) (hv:Vis X.env.scope x) (hd:(x == ("__debug__":Str))=false:=by decide) (hcd:(x == ("__classdict__":Str))=false:=by decide):PE X (.Name x pos) (ziZ i):=by
 intro pins s σ H Q I h; obtain ⟨v,e,h⟩:=h; obtain ⟨m,hn,hl⟩:=I.loc; obtain ⟨u,r,l⟩:=hl i x v hN e hv
 have fin:EP X pins σ Q u s:=⟨v,H,I,r,h⟩
 rcases l with ⟨hk,hm⟩ | ⟨hk,c,hc,hcell⟩
 ·exact wpAny_Name (wpAny_loadName_local I.ok.kind hk hn hm fin) hd
 ·rcases hk with hk | hk
  ·exact wpAny_Name (wpAny_loadName_cell I.ok.kind hk hc hcell fin) hd
  ·exact wpAny_Name (wpAny_loadName_free I.ok.kind hk hc hcell fin hcd) hd
theorem znp {i j pos}:PE X (.Constant (.int i) j pos) (tC (.int i)):=fun _ _ _ H _ I h=>wpAny_Constant_int ⟨.int i,H,I.tok _,⟨_,rfl⟩,h⟩
theorem zsm {b j pos}:PE X (.Constant (.bool b) j pos) (tC (.bl b)):=fun _ _ _ H _ I h=>Constant_bool ⟨.bl b,H,I,rfl,h⟩
theorem zqq {j pos}:PE X (.Constant .none j pos) (tC .non):=fun _ _ _ H _ I h=>Constant_none ⟨.non,H,I,rfl,h⟩
theorem zqn {x j pos}:PE X (.Constant (.str x) j pos) (tC (.str x)):=fun _ _ _ H _ I h=>Calls.Constant_str ⟨.str x,H,I.tok _,⟨_,rfl⟩,h⟩
def Gl (X:Cx) (x:Str):Prop:=X.env.kindOf x=some .globalImplicit
theorem zkJ {E:Value->Shared->Prop} {pins:List (Addr × Obj)} {s:Shared} {σ:St} {H:Hp} {x:Str} {u:Value} {pos:Pos} {Q:Value->Shared->Prop} (I:Inv X pins σ H s) (hg:Gl X x) (hm:X.mg x=some u) (h:Q u s)
  (hd:(x == ("__debug__":Str))=false:=by decide):wpAny (model X.prog X.w) X.A (eval (.Name x pos) X.env) Q E s :=
 Calls.Name_function_global I.ok.kind hg (Calls.loadGlobal_global (by rw [I.ok.glob]; exact I.mod.glob.keeps I.bk) hm h) hd
theorem zc7 {E:Value->Shared->Prop} {pins:List (Addr × Obj)} {s:Shared} {σ:St} {H:Hp} {x:Str} {u:Value} {pos:Pos} {Q:Value->Shared->Prop} (I:Inv X pins σ H s) (hg:Gl X x) (hm:X.mg x=none) (hv:bootBuiltins x=some u) (h:Q u s)
  (hn:x≠"__name__":=by decide) (hd:(x == ("__debug__":Str))=false:=by decide):wpAny (model X.prog X.w) X.A (eval (.Name x pos) X.env) Q E s:=by
 obtain ⟨mb,h1,h2⟩:=I.mod.blt
 exact Calls.Name_function_global I.ok.kind hg (Calls.loadGlobal_builtin (by rw [I.ok.glob]; exact I.mod.glob.keeps I.bk) hm (by rw [I.ok.blt]; exact h1.keeps I.bk) ((h2 x hn).trans hv) h) hd
theorem zkl {x:Str} {v:V} {u:Value} {pos:Pos} (hg:Gl X x) (hm:X.mg x=some u) (r:za8 v u) (hd:(x == ("__debug__":Str))=false:=by decide):PE X (.Name x pos) (tC v) :=
 fun _ _ _ H _ I h=>zkJ I hg hm ⟨v,H,I,r,h⟩ hd
theorem zoG {x:Str} {v:V} {u:Value} {pos:Pos} (hg:Gl X x) (hm:X.mg x=none) (hv:bootBuiltins x=some u) (r:za8 v u) (hn:x≠"__name__":=by decide) (hd:(x == ("__debug__":Str))=false:=by decide):PE X (.Name x pos) (tC v) :=
 fun _ _ _ H _ I h=>zc7 I hg hm hv ⟨v,H,I,r,h⟩ hn hd
variable {a b:Expr} {ta tb:TE} {pos:Pos}
def tB (t:TE):TT:=fun σ H Q=>t σ H fun x H1=>∃ c,x=.bl c/\Q c H1
theorem zqg {e:Expr} {t:TE} (h:PE X e t) (he:∀ whole,isTrue e X.env whole=(do let v <- whole; standAt e.pos; holding [v] (truthy v)):=by intro _; rfl):PT X e (tB t):=by
 intro pins s σ H Q I hw
 refine isTrue_plain (thn (h pins s σ H _ I hw) fun v s1 ⟨x,H1,I1,r1,q1⟩=>?_) (he _)
 obtain ⟨d,rfl,q⟩:=q1; cases r1; exact YX ⟨H1,I1,q⟩
variable {tA tB':TT} {zdP:List Expr}
def ztD (t u:TT):TT:=fun σ H Q=>t σ H fun c H1=>if c=true then u σ H1 Q else Q false H1
def tOr (t u:TT):TT:=fun σ H Q=>t σ H fun c H1=>if c=true then Q true H1 else u σ H1 Q
def ztz (t:TT):TT:=fun σ H Q=>t σ H fun c H1=>Q (!c) H1
theorem zoe (ha:PT X a tA):PW X (.BoolOp .And [a] pos) tA:=by
 intro wh pins s σ H Q I h
 refine isTrue_and (thn (ha pins s σ H Q I h) fun c s1 e=>?_)
 cases c with
 | true=>exact isTrue_and_nil e
 | false=>exact e
theorem zqd (ha:PT X a tA):PW X (.BoolOp .Or [a] pos) tA:=by
 intro wh pins s σ H Q I h
 refine isTrue_or (thn (ha pins s σ H Q I h) fun c s1 e=>?_)
 cases c with
 | false=>exact isTrue_or_nil e
 | true=>exact e
theorem zqe (ha:PT X a tA) (hb:PW X (.BoolOp .And (b :: zdP) pos) tB'):PW X (.BoolOp .And (a :: b :: zdP) pos) (ztD tA tB'):=by
 intro wh pins s σ H Q I h
 refine isTrue_and (thn (ha pins s σ H _ I h) fun c s1 ⟨H1,I1,q1⟩=>?_)
 cases c with
 | true=>exact hb wh pins s1 σ H1 Q I1 q1
 | false=>exact ⟨H1,I1,q1⟩
theorem zsi (ha:PT X a tA) (hb:PW X (.BoolOp .Or (b :: zdP) pos) tB'):PW X (.BoolOp .Or (a :: b :: zdP) pos) (tOr tA tB'):=by
 intro wh pins s σ H Q I h
 refine isTrue_or (thn (ha pins s σ H _ I h) fun c s1 ⟨H1,I1,q1⟩=>?_)
 cases c with
 | true=>exact ⟨H1,I1,q1⟩
 | false=>exact hb wh pins s1 σ H1 Q I1 q1
theorem zqh (ha:PT X a tA):PT X (.UnaryOp .Not a pos) (ztz tA):=by
 intro pins s σ H Q I h
 exact isTrue_not (ha pins s σ H (fun c H1=>Q (!c) H1) I h)
def zr1 (ta tb:TE):TE:=fun σ H Q=>ta σ H fun x H1=>∃ c,x=.bl c/\if c=true then tb σ H1 Q else Q (.bl false) H1
theorem zqp {op} {t:TE} (h:PE X a t):PE X (.BoolOp op [a] pos) t:=fun pins s σ H Q I hw=>BoolOp_one (h pins s σ H Q I hw)
theorem zqu (ha:PE X a ta) (hb:PE X (.BoolOp .And (b :: zdP) pos) tb):PE X (.BoolOp .And (a :: b :: zdP) pos) (zr1 ta tb):=by
 intro pins s σ H Q I h
 refine BoolOp_and (thn (ha pins s σ H _ I h) fun v s1 ⟨x,H1,I1,r1,q1⟩=>?_)
 obtain ⟨c,rfl,q1⟩:=q1; cases r1; refine YX ?_
 cases c with
 | true=>exact hb pins s1 σ H1 Q I1 q1
 | false=>exact ⟨.bl false,H1,I1,rfl,q1⟩
def tIf (t:TT) (ta tb:TE):TE:=fun σ H Q=>t σ H fun c H1=>if c=true then ta σ H1 Q else tb σ H1 Q
theorem zml {c:Expr} (hc:PT X c tA) (ha:PE X a ta) (hb:PE X b tb):PE X (.IfExp c a b pos) (tIf tA ta tb):=by
 intro pins s σ H Q I h
 refine wpAny_IfExp (thn (hc pins s σ H _ I h) fun d s1 ⟨H1,I1,q1⟩=>?_)
 cases d with
 | true=>exact ha pins s1 σ H1 Q I1 q1
 | false=>exact hb pins s1 σ H1 Q I1 q1
end
def SqL (K:W.Frag) (H:Hp) (a:Addr) (xs:List V):Prop :=
 Rd H a (.lst xs) \/
  ∃ (o:Obj) (its:Array Value) (n:Nat),K.lookup a=some o/\o.cls=.type "list"/\o.dict=none/\o.data=.seq its n/\its.size<=sizeLine/\zaL xs its.toList
def SqT (K:W.Frag) (H:Hp) (a:Addr) (xs:List V):Prop :=
 Rd H a (.tup xs) \/
  ∃ (o:Obj) (its:Array Value) (n:Nat),K.lookup a=some o/\o.cls=.type "tuple"/\o.data=.seq its n/\its.size<=sizeLine/\zaL xs its.toList
def zt6:Value->Option V
 | .none=>some .non
 | .bool b=>some (.bl b)
 | .int i _=>some (.int i)
 | .str x _=>some (.str x)
 | .bytes b _=>some (.byt b)
 | .float b _=>some (.flt b)
 | .ref a=>some (.ref a)
 | .type n=>some (.ty n)
 | _=>none
theorem za8.abs {x:V} {u:Value} (r:za8 x u):zt6 u=some x:=by
 cases x with
 | non=>cases r; rfl
 | bl _=>cases r; rfl
 | int _=>obtain ⟨t,rfl⟩:=r; rfl
 | str _=>obtain ⟨t,rfl⟩:=r; rfl
 | byt _=>obtain ⟨t,rfl⟩:=r; rfl
 | flt _=>obtain ⟨t,rfl⟩:=r; rfl
 | ref _=>cases r; rfl
 | ty _=>cases r; rfl
theorem za8.inj {x y:V} {u:Value} (r:za8 x u) (q:za8 y u):x=y:=Option.some.inj (r.abs.symm.trans q.abs)
theorem zaL.inj:∀ {xs ys:List V} {us:List Value},zaL xs us->zaL ys us->xs=ys
 | _,_,_,.nil,.nil=>rfl
 | _,_,_,.cons r t,.cons r' t'=>by rw [r.inj r',zaL.inj t t']
section
variable {X:Cx} {pins:List (Addr × Obj)} {σ:St} {H:Hp} {s:Shared} {a:Addr} {xs ys:List V}
theorem SqL.of {K:W.Frag} (h:H a=some (.lst xs)):SqL K H a xs:=.inl (.inl h)
theorem SqT.of {K:W.Frag} (h:H a=some (.tup xs)):SqT K H a xs:=.inl (.inl h)
theorem Inv.list (I:Inv X pins σ H s) (h:SqL X.K H a xs):∃ its:List Value,zaL xs its/\PlainL s.heap a its.toArray/\xs.length<=sizeLine:=by
 rcases h with h | ⟨o,its,n,hk,hc,hd,hs,hz,r⟩
 ·obtain ⟨z,its,n,r,e⟩:=h.ok I.hok
  exact ⟨its,r,⟨_,n,e,rfl,rfl,rfl⟩,z⟩
 ·refine ⟨its.toList,r,⟨o,n,I.kIn a o hk,hc,hd,by simpa using hs⟩,?_⟩
  have e:=r.length; simp only [yw] at e; omega
theorem Inv.tuple (I:Inv X pins σ H s) (h:SqT X.K H a xs):∃ its:List Value,zaL xs its/\IsTup s.heap a its.toArray/\xs.length<=sizeLine:=by
 rcases h with h | ⟨o,its,n,hk,hc,hs,hz,r⟩
 ·obtain ⟨z,its,r,p⟩:=h.ok I.hok
  exact ⟨its,r,p,z⟩
 ·refine ⟨its.toList,r,⟨o,I.kIn a o hk,hc,n,by simpa using hs⟩,?_⟩
  have e:=r.length; simp only [yw] at e; omega
theorem Inv.list_inj (I:Inv X pins σ H s) (h:SqL X.K H a xs) (h':SqL X.K H a ys):xs=ys:=by
 obtain ⟨its,r,⟨o,n,e,_,_,d⟩,_⟩:=I.list h
 obtain ⟨its',r',⟨o',n',e',_,_,d'⟩,_⟩:=I.list h'
 rw [e] at e'; cases e'
 rw [d] at d'
 injection d' with d1 _
 have:its=its':=by simpa using ye Array.toList d1
 subst this; exact r.inj r'
theorem Inv.tuple_inj (I:Inv X pins σ H s) (h:SqT X.K H a xs) (h':SqT X.K H a ys):xs=ys:=by
 obtain ⟨its,r,⟨o,e,_,n,d⟩,_⟩:=I.tuple h
 obtain ⟨its',r',⟨o',e',_,n',d'⟩,_⟩:=I.tuple h'
 rw [e] at e'; cases e'
 rw [d] at d'
 injection d' with d1 _
 have:its=its':=by simpa using ye Array.toList d1
 subst this; exact r.inj r'
end
abbrev Cx.wish (X:Cx) (E:Value->Shared->Prop):Cx:={ X with xe:=E }
abbrev Cx.nox (X:Cx):Cx:=X.wish fun _ _=>False
theorem Cx.Ok.wish {X:Cx} (ok:X.Ok) (E:Value->Shared->Prop):(X.wish E).Ok :=
 ⟨ok.mod,ok.kind,ok.glob,ok.blt,ok.above,ok.inj,ok.has,ok.cab,ok.hd,ok.frames,ok.stk,ok.exf,ok.bs,ok.bsz,ok.noex,ok.exfs,ok.funs,ok.frf,ok.tab⟩
theorem Cx.Ok.unwish {X:Cx} {E:Value->Shared->Prop} (ok:(X.wish E).Ok):X.Ok :=
 ⟨ok.mod,ok.kind,ok.glob,ok.blt,ok.above,ok.inj,ok.has,ok.cab,ok.hd,ok.frames,ok.stk,ok.exf,ok.bs,ok.bsz,ok.noex,ok.exfs,ok.funs,ok.frf,ok.tab⟩
section
variable {X:Cx} {pins:List (Addr × Obj)} {σ:St} {H:Hp} {s:Shared} {E:Value->Shared->Prop}
theorem Inv.wish (I:Inv X pins σ H s) (E:Value->Shared->Prop):Inv (X.wish E) pins σ H s:=⟨I.ok.wish E,I.os,I.bare,I.base,I.loc,I.cell,I.free,I.freeC,I.pin,I.hok,I.len⟩
theorem Inv.unwish (I:Inv (X.wish E) pins σ H s):Inv X pins σ H s:=⟨I.ok.unwish,I.os,I.bare,I.base,I.loc,I.cell,I.free,I.freeC,I.pin,I.hok,I.len⟩
theorem SP.unwish {D:Ends} {f:Flow} {s':Shared} (h:SP (X.wish E) pins D f s'):SP X pins D f s':=by
 cases f with
 | next=>obtain ⟨σ',H',I,q⟩:=h; exact ⟨σ',H',I.unwish,q⟩
 | brk=>obtain ⟨σ',H',I,q⟩:=h; exact ⟨σ',H',I.unwish,q⟩
 | cont=>obtain ⟨σ',H',I,q⟩:=h; exact ⟨σ',H',I.unwish,q⟩
 | ret u=>obtain ⟨v,σ',H',I,r,q⟩:=h; exact ⟨v,σ',H',I.unwish,r,q⟩
theorem PSs.nox {st:List Stmt} {t:TS} (h:PSs X.nox st t):PSs X st t:=fun pins s σ H D I hw =>
 Ya (h pins s σ H D (I.wish _) hw) (fun _ _ q=>q.unwish) fun _ _ z=>False.elim z
end
section
variable {X:Cx} {st:Stmt} {zdP:List Stmt} {t u:TS} {e:Expr} {te:TE} {pos:Pos}
def zrX:TS:=fun D σ H=>D.nx σ H
def ztx (t u:TS):TS:=fun D σ H=>t { D with nx:=u D } σ H
theorem zoj:PSs X [] zrX:=fun _ _ σ H _ I h=>wpAny_execs_nil ⟨σ,H,I,h⟩
theorem zfR (h1:PS X st t) (h2:PSs X zdP u):PSs X (st :: zdP) (ztx t u):=by
 intro pins s σ H D I h
 refine wpAny_execs_cons (thn (h1 pins s σ H { D with nx:=u D } I h) fun f s1 q=>?_)
 cases f with
 | next =>
  obtain ⟨σ',H',I',q⟩:=q; exact h2 pins s1 σ' H' D I' q
 | ret v=>exact q
 | brk=>exact q
 | cont=>exact q
theorem zka (h1:PS X st t):PSs X [st] t:=by
 intro pins s σ H D I h
 refine wpAny_execs_cons (thn (h1 pins s σ H D I h) fun f s1 q=>?_)
 cases f with
 | next=>exact wpAny_execs_nil q
 | ret v=>exact q
 | brk=>exact q
 | cont=>exact q
theorem Inv.quiet {pins:List (Addr × Obj)} {σ:St} {H:Hp} {s:Shared} (I:Inv X pins σ H s):interactive X.env=false:=by simp [interactive,I.ok.kind]
def znY (te:TE):TS:=fun D σ H=>te σ H fun _ H1=>D.nx σ H1
theorem zke (he:PE X e te) (hs:swapsWith e none pos.line X.env=pure false:=by rfl):PS X (.Expr e pos) (znY te):=by
 intro pins s σ H D I h
 exact wpAny_Expr_any (thn (he pins s σ H _ I h) fun v s1 ⟨x,H1,I1,r1,q1⟩=>⟨σ,H1,I1,q1⟩) I.quiet hs
def zty (te:TE):TS:=fun D σ H=>te σ H D.rt
theorem zkc (he:PE X e te):PS X (.Return (some e) pos) (zty te):=by
 intro pins s σ H D I h
 exact wpAny_Return_some (thn (he pins s σ H _ I h) fun v s1 ⟨x,H1,I1,r1,q1⟩=>⟨x,σ,H1,I1,r1,q1⟩)
def ztA (c:TT) (t u:TS):TS:=fun D σ H=>c σ H fun b H1=>if b=true then t D σ H1 else u D σ H1
theorem zsj {c:Expr} {a b:List Stmt} {tc:TT} (hc:PT X c tc) (ha:PSs X a t) (hb:PSs X b u):PS X (.If c a b pos) (ztA tc t u):=by
 intro pins s σ H D I h
 refine wpAny_If (thn (hc pins s σ H _ I h) fun d s1 ⟨H1,I1,q1⟩=>?_)
 cases d with
 | true=>exact ha pins s1 σ H1 D I1 q1
 | false=>exact hb pins s1 σ H1 D I1 q1
end
abbrev TG:=V->St->Hp->(St->Hp->Prop)->Prop
abbrev TGs:=List V->St->Hp->(St->Hp->Prop)->Prop
def PG (X:Cx) (target:Expr) (t:TG):Prop :=
 ∀ (pins:List (Addr × Obj)) (s:Shared) (σ:St) (H:Hp) (v:V) (u:Value) (Q:St->Hp->Prop),Inv X pins σ H s->za8 v u->t v σ H Q ->
  wpAny (model X.prog X.w) X.A (assign target X.env u) (fun _ s'=>∃ σ' H',Inv X pins σ' H' s'/\Q σ' H') X.xe s
def PGs (X:Cx) (ts:List Expr) (t:TGs):Prop :=
 ∀ (pins:List (Addr × Obj)) (s:Shared) (σ:St) (H:Hp) (vs:List V) (us:List Value) (Q:St->Hp->Prop),Inv X pins σ H s->zaL vs us->t vs σ H Q ->
  wpAny (model X.prog X.w) X.A (assignInOrder ((assignEach ts X.env).map (·.2)) us) (fun _ s'=>∃ σ' H',Inv X pins σ' H' s'/\Q σ' H') X.xe s
section
variable {X:Cx} {pos:Pos}
def zkS (i:Nat):TG:=fun v σ H Q=>Q (σ.set i (some v)) H
theorem zox {i:Nat} {x:Str} (hN:X.N.Nodup) (hi:X.N[i]?=some x) (hx:Loc X.env.scope x) (hf:X.fn x=true\/X.env.scope.names.lookup x=some .local:=by first | exact .inl rfl | exact .inr rfl | assumption):PG X (.Name x pos) (zkS i):=by
 intro pins s σ H v u Q I r h
 exact wpAny_assign_Name (zia I hN hi hx r (fun s' I'=>⟨_,H,I',h⟩) hf)
def ztW:TGs:=fun vs σ H Q=>vs=[]/\Q σ H
def zsL (t:TG) (u:TGs):TGs:=fun vs σ H Q=>∃ v r,vs=v :: r/\t v σ H fun σ' H'=>u r σ' H' Q
theorem zow:PGs X [] ztW:=by
 intro pins s σ H vs us Q I r h; obtain ⟨e,h⟩:=h; subst e; cases r; exact assignInOrder_nil ⟨σ,H,I,h⟩
theorem zmi {e:Expr} {es:List Expr} {t:TG} {u:TGs} (h1:PG X e t) (h2:PGs X es u)
  (hs:(assignEach (e :: es) X.env).map (·.2)=assign e X.env :: (assignEach es X.env).map (·.2):=by rfl):PGs X (e :: es) (zsL t u):=by
 intro pins s σ H vs us Q I r h; obtain ⟨v,vr,e1,h⟩:=h; subst e1
 cases r with
 | cons r rr =>
  rw [hs]
  refine assignInOrder_cons (thn (h1 pins s σ H _ _ _ I r h) fun _ s1 ⟨σ1,H1,I1,q1⟩=>?_)
  exact h2 pins s1 σ1 H1 _ _ Q I1 rr q1
def ztV (K:W.Frag) (n:Nat) (t:TGs):TG:=fun v σ H Q=>∃ a xs,v=.ref a/\SqT K H a xs/\xs.length=n/\t xs σ H Q
theorem zqm {es:List Expr} {k:Nat} {t:TGs} {n:Nat} (hc:X.calm=true) (h:PGs X es t)
  (hn:(assignEach es X.env).length=n:=by rfl) (hst:(assignEach es X.env).findIdx? (·.1)=none:=by rfl):PG X (.Tuple es k pos) (ztV X.K n t):=by
 intro pins s σ H v u Q I r hw; obtain ⟨a,xs,e1,hq,hl,hw⟩:=hw; subst e1; cases r; obtain ⟨its,rv,ht,hz⟩:=I.tuple hq
 refine assign_Tuple_tuple (I.ok.hd hc) ht (by simp [hn,<- hl,rv.length]) hst fun h' hx=>?_
 have I1:Inv X pins σ H { s with heap:=h' }:=I.kept (t':=s.toks) fun b o e=>hx b o (ya (yQ e)) e
 exact h pins _ σ H xs _ Q I1 (by simpa using rv) hw
def zr0 (te:TE) (g:TG):TS:=fun D σ H=>te σ H fun x H1=>g x σ H1 D.nx
theorem zkb {i:Nat} {x:Str} {e:Expr} {te:TE} {pos':Pos} (hN:X.N.Nodup) (hi:X.N[i]?=some x) (hx:Loc X.env.scope x) (he:PE X e te) (hs:swapsWith e (some (.Name x pos')) pos.line X.env=pure false:=by rfl) (hf:X.fn x=true\/X.env.scope.names.lookup x=some .local:=by first | exact .inl rfl | exact .inr rfl | assumption) :
  PS X (.Assign [.Name x pos'] e pos) (zr0 te (zkS i)):=by
 intro pins s σ H D I h
 refine wpAny_Assign_Name (thn (he pins s σ H _ I h) fun v s1 ⟨y,H1,I1,r1,q1⟩=>?_) hs
 exact zia I1 hN hi hx r1 (fun s2 I2=>⟨_,H1,I2,q1⟩) hf
def zpJ (c:TT) (tb:TS):TS:=fun D σ H=>∃ W:Nat->St->Hp->Prop,(∃ m,W m σ H)/\∀ m σ H,W m σ H ->
 c σ H fun b H1=>if b=true then ∃ N:St->Hp->Prop,(∀ σ' H',N σ' H'->∃ m',m'<m/\W m' σ' H')/\tb { D with nx:=N,ct:=N,bk:=D.nx } σ H1 else D.nx σ H1
theorem zma {c:Expr} {body:List Stmt} {tc:TT} {tb:TS} (hp:PassesOwn (model X.prog X.w) X.A X.env X.xe) (hc:PT X c tc) (hb:PSs X body tb):PS X (.While c body [] pos) (zpJ tc tb):=by
 intro pins s σ H D I h
 obtain ⟨W,⟨m0,w0⟩,turn⟩:=h
 refine wpAny_While (codeAny_whileLoop (fun n s'=>∃ σ' H',Inv X pins σ' H' s'/\W n σ' H') ?_ m0 ⟨σ,H,I,w0⟩)
 rintro n s1 ⟨σ1,H1,I1,w1⟩
 refine Yj hp (thn (hc pins s1 σ1 H1 _ I1 (turn n σ1 H1 w1)) fun b s2 ⟨H2,I2,q2⟩=>?_)
 cases b with
 | true =>
  obtain ⟨N,hN,q2⟩:=q2; rw [yR rfl]
  refine Yj hp (thn (hb pins s2 σ1 H2 _ I2 q2) fun f s3 q3=>?_)
  cases f with
  | next =>
   obtain ⟨σ3,H3,I3,n3⟩:=q3; obtain ⟨m',hm,w3⟩:=hN σ3 H3 n3; exact ⟨m',hm,σ3,H3,I3,w3⟩
  | cont =>
   obtain ⟨σ3,H3,I3,n3⟩:=q3; obtain ⟨m',hm,w3⟩:=hN σ3 H3 n3; exact ⟨m',hm,σ3,H3,I3,w3⟩
  | brk=>exact q3
  | ret v=>exact q3
 | false =>
  rw [yM yL]; exact wpAny_execs_nil ⟨σ1,H2,I2,q2⟩
end
structure It where
 go:Nat->Hp->Prop
 yld:Nat->Hp->V->Hp->Prop
 stop:Nat->Hp->Prop
def zge (X:Cx) (pins:List (Addr × Obj)) (H:Hp) (b:Addr):Prop :=
 H b=none/\b≠X.env.locals/\b ∉ X.fs/\(b ∈ X.ex\/X.s₀.heap.objs.size<=b)/\(∀ x c,X.env.cells.lookup x=some c->c≠b)/\∀ p ∈ X.pn ++ pins,p.1≠b
theorem Inv.fpOk {X:Cx} {pins:List (Addr × Obj)} {σ:St} {H H':Hp} {s:Shared} {b:Addr} (I:Inv X pins σ H s) (hb:s.heap.objs.size<=b) (hn:H' b=none):zge X pins H' b:=by
 refine ⟨hn,Nat.ne_of_gt (yX I.lt hb),I.nofs hb,.inr (yr I.sz hb),fun x c e z=>?_,fun p hp z=>?_⟩
 ·obtain ⟨v,q⟩:=I.cell x c e
  exact yO (yX q.lt (by rw [z]; exact hb)) (Nat.lt_irrefl _)
 ·exact yO (yX (yQ (I.pin p hp).1) (by rw [z]; exact hb)) (Nat.lt_irrefl _)
structure Turn (P:Program) (w:World) (K:W.Frag) (tg:Expr) (J:It) (fp:List Addr) (it:Addr) (tn:Nat->Heap->Prop):Prop where
 mem:it ∈ fp
 obj:∀ i h,tn i h->∀ b ∈ fp,∃ o,h.get? b=some o/\∀ v,o.data≠.cell v
 keep:∀ i h h',tn i h->(∀ b ∈ fp,∀ o,h.get? b=some o->h'.get? b=some o)->tn i h'
 item:∀ (X:Cx),X.prog=P->X.w=w->X.K=K->X.calm=true->∀ (i:Nat) (pins:List (Addr × Obj)) (s:Shared) (σ:St) (H:Hp) (E:Value->Shared->Prop),Inv X pins σ H s->(∀ b ∈ fp,zge X pins H b)->tn i s.heap->J.go i H ->
  wpAny (model P w) X.A (pyNext (.ref it)) (fun r s1=>∃ u,r=some u /\
   wpAny (model P w) X.A (letOwnedTupleGo tg (.ref it) u) (fun _ s2=>∃ x H',Inv X pins σ H' s2/\za8 x u/\J.yld i H x H'/\tn (i+1) s2.heap/\∀ b ∈ fp,H' b=none) E s1) E s
 done:∀ (X:Cx),X.prog=P->X.w=w->X.K=K->X.calm=true->∀ (i:Nat) (pins:List (Addr × Obj)) (s:Shared) (σ:St) (H:Hp) (E:Value->Shared->Prop),Inv X pins σ H s->(∀ b ∈ fp,zge X pins H b)->tn i s.heap->J.stop i H ->
  wpAny (model P w) X.A (pyNext (.ref it)) (fun r s1=>r=none/\Inv X pins σ H s1) E s
 self:∀ (A:Around) (i:Nat) (s:Shared) (Q:Value->Shared->Prop) (E:Value->Shared->Prop),tn i s.heap->Q (.ref it) s->wpAny (model P w) A (pyIter (.ref it)) Q E s
abbrev TI:=St->Hp->(It->Hp->Prop)->Prop
def PIE (X:Cx) (pins:List (Addr × Obj)) (σ:St) (tg:Expr) (R:It->Hp->Prop) (itv:Value) (s2:Shared):Prop :=
 ∃ (it:Addr) (fp:List Addr) (tn:Nat->Heap->Prop) (J:It) (H':Hp),itv=.ref it/\Inv X pins σ H' s2/\Turn X.prog X.w X.K tg J fp it tn/\tn 0 s2.heap/\(∀ b ∈ fp,zge X pins H' b)/\R J H'
def PI (X:Cx) (tg iter:Expr) (wi:TI):Prop :=
 ∀ (pins:List (Addr × Obj)) (s:Shared) (σ:St) (H:Hp) (R:It->Hp->Prop),Inv X pins σ H s->wi σ H R ->
  wpAny (model X.prog X.w) X.A (eval iter X.env) (fun v s1=>wpAny (model X.prog X.w) X.A (pyIter v) (PIE X pins σ tg R) X.xe s1) X.xe s
theorem zhX {M:Model} {A:Around} {E:Value->Shared->Prop} {s:Shared} {tg:Expr} {it:Addr} {u:Value} {o:Obj} {n:String} {vs:Array Value} {Q:Unit->Shared->Prop} (ho:s.heap.get? it=some o) (hc:o.cls=.type n) (hd:o.data=.fields vs)
    (hn:["enumerate","zip","dict_itemiterator","dict_reverseitemiterator","odict_iterator","itertools.zip_longest","itertools.pairwise"].contains n=false) (hQ:Q () s):wpAny M A (letOwnedTupleGo tg (.ref it) u) Q E s:=by
  unfold letOwnedTupleGo
  cases tg <;> first
    | exact yD hQ
    | (cases u <;> first
        | exact yD hQ
        | (refine yA (wpAny_load ho ?_)
           rw [hc,hd]
           show wpAny M A (if (["enumerate","zip","dict_itemiterator","dict_reverseitemiterator","odict_iterator","itertools.zip_longest","itertools.pairwise"].contains n && vs[0]? == some (rawInt _))=true then _ else _) Q E s
           rw [yM (by intro h; rw [hn,Bool.false_and] at h; cases h)]
           exact yD hQ))
def Itl (K:W.Frag) (a:Addr):It :=
 ⟨fun i H=>∃ xs x,SqL K H a xs/\xs[i]?=some x,fun i H x H'=>H'=H/\∀ xs,SqL K H a xs->xs[i]?=some x,fun i H=>∃ xs,SqL K H a xs/\xs.length<=i⟩
def Itt (K:W.Frag) (a:Addr):It :=
 ⟨fun i H=>∃ xs x,SqT K H a xs/\xs[i]?=some x,fun i H x H'=>H'=H/\∀ xs,SqT K H a xs->xs[i]?=some x,fun i H=>∃ xs,SqT K H a xs/\xs.length<=i⟩
def Itr (lo:Int) (n:Nat):It:=⟨fun i _=>i<n,fun i H x H'=>H'=H/\x=.int (lo+i),fun i _=>n<=i⟩
theorem zjI {P:Program} {w:World} {K:W.Frag} {tg:Expr} (a it:Addr):Turn P w K tg (Itl K a) [it] it (fun i h=>h.IsListIter it a i) where
 mem:=by simp
 obj:=fun i h st b hb=>by
  have e:b=it:=by simpa using hb
  subst e; obtain ⟨o,e,c,d⟩:=st
  exact ⟨o,e,fun v z=>by rw [d] at z; cases z⟩
 keep:=fun i h h' st k=>st.at fun o e=>k it (by simp) o e
 item:=by
  intro X hP hw hK hc i pins s σ H E I hf st hg
  subst hP hw hK
  obtain ⟨xs,x,hq,hx⟩:=hg; obtain ⟨its,rv,p,hz⟩:=I.list hq; obtain ⟨u,hu,ru⟩:=rv.get hx
  obtain ⟨f0,f1,f2,f3,f4,f5⟩:=hf it (by simp)
  refine wpAny_pyNext_list_item st p.isList (x:=u) (by simpa using hu) fun h' st' sb=>?_
  have I1:Inv X pins σ H { s with heap:=h' }:=I.turned (t':=s.toks) (fun b o hb e=>(sb.2 b hb).trans e) f0 f1 f3 f4 f5
  obtain ⟨o,e,c,d⟩:=id st'
  exact ⟨u,rfl,zhX (s:={ s with heap:=h' }) e c d (by decide) ⟨x,H,I1,ru,⟨rfl,fun ys hy=>by rw [I.list_inj hy hq]; exact hx⟩,st',fun b hb=>(hf b hb).1⟩⟩
 done:=by
  intro X hP hw hK hc i pins s σ H E I hf st hg
  subst hP hw hK
  obtain ⟨xs,hq,hx⟩:=hg; obtain ⟨its,rv,p,hz⟩:=I.list hq
  obtain ⟨f0,f1,f2,f3,f4,f5⟩:=hf it (by simp)
  have hl:=rv.length
  exact wpAny_pyNext_list_end (I.ok.hd hc) st p.isList (by simp; omega) fun h' eb=>⟨rfl,I.turned (t':=s.toks) (fun b o hb e=>eb b o hb e) f0 f1 f3 f4 f5⟩
 self:=fun _ _ _ _ _ st h=>wpAny_pyIter_listiter st h
theorem ziW {P:Program} {w:World} {K:W.Frag} {tg:Expr} (a it:Addr):Turn P w K tg (Itt K a) [it] it (fun i h=>h.IsTupleIter it a i) where
 mem:=by simp
 obj:=fun i h st b hb=>by
  have e:b=it:=by simpa using hb
  subst e; obtain ⟨o,e,c,d⟩:=st
  exact ⟨o,e,fun v z=>by rw [d] at z; cases z⟩
 keep:=fun i h h' st k=>st.at fun o e=>k it (by simp) o e
 item:=by
  intro X hP hw hK hc i pins s σ H E I hf st hg
  subst hP hw hK
  obtain ⟨xs,x,hq,hx⟩:=hg; obtain ⟨its,rv,p,hz⟩:=I.tuple hq; obtain ⟨u,hu,ru⟩:=rv.get hx
  obtain ⟨f0,f1,f2,f3,f4,f5⟩:=hf it (by simp)
  refine wpAny_pyNext_tuple_item st (show s.heap.IsTuple a its.toArray from p) (x:=u) (by simpa using hu) fun h' st' sb=>?_
  have I1:Inv X pins σ H { s with heap:=h' }:=I.turned (t':=s.toks) (fun b o hb e=>(sb.2 b hb).trans e) f0 f1 f3 f4 f5
  obtain ⟨o,e,c,d⟩:=id st'
  exact ⟨u,rfl,zhX (s:={ s with heap:=h' }) e c d (by decide) ⟨x,H,I1,ru,⟨rfl,fun ys hy=>by rw [I.tuple_inj hy hq]; exact hx⟩,st',fun b hb=>(hf b hb).1⟩⟩
 done:=by
  intro X hP hw hK hc i pins s σ H E I hf st hg
  subst hP hw hK
  obtain ⟨xs,hq,hx⟩:=hg; obtain ⟨its,rv,p,hz⟩:=I.tuple hq
  obtain ⟨f0,f1,f2,f3,f4,f5⟩:=hf it (by simp)
  have hl:=rv.length
  exact wpAny_pyNext_tuple_end (I.ok.hd hc) st (show s.heap.IsTuple a its.toArray from p) (by simp; omega) fun h' eb=>⟨rfl,I.turned (t':=s.toks) (fun b o hb e=>eb b o hb e) f0 f1 f3 f4 f5⟩
 self:=fun _ _ _ _ _ st h=>wpAny_pyIter_tupleiter st h
theorem ziX {P:Program} {w:World} {K:W.Frag} {tg:Expr} (it:Addr) (lo:Int) (n:Nat):Turn P w K tg (Itr lo n) [it] it (fun i h=>IsRangeIter h it (lo+(i:Nat) * 1) ((n:Int)-(i:Nat)) 1) where
 mem:=by simp
 obj:=fun i h st b hb=>by
  have e:b=it:=by simpa using hb
  subst e
  exact ⟨_,st,fun v z=>by
   have z':Data.fields _=Data.cell v:=z
   cases z'⟩
 keep:=fun i h h' st k=>k it (by simp) _ st
 item:=by
  intro X hP hw hK hc i pins s σ H E I hf st hg
  subst hP hw hK
  obtain ⟨f0,f1,f2,f3,f4,f5⟩:=hf it (by simp)
  have W:=Walks.range (prog:=X.prog) (w:=X.w) (I.ok.hd hc) it lo 1 n
  refine W.item i s _ _ hg st fun v h' tk hv st' kk=>?_
  obtain ⟨t,rfl⟩:=hv
  have I1:Inv X pins σ H { s with heap:=h',toks:=tk }:=I.turned (fun b o hb e=>kk b o (by simpa using hb) e) f0 f1 f3 f4 f5
  refine ⟨_,rfl,zhX (s:={ s with heap:=h',toks:=tk }) (n:="range_iterator") st' rfl rfl (by decide) ⟨.int (lo+i),H,I1,⟨t,?_⟩,⟨rfl,rfl⟩,st',fun b hb=>(hf b hb).1⟩⟩
  rw [Int.mul_one]
 done:=by
  intro X hP hw hK hc i pins s σ H E I hf st hg
  subst hP hw hK
  obtain ⟨f0,f1,f2,f3,f4,f5⟩:=hf it (by simp)
  exact wpAny_pyNext_range_end (I.ok.hd hc) st (by have:n<=i:=hg; omega) fun h' eb=>⟨rfl,I.turned (t':=s.toks) (fun b o hb e=>eb b o hb e) f0 f1 f3 f4 f5⟩
 self:=fun _ _ _ _ _ st h=>wpAny_pyIter_rangeiter st h
section
variable {X:Cx} {tg:Expr}
theorem zlX {pins:List (Addr × Obj)} {σ:St} {H:Hp} {s:Shared} {R:It->Hp->Prop} {E:Value->Shared->Prop} {lo hi:Int} {t u v:Tok} {tk:Nat} (I:Inv X pins σ H s) (h1:-(2 ^ 62)<=lo) (h2:lo<2 ^ 62) (h3:-(2 ^ 62)<=hi) (h4:hi<2 ^ 62)
  (q:R (Itr lo (hi-lo).toNat) H):wpAny (model X.prog X.w) X.A (pyIter (.ref s.heap.objs.size)) (PIE X pins σ tg R) E { s with heap:=s.heap.push { cls:=.type "range",data:=.fields #[.int lo t,.int hi u,.int 1 v] },toks:=tk }:=by
 refine wpAny_pyIter_range (IsRange.new ..) (small_one h1 h2 h3 h4) ?_
 have I1:Inv X pins σ H { s with heap:=s.heap.push { cls:=.type "range",data:=.fields #[.int lo t,.int hi u,.int 1 v] },toks:=tk }:=I.kept fun b o e=>yC _ e
 refine ⟨(s.heap.push { cls:=.type "range",data:=.fields #[.int lo t,.int hi u,.int 1 v] }).objs.size,[(s.heap.push { cls:=.type "range",data:=.fields #[.int lo t,.int hi u,.int 1 v] }).objs.size],_,_,H,rfl,
  I1.kept (t':=tk) fun b o e=>yC _ e,ziX _ lo (hi-lo).toNat,?_,fun b hb=>?_,q⟩
 ·have e1:lo+((0:Nat):Int) * 1=lo:=by simp
  have e2:(((hi-lo).toNat:Nat):Int)-((0:Nat):Int)=Builtin.Range.rangeSize lo hi 1:=by rw [rangeSize_one]; split <;> omega
  show IsRangeIter _ _ (lo+((0:Nat):Int) * 1) ((((hi-lo).toNat:Nat):Int)-((0:Nat):Int)) 1
  rw [e1,e2]; exact yI _ rfl
 ·have e:b=(s.heap.push { cls:=.type "range",data:=.fields #[.int lo t,.int hi u,.int 1 v] }).objs.size:=by simpa using hb
  subst e; exact I1.fpOk (yF _) (I1.hok.fresh (yF _))
def zsJ (ta:TA):TI:=fun σ H R=>ta σ H fun vs H1=>∃ j:Int,vs=[.int j]/\-(2 ^ 62)<=j/\j<2 ^ 62/\R (Itr 0 j.toNat) H1
theorem zki {a:Expr} {ta:TA} {p pos:Pos} (hg:Gl X "range") (hm:X.mg "range"=none) (ha:PA X [a] ta) (hs:starEach [a] X.env=[(false,eval a X.env)]:=by rfl):PI X tg (.Call (.Name "range" p) [a] [] pos) (zsJ ta):=by
 intro pins s σ H R I h
 refine Call_ (zc7 I hg hm boot_range (YE (thn (ha pos pins s σ H _ I h) fun us s1 ⟨vs,H1,I1,r1,q1⟩=>?_) hs rfl))
 obtain ⟨j,e,q1,q2,q⟩:=q1; subst e
 cases r1 with
 | cons r rr =>
  cases rr; obtain ⟨t,rfl⟩:=r
  exact call_range_1 (zlX I1 (by omega) (by omega) q1 q2 (by simpa using q))
def ztB (wi:TI) (g:TG) (tb:TS):TS:=fun D σ H=>wi σ H fun J H1=>∃ W:Nat->Nat->St->Hp->Prop,(∃ m,W 0 m σ H1)/\∀ i m σ H,W i m σ H ->
 (J.stop i H/\D.nx σ H)\/(J.go i H/\∃ N:St->Hp->Prop,(∀ σ' H',N σ' H'->∃ m',m'<m/\W (i+1) m' σ' H')/\∀ x H',J.yld i H x H'->g x σ H' fun σ2 H2=>tb { D with nx:=N,ct:=N,bk:=D.nx } σ2 H2)
def zfi (fp:List Addr) (h:Heap):List (Addr × Obj):=fp.filterMap fun b=>(h.get? b).map fun o=>(b,o)
theorem zc1 {fp:List Addr} {h:Heap} {b:Addr} {o:Obj} (hb:b ∈ fp) (e:h.get? b=some o):(b,o) ∈ zfi fp h:=List.mem_filterMap.mpr ⟨b,hb,by rw [e]; rfl⟩
theorem zku {fp:List Addr} {h:Heap} {p:Addr × Obj} (hp:p ∈ zfi fp h):p.1 ∈ fp/\h.get? p.1=some p.2:=by
 obtain ⟨b,hb,e⟩:=List.mem_filterMap.mp hp
 cases q:h.get? b with
 | none=>rw [q] at e; cases e
 | some o =>
  rw [q] at e
  have e':(b,o)=p:=Option.some.inj e
  subst e'
  exact ⟨hb,q⟩
theorem Inv.pinned {pins:List (Addr × Obj)} {σ:St} {H:Hp} {s:Shared} {fp:List Addr} (I:Inv X pins σ H s) (hf:∀ b ∈ fp,zge X pins H b) (ho:∀ b ∈ fp,∃ o,s.heap.get? b=some o/\∀ v,o.data≠.cell v):Inv X (pins ++ zfi fp s.heap) σ H s :=
 I.pins_of fun p hp=>(yn.mp hp).elim (fun z=>I.pin p (yb _ z)) fun z=>by
  obtain ⟨hb,e⟩:=zku z; obtain ⟨f0,f1,f2,_⟩:=hf p.1 hb; obtain ⟨o,e',d⟩:=ho p.1 hb
  rw [e] at e'; cases e'
  exact ⟨e,f0,f1,f2,d⟩
theorem Inv.unpinned {pins pl:List (Addr × Obj)} {σ:St} {H:Hp} {s:Shared} (I:Inv X (pins ++ pl) σ H s):Inv X pins σ H s:=I.pins_of fun p hp=>I.pin p (yb _ (List.mem_append_left _ hp))
theorem znm {iter:Expr} {body:List Stmt} {wi:TI} {g:TG} {tb:TS} {pos:Pos} (hp:PassesOwn (model X.prog X.w) X.A X.env X.xe) (hc:X.calm=true) (hi:PI X tg iter wi) (hg:PG X tg g) (hb:PSs X body tb)
  (hs:∀ x,foldedSetIterable iter X.env x=pure x:=by intro _; rfl):PS X (.For tg iter body [] pos) (ztB wi g tb):=by
 intro pins s σ H D I h
 refine wpAny_For (thn (hi pins s σ H _ I h) fun v s1 h1=>thn h1 fun itv s2 h2=>?_) hs
 obtain ⟨it,fp,tn,J,H2,e,I2,T,st2,f2,W,⟨m0,w0⟩,turn⟩:=h2
 subst e
 -- what stays true of the iterator's objects through the loop
 have stat:∀ {H':Hp},(∀ b ∈ fp,H' b=none)->∀ b ∈ fp,zge X pins H' b:=fun hn b hb=>⟨hn b hb,(f2 b hb).2⟩
 refine codeAny_forLoop_any (fun n s'=>∃ i σ' H',Inv X pins σ' H' s'/\tn i s'.heap/\(∀ b ∈ fp,H' b=none)/\W i n σ' H') ?_ m0 ⟨0,σ,H2,I2,st2,fun b hb=>(f2 b hb).1,w0⟩
 rintro n s3 ⟨i,σ3,H3,I3,st3,fr3,w3⟩
 rcases turn i n σ3 H3 w3 with ⟨stop,qn⟩ | ⟨go,N,hN,step⟩
 ·refine Yj hp (thn (T.done X rfl rfl rfl hc i pins s3 σ3 H3 X.xe I3 (stat fr3) st3 stop) fun r s4 ⟨hr,I4⟩=>?_)
  subst hr; exact wpAny_execs_nil ⟨σ3,H3,I4,qn⟩
 ·refine Yj hp (thn (T.item X rfl rfl rfl hc i pins s3 σ3 H3 X.xe I3 (stat fr3) st3 go) fun r s4 ⟨u,hr,h4⟩=>?_)
  subst hr
  refine Yj hp (thn h4 fun _ s5 ⟨x,H5,I5,r5,y5,st5,fr5⟩=>?_)
  have I5':=I5.pinned (stat fr5) (T.obj _ _ st5)
  refine Yj hp (thn (hg _ s5 σ3 H5 x u _ I5' r5 (step x H5 y5)) fun _ s6 ⟨σ6,H6,I6,q6⟩=>?_)
  refine Yj hp (thn (hb _ s6 σ6 H6 _ I6 q6) fun f s7 q7=>?_)
  have again:∀ {σ7:St} {H7:Hp},Inv X (pins ++ zfi fp s5.heap) σ7 H7 s7->N σ7 H7->∃ m,m<n/\∃ i σ' H',Inv X pins σ' H' s7/\tn i s7.heap/\(∀ b ∈ fp,H' b=none)/\W i m σ' H':=fun {σ7 H7} I7 n7=>by
   obtain ⟨m',hm,w7⟩:=hN σ7 H7 n7
   refine ⟨m',hm,i+1,σ7,H7,I7.unpinned,T.keep _ _ _ st5 fun b hb o e=>(I7.pin (b,o) (yb _ (yb _ (zc1 hb e)))).1,fun b hb=>?_,w7⟩
   obtain ⟨o,e,d⟩:=T.obj _ _ st5 b hb; exact (I7.pin (b,o) (yb _ (yb _ (zc1 hb e)))).2.1
  cases f with
  | next=>obtain ⟨σ7,H7,I7,n7⟩:=q7; exact again I7 n7
  | cont=>obtain ⟨σ7,H7,I7,n7⟩:=q7; exact again I7 n7
  | brk=>obtain ⟨σ7,H7,I7,q7⟩:=q7; exact ⟨σ7,H7,I7.unpinned,q7⟩
  | ret v=>obtain ⟨x7,σ7,H7,I7,r7,q7⟩:=q7; exact ⟨x7,σ7,H7,I7.unpinned,r7,q7⟩
end
abbrev R2:=V->V->Hp->VK->Prop
def OpR (X:Cx) (f:Value->Value->Sem Value) (r:R2):Prop :=
 ∀ (pins:List (Addr × Obj)) (s:Shared) (σ:St) (H:Hp) (x y:V) (v u:Value) (Q:VK),Inv X pins σ H s->za8 x v->za8 y u->r x y H Q ->
  wpAny (model X.prog X.w) X.A (f v u) (EP X pins σ Q) X.xe s
def UnR (X:Cx) (f:Value->Sem Value) (r:V->Hp->VK->Prop):Prop :=
 ∀ (pins:List (Addr × Obj)) (s:Shared) (σ:St) (H:Hp) (x:V) (v:Value) (Q:VK),Inv X pins σ H s->za8 x v->r x H Q ->
  wpAny (model X.prog X.w) X.A (f v) (EP X pins σ Q) X.xe s
def zcP (X:Cx) (f:Value) (r:List V->Hp->VK->Prop):Prop :=
 ∀ (pins:List (Addr × Obj)) (s:Shared) (σ:St) (H:Hp) (xs:List V) (us:List Value) (Q:VK),Inv X pins σ H s->zaL xs us->r xs H Q ->
  wpAny (model X.prog X.w) X.A (call f us) (EP X pins σ Q) X.xe s
def tOp (r:R2) (ta tb:TE):TE:=fun σ H Q=>ta σ H fun x H1=>tb σ H1 fun y H2=>r x y H2 Q
def tUn (r:V->Hp->VK->Prop) (ta:TE):TE:=fun σ H Q=>ta σ H fun x H1=>r x H1 Q
def rI (C:Int->Int->Prop) (g:Int->Int->V):R2:=fun x y H Q=>∃ i j,x=.int i/\y=.int j/\C i j/\Q (g i j) H
def rI0 (g:Int->Int->V):R2:=fun x y H Q=>∃ i j,x=.int i/\y=.int j/\Q (g i j) H
def rU (g:Int->V):V->Hp->VK->Prop:=fun x H Q=>∃ i,x=.int i/\Q (g i) H
section
variable {X:Cx} {a b c:Expr} {ta tb tc:TE} {pos:Pos}
theorem zs1 (ha:PE X a ta) (hb:PE X b tb) {pins:List (Addr × Obj)} {s:Shared} {σ:St} {H:Hp} {R:V->V->Hp->Prop} (I:Inv X pins σ H s)
  (h:ta σ H fun x H1=>tb σ H1 fun y H2=>R x y H2) {Q:Value->Shared->Prop} {f:Value->Value->Sem Value}
  (hf:∀ v u s2 x y H2,Inv X pins σ H2 s2->za8 x v->za8 y u->R x y H2->wpAny (model X.prog X.w) X.A (f v u) Q X.xe s2) :
  wpAny (model X.prog X.w) X.A (eval a X.env) (fun v s₁=>wpAny (model X.prog X.w) X.A (eval b X.env) (fun u s₂=>wpAny (model X.prog X.w) X.A (f v u) Q X.xe s₂) X.xe s₁) X.xe s:=by
 refine thn (ha pins s σ H _ I h) fun v s1 ⟨x,H1,I1,r1,q1⟩=>?_
 refine thn (hb pins s1 σ H1 _ I1 q1) fun u s2 ⟨y,H2,I2,r2,q2⟩=>?_
 exact hf v u s2 x y H2 I2 r1 r2 q2
theorem zqo {op:Operator} {r:R2} (ho:OpR X (binaryOp op) r) (ha:PE X a ta) (hb:PE X b tb):PE X (.BinOp a op b pos) (tOp r ta tb):=by
 intro pins s σ H Q I h
 exact wpAny_BinOp (zs1 ha hb I h fun v u s2 x y H2 I2 rx ry q=>ho pins s2 σ H2 x y v u Q I2 rx ry q)
theorem zsk {op:UnaryOp} {r:V->Hp->VK->Prop} (ho:UnR X (unaryOp op) r) (ha:PE X a ta):PE X (.UnaryOp op a pos) (tUn r ta):=by
 intro pins s σ H Q I h
 exact UnaryOp_ (thn (ha pins s σ H _ I h) fun v s1 ⟨x,H1,I1,r1,q1⟩=>ho pins s1 σ H1 x v Q I1 r1 q1)
theorem opI {f:Value->Value->Sem Value} {C:Int->Int->Prop} {g:Int->Int->Int}
  (rule:∀ (i j:Int) (t u:Tok) (s:Shared) (Q:Value->Shared->Prop) (E:Value->Shared->Prop),C i j->Q (.int (g i j) s.toks) { s with toks:=s.toks+1 }->wpAny (model X.prog X.w) X.A (f (.int i t) (.int j u)) Q E s) :
  OpR X f (rI C fun i j=>.int (g i j)):=by
 intro pins s σ H x y v u Q I rx ry h; obtain ⟨i,j,rfl,rfl,hc,q⟩:=h; obtain ⟨t,rfl⟩:=rx; obtain ⟨t',rfl⟩:=ry; exact rule i j t t' s _ _ hc ⟨.int (g i j),H,I.tok _,⟨_,rfl⟩,q⟩
theorem ztk {f:Value->Value->Sem Value} {g:Int->Int->Int}
  (rule:∀ (i j:Int) (t u:Tok) (s:Shared) (Q:Value->Shared->Prop) (E:Value->Shared->Prop),Q (.int (g i j) s.toks) { s with toks:=s.toks+1 }->wpAny (model X.prog X.w) X.A (f (.int i t) (.int j u)) Q E s) :
  OpR X f (rI0 fun i j=>.int (g i j)):=by
 intro pins s σ H x y v u Q I rx ry h; obtain ⟨i,j,rfl,rfl,q⟩:=h; obtain ⟨t,rfl⟩:=rx; obtain ⟨t',rfl⟩:=ry; exact rule i j t t' s _ _ ⟨.int (g i j),H,I.tok _,⟨_,rfl⟩,q⟩
theorem zsu {f:Value->Value->Sem Value} {g:Int->Int->Bool}
  (rule:∀ (i j:Int) (t u:Tok) (s:Shared) (Q:Value->Shared->Prop) (E:Value->Shared->Prop),Q (.bool (g i j)) s->wpAny (model X.prog X.w) X.A (f (.int i t) (.int j u)) Q E s) :
  OpR X f (rI0 fun i j=>.bl (g i j)):=by
 intro pins s σ H x y v u Q I rx ry h; obtain ⟨i,j,rfl,rfl,q⟩:=h; obtain ⟨t,rfl⟩:=rx; obtain ⟨t',rfl⟩:=ry; exact rule i j t t' s _ _ ⟨.bl (g i j),H,I,rfl,q⟩
def znR (i j:Int):Prop:=0<j/\j<1073741824
def zri (i j:Int):Prop:=0<=j/\j<=1000000/\i.natAbs<2 ^ 64
def znQ (i j:Int):Prop:=(-(2 ^ 64)<i/\i<2 ^ 64)\/(-(2 ^ 64)<j/\j<2 ^ 64)
theorem znQ.ok {i j:Int} (h:znQ i j):IntMulOk i j:=by
 rcases h with ⟨h1,h2⟩ | ⟨h1,h2⟩
 ·exact .of_left (intBits_le_64 h1 h2)
 ·exact .of_right (intBits_le_64 h1 h2)
theorem zqC:OpR X (binaryOp .Add) (rI0 fun i j=>.int (i+j)):=ztk fun _ _ _ _ _ _ _ q=>add_int q
theorem zqv:OpR X (binaryOp .Sub) (rI0 fun i j=>.int (i-j)):=ztk fun _ _ _ _ _ _ _ q=>sub_int q
theorem zqx:OpR X (binaryOp .Mult) (rI znQ fun i j=>.int (i * j)):=opI fun _ _ _ _ _ _ _ hc q=>mul_int q hc.ok
theorem zoI:OpR X (binaryOp .FloorDiv) (rI znR fun i j=>.int (i / j)):=opI fun i j _ _ _ _ _ hc q=>by
 have h1:(0:Int)<j:=hc.1
 have h2:j<1073741824:=hc.2
 exact floordiv_int (by omega) (by rw [Int.fdiv_eq_ediv_of_nonneg i (by omega)]; exact q) (.inl (PyProof.noPylong_small (by omega)))
theorem zqy:OpR X (binaryOp .Mod) (rI (fun _ j=>0<j) fun i j=>.int (i % j)):=opI fun i j _ _ _ _ _ hc q=>by
 have h1:(0:Int)<j:=hc
 exact mod_int' (by omega) (by rw [Int.fmod_eq_emod_of_nonneg i (by omega)]; exact q)
theorem zqw:OpR X (binaryOp .Pow) (rI zri fun i j=>.int (i ^ j.toNat)):=opI fun _ _ _ _ _ _ _ hc q=>pow_int_small hc.1 hc.2.1 hc.2.2 q
theorem unI {f:Value->Sem Value} {g:Int->Int}
  (rule:∀ (i:Int) (t:Tok) (s:Shared) (Q:Value->Shared->Prop) (E:Value->Shared->Prop),Q (.int (g i) s.toks) { s with toks:=s.toks+1 }->wpAny (model X.prog X.w) X.A (f (.int i t)) Q E s) :
  UnR X f (rU fun i=>.int (g i)):=by
 intro pins s σ H x v Q I rx h; obtain ⟨i,rfl,q⟩:=h; obtain ⟨t,rfl⟩:=rx; exact rule i t s _ _ ⟨.int (g i),H,I.tok _,⟨_,rfl⟩,q⟩
theorem zpF:UnR X (unaryOp .USub) (rU fun i=>.int (-i)):=unI fun _ _ _ _ _ q=>neg_int q
end
def zn8:V->V->Bool
 | .non,.non=>true | .non,.int _=>true | .int _,.non=>true | .non,.bl _=>true | .bl _,.non=>true | .non,.str _=>true | .str _,.non=>true
 | .int _,.int _=>true | .bl _,.bl _=>true | .str _,.str _=>true | .byt _,.byt _=>true
 | .int _,.str _=>true | .str _,.int _=>true | .bl _,.str _=>true | .str _,.bl _=>true
 | _,_=>false
def rEq:R2:=fun x y H Q=>zn8 x y=true/\Q (.bl (decide (x=y))) H
def rNe:R2:=fun x y H Q=>zn8 x y=true/\Q (.bl (!decide (x=y))) H
theorem zk2 {i j:Int}:decide (V.int i=V.int j)=(i == j):=by
 rw [Bool.eq_iff_iff]; simp
theorem znM {i j:Bool}:decide (V.bl i=V.bl j)=(i == j):=by
 rw [Bool.eq_iff_iff]; simp
theorem zk1 {i j:Str}:decide (V.str i=V.str j)=(i == j):=by
 rw [Bool.eq_iff_iff]; simp
theorem zk3 {i j:Array UInt8}:decide (V.byt i=V.byt j)=(i.toList == j.toList):=by
 rw [Bool.eq_iff_iff]; cases i; cases j; simp
section
variable {X:Cx} {a b c:Expr} {ta tb tc:TE} {pos:Pos}
theorem zaD {pins:List (Addr × Obj)} {σ:St} {H:Hp} {s:Shared} {Q:VK} {k k':Bool} (I:Inv X pins σ H s) (q:Q (.bl k) H) (e:k=k'):EP X pins σ Q (.bool k') s:=by
 subst e; exact ⟨.bl k,H,I,rfl,q⟩
theorem zst:OpR X (compareOp .Eq) rEq:=by
 intro pins s σ H x y v u Q I rx ry h; obtain ⟨hs,q⟩:=h
 cases x with
 | non =>
  cases rx
  cases y with
  | non=>cases ry; exact PySem.EqNone.eq_none_none (zaD I q (by simp))
  | bl j=>cases ry; exact PySem.EqNone.eq_none_bool (zaD I q (by simp))
  | int j=>obtain ⟨t',rfl⟩:=ry; exact PySem.EqNone.eq_none_int (zaD I q (by simp))
  | str j=>obtain ⟨t',rfl⟩:=ry; exact PySem.EqNone.eq_none_str (zaD I q (by simp))
  | _=>exact yO (show false=true from hs) yL
 | bl i =>
  cases rx
  cases y with
  | non=>cases ry; exact PySem.EqNone.eq_bool_none (zaD I q (by simp))
  | bl j=>cases ry; exact eq_bool (zaD I q znM)
  | str j=>obtain ⟨t',rfl⟩:=ry; exact PySem.EqMixed.eq_bool_str (zaD I q (by simp))
  | _=>exact yO (show false=true from hs) yL
 | int i =>
  obtain ⟨t,rfl⟩:=rx
  cases y with
  | non=>cases ry; exact PySem.EqNone.eq_int_none (zaD I q (by simp))
  | int j=>obtain ⟨t',rfl⟩:=ry; exact eq_int (zaD I q zk2)
  | str j=>obtain ⟨t',rfl⟩:=ry; exact PySem.EqMixed.eq_int_str (zaD I q (by simp))
  | _=>exact yO (show false=true from hs) yL
 | str i =>
  obtain ⟨t,rfl⟩:=rx
  cases y with
  | non=>cases ry; exact PySem.EqNone.eq_str_none (zaD I q (by simp))
  | bl j=>cases ry; exact PySem.EqMixed.eq_str_bool (zaD I q (by simp))
  | int j=>obtain ⟨t',rfl⟩:=ry; exact PySem.EqMixed.eq_str_int (zaD I q (by simp))
  | str j=>obtain ⟨t',rfl⟩:=ry; exact eq_str (zaD I q zk1)
  | _=>exact yO (show false=true from hs) yL
 | byt i =>
  obtain ⟨t,rfl⟩:=rx
  cases y with
  | byt j=>obtain ⟨t',rfl⟩:=ry; exact W.eq_bytes (zaD I q zk3)
  | _=>exact yO (show false=true from hs) yL
 | _=>cases y <;> exact yO (show false=true from hs) yL
theorem zsp:OpR X (compareOp .NotEq) rNe:=by
 intro pins s σ H x y v u Q I rx ry h; obtain ⟨hs,q⟩:=h
 cases x with
 | non =>
  cases rx
  cases y with
  | non=>cases ry; exact PySem.EqNone.ne_none_none (zaD I q (by simp))
  | bl j=>cases ry; exact PySem.EqNone.ne_none_bool (zaD I q (by simp))
  | int j=>obtain ⟨t',rfl⟩:=ry; exact PySem.EqNone.ne_none_int (zaD I q (by simp))
  | str j=>obtain ⟨t',rfl⟩:=ry; exact PySem.EqNone.ne_none_str (zaD I q (by simp))
  | _=>exact yO (show false=true from hs) yL
 | bl i =>
  cases rx
  cases y with
  | non=>cases ry; exact PySem.EqNone.ne_bool_none (zaD I q (by simp))
  | bl j=>cases ry; exact ne_bool (zaD I q (ye not znM))
  | str j=>obtain ⟨t',rfl⟩:=ry; exact PySem.EqMixed.ne_bool_str (zaD I q (by simp))
  | _=>exact yO (show false=true from hs) yL
 | int i =>
  obtain ⟨t,rfl⟩:=rx
  cases y with
  | non=>cases ry; exact PySem.EqNone.ne_int_none (zaD I q (by simp))
  | int j=>obtain ⟨t',rfl⟩:=ry; exact ne_int (zaD I q (ye not zk2))
  | str j=>obtain ⟨t',rfl⟩:=ry; exact PySem.EqMixed.ne_int_str (zaD I q (by simp))
  | _=>exact yO (show false=true from hs) yL
 | str i =>
  obtain ⟨t,rfl⟩:=rx
  cases y with
  | non=>cases ry; exact PySem.EqNone.ne_str_none (zaD I q (by simp))
  | bl j=>cases ry; exact PySem.EqMixed.ne_str_bool (zaD I q (by simp))
  | int j=>obtain ⟨t',rfl⟩:=ry; exact PySem.EqMixed.ne_str_int (zaD I q (by simp))
  | str j=>obtain ⟨t',rfl⟩:=ry; exact ne_str (zaD I q (ye not zk1))
  | _=>exact yO (show false=true from hs) yL
 | byt i =>
  obtain ⟨t,rfl⟩:=rx
  cases y with
  | byt j=>obtain ⟨t',rfl⟩:=ry; exact W.ne_bytes (zaD I q (ye not zk3))
  | _=>exact yO (show false=true from hs) yL
 | _=>cases y <;> exact yO (show false=true from hs) yL
theorem zsq:OpR X (compareOp .Lt) (rI0 fun i j=>.bl (decide (i<j))):=zsu fun _ _ _ _ _ _ _ q=>lt_int q
theorem zsr:OpR X (compareOp .LtE) (rI0 fun i j=>.bl (decide (i<=j))):=zsu fun _ _ _ _ _ _ _ q=>le_int q
theorem zss:OpR X (compareOp .Gt) (rI0 fun i j=>.bl (decide (j<i))):=zsu fun _ _ _ _ _ _ _ q=>gt_int q
theorem zkp:OpR X (compareOp .In) (fun x y H Q=>∃ i j,x=.str i/\y=.str j/\Q (.bl (!(Builtin.Str.occurrences j i 0 j.length 1).isEmpty)) H):=by
 intro pins s σ H x y v u Q I rx ry h; obtain ⟨i,j,rfl,rfl,q⟩:=h; obtain ⟨t,rfl⟩:=rx; obtain ⟨t',rfl⟩:=ry; exact in_str (zaD I q rfl)
theorem zqA:OpR X (compareOp .Is) (fun x y H Q=>y=.non/\Q (.bl (decide (x=.non))) H):=by
 intro pins s σ H x y v u Q I rx ry h; obtain ⟨rfl,q⟩:=h; cases ry; refine is_none_gen (zaD I q ?_)
 cases x <;> first
  | (cases rx; rfl)
  | (obtain ⟨t,rfl⟩:=rx; rfl)
theorem zgy:OpR X (compareOp .NotIn) (fun x y H Q=>∃ i j,x=.str i/\y=.str j/\Q (.bl (!(!(Builtin.Str.occurrences j i 0 j.length 1).isEmpty))) H):=by
 intro pins s σ H x y v u Q I rx ry h; obtain ⟨i,j,rfl,rfl,q⟩:=h; obtain ⟨t,rfl⟩:=rx; obtain ⟨t',rfl⟩:=ry; exact notIn_str (zaD I q rfl)
theorem OpR.or {f:Value->Value->Sem Value} {r r':R2} (h:OpR X f r) (h':OpR X f r'):OpR X f (fun x y H Q=>r x y H Q\/r' x y H Q):=by
 intro pins s σ H x y v u Q I rx ry q
 rcases q with q | q
 ·exact h pins s σ H x y v u Q I rx ry q
 ·exact h' pins s σ H x y v u Q I rx ry q
theorem znt (b:Expr) {op:CmpOp} (h:op≠.In:=by decide) (h2:op≠.NotIn:=by decide):behindInMarks op b=false:=by
 have e1:(op == CmpOp.In)=false:=by cases op <;> first | rfl | exact yO rfl h
 have e2:(op == CmpOp.NotIn)=false:=by cases op <;> first | rfl | exact yO rfl h2
 cases b <;> simp [behindInMarks,e1,e2]
theorem zoD {op:CmpOp} {r:R2} (ho:OpR X (compareOp op) r) (ha:PE X a ta) (hb:PE X b tb) (hm:behindInMarks op b=false):PE X (.Compare a [op] [b] pos) (tOp r ta tb):=by
 intro pins s σ H Q I h
 exact wpAny_Compare1 (zs1 ha hb I h fun v u s2 x y H2 I2 rx ry q=>ho pins s2 σ H2 x y v u Q I2 rx ry q) hm
def zpK (t:TE):TT:=fun σ H Q=>t σ H fun x H'=>∃ k,x=.bl k/\Q k H'
theorem zoi {op:CmpOp} {r:R2} (ho:OpR X (compareOp op) r) (ha:PE X a ta) (hb:PE X b tb) (hm:behindInMarks op b=false):PT X (.Compare a [op] [b] pos) (zpK (tOp r ta tb)):=by
 intro pins s σ H Q I h
 refine wpAny_isTrue_Compare1 (thn (ha pins s σ H _ I h) fun v s1 ⟨x,H1,I1,r1,q1⟩=>thn (hb pins s1 σ H1 _ I1 q1) fun u s2 ⟨y,H2,I2,r2,q2⟩ =>
  thn (ho pins s2 σ H2 x y v u _ I2 r1 r2 q2) fun c s3 ⟨z,H3,I3,r3,k,e,q3⟩=>?_) hm
 subst e; cases r3; exact YX ⟨H3,I3,q3⟩
def zjO (r r':R2) (ta tb tc:TE):TE:=fun σ H Q=>ta σ H fun x H1=>tb σ H1 fun y H2=>r x y H2 fun z H3=>∃ k,z=.bl k /\
 (if k=true then tc σ H3 fun w' H4=>r' y w' H4 Q else Q (.bl false) H3)
theorem zmo {op op':CmpOp} {r r':R2} (ho:OpR X (compareOp op) r) (ho':OpR X (compareOp op') r') (ha:PE X a ta) (hb:PE X b tb) (hc:PE X c tc)
  (hm:lastMarks [op,op'] [b,c]=false:=by with_unfolding_all rfl):PE X (.Compare a [op,op'] [b,c] pos) (zjO r r' ta tb tc):=by
 intro pins s σ H Q I h
 refine Compare_chain (thn (ha pins s σ H _ I h) fun v s1 ⟨x,H1,I1,r1,q1⟩=>chain_link (thn (hb pins s1 σ H1 _ I1 q1) fun u s2 ⟨y,H2,I2,r2,q2⟩ =>
  thn (ho pins s2 σ H2 x y v u _ I2 r1 r2 q2) fun d s3 ⟨z,H3,I3,r3,k,e,q3⟩=>?_)) hm
 subst e; cases r3; refine YX ?_
 cases k with
 | false=>exact ite_ff ⟨.bl false,H3,I3,rfl,q3⟩
 | true=>exact ite_tt (chain_last (thn (hc pins s3 σ H3 _ I3 q3) fun w' s4 ⟨z',H4,I4,r4,q4⟩=>ho' pins s4 σ H4 y z' u w' Q I4 r2 r4 q4))
theorem zl9 {op op':CmpOp} {r r':R2} (ho:OpR X (compareOp op) r) (ho':OpR X (compareOp op') r') (ha:PE X a ta) (hb:PE X b tb) (hc:PE X c tc)
  (hm:lastMarks [op,op'] [b,c]=false:=by with_unfolding_all rfl):PT X (.Compare a [op,op'] [b,c] pos) (zpK (zjO r r' ta tb tc)):=by
 intro pins s σ H Q I h
 refine isTrue_chain (thn (ha pins s σ H _ I h) fun v s1 ⟨x,H1,I1,r1,q1⟩=>test_link (thn (hb pins s1 σ H1 _ I1 q1) fun u s2 ⟨y,H2,I2,r2,q2⟩ =>
  thn (ho pins s2 σ H2 x y v u _ I2 r1 r2 q2) fun d s3 ⟨z,H3,I3,r3,k,e,q3⟩=>?_)) hm
 subst e; cases r3; refine YX ?_
 cases k with
 | false =>
  obtain ⟨k',e',q'⟩:=q3; cases e'; exact ite_ff ⟨H3,I3,q'⟩
 | true =>
  refine ite_tt (test_last (thn (hc pins s3 σ H3 _ I3 q3) fun w' s4 ⟨z',H4,I4,r4,q4⟩=>thn (ho' pins s4 σ H4 y z' u w' _ I4 r2 r4 q4) fun d' s5 ⟨z2,H5,I5,r5,k2,e2,q5⟩=>?_))
  subst e2; cases r5; exact YX ⟨H5,I5,q5⟩
theorem zgK:(sizeLine:Nat)<2 ^ 63:=by rw [sizeLine_eq]; decide
theorem zje:OpR X (binaryOp .Add) (fun x y H Q=>∃ i j,x=.str i/\y=.str j/\i.length+j.length<=sizeLine/\Q (.str (i ++ j)) H):=by
 intro pins s σ H x y v u Q I rx ry h; obtain ⟨i,j,rfl,rfl,hz,q⟩:=h; obtain ⟨t,rfl⟩:=rx; obtain ⟨t',rfl⟩:=ry
 exact add_str (fun t' tk=>⟨.str (i ++ j),H,I.tok _,⟨_,rfl⟩,q⟩) hz
theorem zct {x:V} {us:List Value} (r:zaL [x] us):∃ u,us=[u]/\za8 x u:=by
 cases r with
 | cons r1 r2=>cases r2; exact ⟨_,rfl,r1⟩
theorem znU {x y:V} {us:List Value} (r:zaL [x,y] us):∃ u w',us=[u,w']/\za8 x u/\za8 y w':=by
 cases r with
 | cons r1 r2 =>
  cases r2 with
  | cons r3 r4=>cases r4; exact ⟨_,_,rfl,r1,r3⟩
theorem zm8:zcP X (.builtin "abs") (fun xs H Q=>∃ i,xs=[.int i]/\Q (.int (if i<0 then -i else i)) H):=by
 intro pins s σ H xs us Q I r h; obtain ⟨i,rfl,q⟩:=h; obtain ⟨u,rfl,t,rfl⟩:=zct r
 exact call_abs_int fun u tk=>⟨.int (if i<0 then -i else i),H,I.tok _,⟨_,rfl⟩,q⟩
theorem zle:zcP X (.type "int") (fun xs H Q=>(∃ i,xs=[.int i]/\Q (.int i) H)\/∃ k,xs=[.bl k]/\Q (.int (if k then 1 else 0)) H):=by
 intro pins s σ H xs us Q I r h
 rcases h with ⟨i,rfl,q⟩ | ⟨k,rfl,q⟩
 ·obtain ⟨u,rfl,t,rfl⟩:=zct r
  exact call_int_int ⟨.int i,H,I,⟨_,rfl⟩,q⟩
 ·obtain ⟨u,rfl,r1⟩:=zct r
  cases r1
  exact call_int_bool ⟨.int (if k then 1 else 0),H,I.tok _,⟨_,rfl⟩,q⟩
theorem zg5:zcP X (.type "str") (fun xs H Q=>∃ i,xs=[.int i]/\i.natAbs.log2<1920/\Q (.str (toString i)) H):=by
 intro pins s σ H xs us Q I r h; obtain ⟨i,rfl,hz,q⟩:=h; obtain ⟨u,rfl,t,rfl⟩:=zct r; exact PySem.P.str_of_int hz ⟨.str _,H,I.tok _,⟨_,rfl⟩,q⟩
end
structure ObjM (h:Heap) (x dx C:Addr) (mA:Str->Option Value):Prop where
 obj:h.get? x=some (W.instObj C dx)
 ns:h.Ns1 dx mA
 ne:dx≠x
theorem zkG {h:Heap} {dx:Addr} {mA:Str->Option Value} (n:h.Ns1 dx mA):∃ od,h.get? dx=some od/\∀ name,W.lookIn name od=some (mA name):=by
 obtain ⟨o,es,ep,ho,hd,hk,_,hm⟩:=n
 refine ⟨o,ho,fun name=>?_⟩
 have e:=hm name; unfold nsFind findBy at e; rw [<- Array.find?_toList] at e; unfold W.lookIn; rw [hd]
 dsimp only
 split
 ·rename_i y q
  rw [q] at e; exact ye some e
 ·rename_i q
  rw [q] at e
  have a:es.toList.any (·.refKey)=false:=by
   rw [List.any_eq_false]; intro y hy; obtain ⟨z,t,hkey⟩:=hk y (Array.mem_toList_iff.mp hy); simp [DictEntry.refKey,hkey]
  have a':¬ es.toList.any (·.refKey)=true:=by rw [a]; exact yL
  rw [yM a']; exact ye some e
theorem ObjM.look {h:Heap} {x dx C:Addr} {mA:Str->Option Value} (I:ObjM h x dx C mA):∃ od,W.InstAt h x (W.instObj C dx) C (some od)/\∀ name,W.lookIn name od=some (mA name) :=
 let ⟨od,ho,hl⟩:=zkG I.ns
 ⟨od,⟨I.obj,rfl,rfl,ho⟩,hl⟩
section
variable {prog:Program} {w:World} {A:Around} {E:Value->Shared->Prop} {s:Shared} {K:W.Frag} {x dx C f:Addr} {mA:Str->Option Value} {name:Str} {v:Value}
end
theorem zlj.some_of {v:V} {o:Option Value} (r:zlj (some v) o):∃ u,o=some u/\za8 v u:=by
 cases o with
 | none=>exact (show False from r).elim
 | some u=>exact ⟨u,rfl,r⟩
section
variable {P:Program} {w:World} {H H':Hp} {h h':Heap} {a C dx:Addr} {fs fs':List (Str × V)}
theorem zpe (hok:HOk P w H h) (e:H a=some (.ins C dx fs)):∃ mA,ObjM h a dx C mA/\(∀ f,zlj (fs.lookup f) (mA f))/\PySem.Within mA (fs.map (·.1))/\fs.length<=1000/\H dx=some (.own a):=by
 obtain ⟨d,z,ne,ob,mA,n,r,q⟩:=(show zbN P w H h a (.ins C dx fs) from hok a _ e)
 exact ⟨mA,⟨ob,n,ne⟩,r,q,z,d⟩
end
structure Cls (K:W.Frag) (C:Addr):Prop where
 pg:W.plainGet K C Str.empty=true
 hd:W.hasDictIn K C=true
 po:W.plainOver K C=true
 sa:W.findIn K (.ref C) "__setattr__"=some (some (.builtin "object.__setattr__"))
theorem Cls.get {K:W.Frag} {C:Addr} (c:Cls K C) (f:Str):W.plainGet K C f=true:=c.pg
section
variable {X:Cx} {pins:List (Addr × Obj)} {σ:St} {H:Hp} {s:Shared} {a C dx:Addr} {fs:List (Str × V)} {f:Str} {v:V} {A:Around} {E:Value->Shared->Prop}
end
section
variable {X:Cx} {o e value:Expr} {f:Str} {pos pos' tpos:Pos} {ta tv:TE}
end
section
variable {X:Cx} {pins:List (Addr × Obj)} {σ:St} {H:Hp} {s:Shared} {A:Around} {E:Value->Shared->Prop} {Q:Value->Shared->Prop} {c:Value} {b:Bool}
end
structure Room (k:Nat) (A:Around):Prop where
 hd:A.handled=none
 dp:A.depth+3 * k+5<recursionLimit
 un:A.units+16 * k+200<cLine
theorem Room.mono {j k:Nat} {A:Around} (r:Room k A) (h:j<=k):Room j A:=⟨r.hd,by have:=r.dp; omega,by have:=r.un; omega⟩
theorem Room.deeper {k:Nat} {A:Around} (r:Room (k+1) A) (env:Env):Room k (A.deeper env) :=
 ⟨r.hd,by have:=r.dp; show A.depth+1+3 * k+5<_; omega,by have:=r.un; show A.units+3+16 * k+200<_; omega⟩
theorem Room.in1 {k:Nat} {A:Around} (r:Room (k+1) A):Room k A.in1 :=
 ⟨r.hd,by have:=r.dp; show A.depth+3 * k+5<_; omega,by have:=r.un; show A.units+1+16 * k+200<_; omega⟩
theorem Room.depth {k:Nat} {A:Around} (r:Room k A):A.depth<recursionLimit:=by have:=r.dp; omega
theorem Room.units {k:Nat} {A:Around} (r:Room k A):A.units+64<cLine:=by have:=r.un; omega
theorem Room.units0 {k:Nat} {A:Around} (r:Room k A):A.units<cLine:=by have:=r.un; omega
def zlm:TA:=fun _ H Q=>Q [] H
def ze2 (ta:TE) (tr:TA):TA:=fun σ H Q=>ta σ H fun x H1=>tr σ H1 fun xs H2=>Q (x :: xs) H2
section
variable {X:Cx} {e:Expr} {es:List Expr} {te:TE} {t:TA} {pos:Pos}
theorem zfk:PA X [] zlm:=fun _ _ _ _ H Q I h=>Calls.spliced_nil ⟨[],H,I,.nil,h⟩
theorem zdS (ha:PE X e te) (hr:PA X es t) (hs:starEach (e :: es) X.env=(false,eval e X.env) :: starEach es X.env:=by rfl):PA X (e :: es) (ze2 te t):=by
 intro pos pins s σ H Q I h; rw [hs]
 show wpAny _ _ (spliced ((false,eval e X.env) :: backTo pos (starEach es X.env))) _ _ s
 refine YV (thn (ha pins s σ H _ I h) fun u s1 ⟨x,H1,I1,r1,q1⟩=>?_)
 exact thn (hr pos pins s1 σ H1 _ I1 q1) fun us s2 ⟨xs,H2,I2,r2,q2⟩=>⟨x :: xs,H2,I2,.cons r1 r2,q2⟩
def zrV (t:TA):TE:=fun σ H Q=>t σ H fun xs H1=>xs.length<=sizeLine/\∀ p,H1 p=none->Q (.ref p) (upd H1 p (.tup xs))
def zpM (t:TA):TE:=fun σ H Q=>t σ H fun xs H1=>xs.length<=sizeLine/\∀ p,H1 p=none->Q (.ref p) (upd H1 p (.lst xs))
theorem zno {x1} (h:PA X es t):PE X (.Tuple es x1 pos) (zrV t):=by
 intro pins s σ H Q I hq
 refine wpAny_Tuple_spliced (thn (h pos pins s σ H _ I hq) fun us s1 ⟨xs,H1,I1,r,z,q⟩=>⟨by rw [<- r.length]; exact z,?_⟩)
 have hf:H1 s1.heap.objs.size=none:=I1.hok.fresh (yF _)
 refine ⟨.ref s1.heap.objs.size,upd H1 s1.heap.objs.size (.tup xs),I1.laid (t':=s1.toks) (fun b u e=>yC _ e) (yF _) ?_,rfl,q _ hf⟩
 exact ⟨z,us,r,⟨_,yI _ rfl,rfl,_,rfl⟩⟩
theorem zkj (h:PA X es t):PE X (.List es pos) (zpM t):=by
 intro pins s σ H Q I hq
 refine wpAny_List_spliced (thn (h pos pins s σ H _ I hq) fun us s1 ⟨xs,H1,I1,r,z,q⟩=>⟨by rw [<- r.length]; exact z,?_⟩)
 have hf:H1 s1.heap.objs.size=none:=I1.hok.fresh (yF _)
 refine ⟨.ref s1.heap.objs.size,upd H1 s1.heap.objs.size (.lst xs),I1.laid (t':=s1.toks) (fun b u e=>yC _ e) (yF _) ?_,rfl,q _ hf⟩
 exact ⟨z,us,0,r,yI _ rfl⟩
end
abbrev Sp:=List V->Hp->VK->XK->Prop
abbrev CXT:=List Env->Hp->Shared->XK->Value->Shared->Prop
structure Env0 (P:Program) (w:World) (K:W.Frag) (mg:Str->Option Value) (base:Heap) (A:Around) (outer:List Env) (s:Shared) (H:Hp):Prop where
 frames:A.frames=some outer
 mod:Mod K mg base
 bs:∀ b o,base.get? b=some o->s.heap.get? b=some o/\H b=none
 bsz:base.objs.size<=s.heap.objs.size
 funs:s.heap.FunFrames base outer
 frf:∀ b ∈ frs outer,H b=none
 hok:HOk P w H s.heap
 bare:AllBare s.gens
 tab:zjA base H
def CE (outer:List Env) (P:Program) (w:World) (H:Hp) (s:Shared) (Q:VK) (u:Value) (s':Shared):Prop :=
 ∃ v H',s'.os=s.os/\AllBare s'.gens/\Un (frs outer) [] H H' s.heap s'.heap/\HOk P w H' s'.heap/\za8 v u/\Q v H'
def CR (CX:CXT) (outer:List Env) (P:Program) (w:World) (H:Hp) (s:Shared) (Q:VK) (E:XK) (r:Result) (s':Shared):Prop :=
 match r with
 | .ok (.ret u)=>CE outer P w H s Q u s'
 | .ok _=>False
 | .error e=>CX outer H s E e s'
structure FnOk (P:Program) (w:World) (K:W.Frag) (mg:Str->Option Value) (base:Heap) (CX:CXT) (k:Nat) (f:Addr) (fd:FuncData) (ps:List Str) (sp:Sp):Prop where
 len:∀ vs H Q E,sp vs H Q E->vs.length=ps.length
 run:∀ (A:Around) (outer:List Env) (s:Shared) (H:Hp) (args:Args) (us:List Value) (vs:List V) (Q:VK) (E:XK),Room k A->Env0 P w K mg base A outer s H->BindsTo s fd args (ps.zip us)->zaL vs us->sp vs H Q E ->
  codeAny (model P w) A (.call (.ref f) args) (CR CX outer P w H s Q E) s
theorem Env0.in1 {P:Program} {w:World} {K:W.Frag} {mg:Str->Option Value} {base:Heap} {A:Around} {outer:List Env} {s:Shared} {H:Hp} (e:Env0 P w K mg base A outer s H) :
  Env0 P w K mg base A.in1 outer s H:=⟨e.frames,e.mod,e.bs,e.bsz,e.funs,e.frf,e.hok,e.bare,e.tab⟩
section
variable {X:Cx} {pins:List (Addr × Obj)} {σ:St} {H:Hp} {s s':Shared}
theorem Inv.env0 (I:Inv X pins σ H s):Env0 X.prog X.w X.K X.mg X.base X.A X.stack s H :=
 ⟨I.ok.frames,I.ok.mod,I.bs,yr I.ok.bsz I.sz,I.stack,I.stkFree,I.hok,I.bare,I.ok.tab.un I.base.tbls⟩
theorem Inv.after {Q:VK} {u:Value} (I:Inv X pins σ H s) (h:CE X.stack X.prog X.w H s Q u s'):EP X pins σ Q u s':=by
 obtain ⟨v,H',os,bare,un,hok,r,q⟩:=h; obtain ⟨hh,g,d,t,os'⟩:=s'
 obtain rfl:os'=s.os:=os
 exact ⟨v,H',I.call (h':=hh) (g':=g) (d':=d) (t':=t) (ch:=[]) un hok bare (fun b z=>yO z (by simp)),r,q⟩
end
def zrZ (sp:Sp) (dvs:List V) (E:XK) (t:TA):TE:=fun σ H Q=>t σ H fun vs H1=>sp (vs ++ dvs) H1 Q E
def zeZ (K:W.Frag) (fd:FuncData) (ps:List Str) (ds:List Value):Prop :=
 ∀ (s:Shared) (us:List Value),K.In s.heap->(us ++ ds).length=ps.length->BindsTo s fd ⟨us,[]⟩ (ps.zip (us ++ ds))
theorem zeZ.all {K:W.Frag} {fd:FuncData} {ps:List Str} (h:∀ us:List Value,us.length=ps.length->bindArgs fd ⟨us,[]⟩=pure (ps.zip us)):zeZ K fd ps []:=fun s us _ hl=>by
 rw [YJ] at hl ⊢; exact .of_eq (h us hl)
def zll (CX:CXT) (X:Cx) (E:XK):Prop:=∀ (pins:List (Addr × Obj)) (σ:St) (H:Hp) (s:Shared) (e:Value) (s':Shared),Inv X pins σ H s->CX X.stack H s E e s'->X.xe e s'
section
variable {X:Cx} {CX:CXT} {k:Nat} {f C:Addr} {fd:FuncData} {ps:List Str} {sp:Sp} {dvs:List V} {ds:List Value} {E:XK} {x m:Str} {p pos apos:Pos} {e o:Expr} {es:List Expr} {ta:TE} {t:TA}
theorem zpW {pins:List (Addr × Obj)} {σ:St} {H:Hp} {s:Shared} {Q:VK} {us:List Value} {vs:List V} (F:FnOk X.prog X.w X.K X.mg X.base CX k f fd ps sp) (hr:Room k X.A) (hb:zeZ X.K fd ps ds) (hd:zaL dvs ds) (hx:zll CX X E)
  (I:Inv X pins σ H s) (r:zaL vs us) (h:sp (vs ++ dvs) H Q E):wpAny (model X.prog X.w) X.A (call (.ref f) us) (EP X pins σ Q) X.xe s:=by
 have r2:zaL (vs ++ dvs) (us ++ ds):=r.append hd
 have hl:(us ++ ds).length=ps.length:=by rw [<- r2.length]; exact F.len _ _ _ _ h
 refine wpAny_call (codeAny_mono (F.run X.A X.stack s H ⟨us,[]⟩ (us ++ ds) (vs ++ dvs) Q E hr I.env0 (hb s us I.kIn hl) r2 h) fun r s' hq=>?_)
 cases r with
 | error e=>exact hx pins σ H s e s' I hq
 | ok fl =>
  cases fl with
  | ret u=>exact I.after hq
  | next=>exact False.elim hq
  | brk=>exact False.elim hq
  | cont=>exact False.elim hq
theorem zoE (F:FnOk X.prog X.w X.K X.mg X.base CX k f fd ps sp) (hr:Room k X.A) (hg:Gl X x) (hm:X.mg x=some (.ref f)) (hk:W.keepIn X.K (.ref f)=true) (hb:zeZ X.K fd ps ds) (hd:zaL dvs ds) (hx:zll CX X E)
  (ha:PA X (e :: es) t) (hdb:(x == ("__debug__":Str))=false:=by decide) (he:starEach (e :: es) X.env=(false,eval e X.env) :: starEach es X.env:=by rfl) (hpl:(backTo pos (starEach es X.env)).any (·.1)=false:=by rfl) :
  PE X (.Call (.Name x p) (e :: es) [] pos) (zrZ sp dvs E t):=by
 intro pins s σ H Q I h; refine wpAny_Call_Name_kw (zkJ I hg hm ?_ hdb)
 refine W.callWith_K (h₀:=X.base) I.ok.mod.kin hk (thn (ha pos pins s σ H _ I h) fun us s1 ⟨vs,H1,I1,r,q⟩=>⟨I1.kIn,?_⟩) he hpl
 exact zpW F hr hb hd hx I1 r q
end
def PK (X:Cx) (kws:List Keyword) (t:TA):Prop :=
 ∀ (pos:Pos) (pins:List (Addr × Obj)) (s:Shared) (σ:St) (H:Hp) (Q:List V->Hp->Prop),Inv X pins σ H s->t σ H Q->wpAny (model X.prog X.w) X.A (evalAll ((backToKw pos (keywordEach kws X.env)).map (·.2))) (AP X pins σ Q) X.xe s
section
variable {X:Cx} {CX:CXT} {k:Nat} {f C:Addr} {fd:FuncData} {ps ks:List Str} {sp:Sp} {E:XK} {x m:Str} {p pos apos kpos:Pos} {e o:Expr} {es:List Expr} {kws:List Keyword} {te ta:TE} {t tk:TA} {nm:Option Str}
theorem zqi:PK X [] zlm:=fun _ _ _ _ H Q I h=>wpAny_evalAll_nil ⟨[],H,I,.nil,h⟩
theorem zor (ha:PE X e te) (hr:PK X kws t):PK X (⟨nm,e,kpos⟩ :: kws) (ze2 te t):=by
 intro pos pins s σ H Q I h
 show wpAny _ _ (evalAll ((do let v <- eval e X.env; standAt pos; pure v) :: (backToKw pos (keywordEach kws X.env)).map (·.2))) _ _ s
 refine wpAny_evalAll_cons (yA (thn (ha pins s σ H _ I h) fun u s1 ⟨x,H1,I1,r1,q1⟩=>yA (wpAny_standAt (yD ?_))))
 exact thn (hr pos pins s1 σ H1 _ I1 q1) fun us s2 ⟨xs,H2,I2,r2,q2⟩=>⟨x :: xs,H2,I2,.cons r1 r2,q2⟩
variable {g:List Value->List Value->List Value} {gV:List V->List V->List V}
end
structure FnScope (N P:List Str) (sc:Scope):Prop where
 kind:sc.kind=.function
 co:sc.isCoroutine=false
 gen:sc.isGenerator=false
 nd:N.Nodup
 pre:N.take P.length=P
 par:∀ x ∈ P,sc.names.lookup x=some .local\/sc.names.lookup x=some .cell
 nofree:∀ y ∈ sc.names,y.2≠.free
theorem zhb {kindOf:Str->Option NameKind} {x:Str}:∀ {binds:List (Str × Value)} {m:Str->Option Value},(∀ v,(x,v) ∉ binds)->bindL kindOf binds m x=m x
 | [],_,_=>rfl
 | (n,v) :: r,m,h=>by
  unfold bindL
  rw [zhb fun w hw=>h w (yH _ hw)]
  split
  ·have:x≠n:=by rintro rfl; exact h v yT
   simp [this]
  ·rfl
theorem zhd {kindOf:Str->Option NameKind} {x:Str}:∀ {binds:List (Str × Value)} {m:Str->Option Value},(∀ v,(x,v) ∉ binds)->bindC kindOf binds m x=m x
 | [],_,_=>rfl
 | (n,v) :: r,m,h=>by
  unfold bindC
  rw [zhd fun w hw=>h w (yH _ hw)]
  split
  ·rfl
  ·have:x≠n:=by rintro rfl; exact h v yT
   simp [this]
theorem zhc {kindOf:Str->Option NameKind} {x:Str} {v:Value}:∀ {P:List Str} {vs:List Value} {i:Nat} {m:Str->Option Value},P.Nodup->P[i]?=some x->vs[i]?=some v->kindOf x=some .local ->
  bindL kindOf (P.zip vs) m x=some v
 | [],_,_,_,_,h,_,_=>by simp at h
 | _ :: _,[],_,_,_,_,h,_=>by simp at h
 | p :: P,w :: vs,0,m,nd,h1,h2,hk=>by
  simp at h1 h2; subst h1; subst h2
  show bindL kindOf ((p,w) :: P.zip vs) m p=_
  unfold bindL
  rw [zhb fun v hv=>(YC.mp nd).1 (List.of_mem_zip hv).1,yR hk]
  simp
 | p :: P,w :: vs,i+1,m,nd,h1,h2,hk=>by
  show bindL kindOf ((p,w) :: P.zip vs) m x=_
  unfold bindL
  exact zhc (i:=i) (YC.mp nd).2 (by simpa using h1) (by simpa using h2) hk
theorem zhe {kindOf:Str->Option NameKind} {x:Str} {v:Value}:∀ {P:List Str} {vs:List Value} {i:Nat} {m:Str->Option Value},P.Nodup->P[i]?=some x->vs[i]?=some v->kindOf x≠some .local ->
  bindC kindOf (P.zip vs) m x=some v
 | [],_,_,_,_,h,_,_=>by simp at h
 | _ :: _,[],_,_,_,_,h,_=>by simp at h
 | p :: P,w :: vs,0,m,nd,h1,h2,hk=>by
  simp at h1 h2; subst h1; subst h2
  show bindC kindOf ((p,w) :: P.zip vs) m p=_
  unfold bindC
  rw [zhd fun v hv=>(YC.mp nd).1 (List.of_mem_zip hv).1,yM hk]
  simp
 | p :: P,w :: vs,i+1,m,nd,h1,h2,hk=>by
  show bindC kindOf ((p,w) :: P.zip vs) m x=_
  unfold bindC
  exact zhe (i:=i) (YC.mp nd).2 (by simpa using h1) (by simpa using h2) hk
def start (N:List Str) (vs:List V):St:=vs.map some ++ List.replicate (N.length-vs.length) none
def zlw (CX:CXT) (P:Program) (w:World) (K:W.Frag) (mg:Str->Option Value) (base:Heap) (N:List Str) (qual:Str) (scope:Scope) (f:Addr) (cd:Value) (A:Around) (outer:List Env) (s:Shared) (H:Hp) (E:XK):Cx where
 prog:=P
 w:=w
 K:=K
 mg:=mg
 base:=base
 A:=A.deeper (envOfC qual scope s.heap.objs.size f cd)
 N:=N
 s₀:=s
 H₀:=H
 env:=envOfC qual scope s.heap.objs.size f cd
 outer:=outer
 stack:=envOfC qual scope s.heap.objs.size f cd :: outer
 ex:=[]
 calm:=true
 fn:=fun _=>true
 pn:=[]
 xe:=fun e s'=>wpAny (model P w) (A.deeper (envOfC qual scope s.heap.objs.size f cd)) (leaving (envOfC qual scope s.heap.objs.size f cd) e) (fun _ s''=>CX outer H s E e s'') (fun e' s''=>CX outer H s E e' s'') s'
theorem ziP {sc:Scope} {n:Nat} {x:Str} (h:sc.names.lookup x=some .cell):∃ c,(cellsFrom n sc.names []).lookup x=some c:=by
 have q:=W.cellsFrom_some sc.names n [] (.inl h); exact Option.isSome_iff_exists.mp q
theorem zkR {CX:CXT} {P:Program} {w:World} {K:W.Frag} {mg:Str->Option Value} {base:Heap} {N ps:List Str} {qual:Str} {scope:Scope} {f:Addr} {cd:Value} {A:Around} {outer:List Env} {s s1:Shared} {H:Hp} {E:XK} {us:List Value} {vs:List V}
  (S:FnScope N ps scope) (hd:A.handled=none) (e0:Env0 P w K mg base A outer s H) (hl:vs.length=ps.length) (r:zaL vs us)
  (x:InCallC s s.heap.objs.size (bindL (envOfC qual scope s.heap.objs.size f cd).kindOf (ps.zip us) fun _=>none) (cellsFrom (s.heap.objs.size+1) scope.names []) (bindC (envOfC qual scope s.heap.objs.size f cd).kindOf (ps.zip us) fun _=>none) s1) :
  Inv (zlw CX P w K mg base N qual scope f cd A outer s H E) [] (start N vs) H s1:=by
 have hpl:ps.length<=N.length:=by have:=ye List.length S.pre; rw [Yd] at this; omega
 obtain ⟨h1,tk,rfl,hk⟩:=x.done
 have noA:∀ b:Addr,b ∉ (zlw CX P w K mg base N qual scope f cd A outer s H E).ex:=fun b z=>yO (show b ∈ ([]:List Addr) from z) (by simp)
 refine ⟨⟨e0.mod,S.kind,rfl,rfl,yF _,fun y z c h1 h2=>?_,fun y hy=>?_,fun y c _ h=>?_,fun _=>hd,Around.frames_deeper e0.frames,.inr ⟨rfl,rfl⟩,fun b z=>yO z (noA b),e0.bs,e0.bsz,fun b _ _=>noA b,fun b z=>yO z (noA b),e0.funs,e0.frf,e0.tab⟩,
  rfl,e0.bare,Un.kept hk,⟨_,x.toInCall.ns,fun i y v h1 h2 h3=>?_⟩,fun y c h=>⟨_,x.cell y c h⟩,e0.hok.fresh (yF _),fun y c h=>?_,fun p hp=>yO (show p ∈ ([]:List (Addr × Obj)) from hp) (by simp),e0.hok.kept hk,?_⟩
 ·exact name_of_addr x.apart (PySem.mem_of_lookup h1) (PySem.mem_of_lookup h2)
 ·have hy:scope.names.lookup y=some .cell\/scope.names.lookup y=some .free:=hy
  rcases hy with hy | hy
  ·exact ziP hy
  ·exact yO rfl (S.nofree _ (PySem.mem_of_lookup hy))
 ·exact YZ (x.above y c (PySem.mem_of_lookup h))
 ·have hi:i<vs.length:=by
   unfold start at h2
   by_cases hi:i<vs.length
   ·exact hi
   ·rw [List.getElem?_append_right (by simpa using hi)] at h2
    rw [List.getElem?_replicate] at h2
    split at h2 <;> cases h2
  have ha:vs[i]?=some v:=by
   unfold start at h2
   rw [List.getElem?_append_left (by simpa using hi),yJ] at h2
   cases e:vs[i]? with
   | none=>rw [e] at h2; cases h2
   | some a=>rw [e] at h2; cases h2; rfl
  obtain ⟨u,hu,rv⟩:=r.get ha
  have hp:ps[i]?=some y:=by
   rw [<- S.pre,List.getElem?_take_of_lt (by omega)]; exact h1
  have ndP:ps.Nodup:=by rw [<- S.pre]; exact S.nd.sublist (List.take_sublist _ _)
  refine ⟨u,rv,?_⟩
  rcases S.par y (yV hp) with k | k
  ·exact .inl ⟨k,zhc ndP hp hu k⟩
  ·obtain ⟨c,e⟩:=ziP (n:=s.heap.objs.size+1) k
   refine .inr ⟨.inl k,c,e,?_⟩; have q:=x.cell y c e
   rw [zhe ndP hp hu (by show scope.names.lookup y≠_; rw [k]; decide)] at q
   exact q
 ·exact e0.hok.fresh (YZ (x.above y c (PySem.mem_of_lookup h)))
 ·unfold start
  show _=N.length
  rw [yP,yE,List.length_replicate]; omega
theorem zsM {CX:CXT} {P:Program} {w:World} {K:W.Frag} {mg:Str->Option Value} {base:Heap} {k:Nat} {f:Addr} {name qual:Str} {params:Arguments} {body:List Stmt} {scope:Scope} {dV kV doc pm cdv ct oc:Value} {an od:Option Addr}
  {osl:Array (Option Value)} {N ps:List Str} {sp:Sp} (lk:K.lookup f=some ⟨oc,od,.func (W.fnOf name qual params body scope dV kV doc pm an cdv ct),osl⟩) (hcd:W.codeIn K cdv qual=true) (S:FnScope N ps scope)
  (len:∀ vs H Q E,sp vs H Q E->vs.length=ps.length)
  (hbody:∀ (A:Around) (outer:List Env) (s:Shared) (H:Hp) (vs:List V) (Q:VK) (E:XK),Room k (A.deeper (envOfC qual scope s.heap.objs.size f cdv))->sp vs H Q E ->
   ∃ t,PSs (zlw CX P w K mg base N qual scope f cdv A outer s H E) body t/\t { nx:=fun _ H'=>Q .non H',rt:=Q } (start N vs) H) :
  FnOk P w K mg base CX (k+1) f (W.fnOf name qual params body scope dV kV doc pm an cdv ct) ps sp:=by
 refine ⟨len,fun A outer s H args us vs Q E hr e0 hb r hsp=>?_⟩
 have hl:=len _ _ _ _ hsp
 have KX:K.In s.heap:=e0.mod.kin.keeps fun b o e=>(e0.bs b o e).1
 have lim:s.heap.NoLimit:=e0.mod.nolimit.keeps fun b o e=>(e0.bs b o e).1
 have hkind:∀ y ∈ ps.zip us,scope.names.lookup y.1=some .local\/(scope.names.lookup y.1=some .cell/\((cellsFrom (s.heap.objs.size+1) scope.names []).lookup y.1).isSome=true):=fun ⟨n,v⟩ hy=>by
  rcases S.par n (List.of_mem_zip hy).1 with q | q
  ·exact .inl q
  ·exact .inr ⟨q,W.cellsFrom_some _ _ _ (.inl q)⟩
 refine codeAny_call_function hr.depth (KX _ _ lk) rfl S.co S.gen rfl (W.codeRec_of KX hcd) (hb _ _ _ _ ?_)
 refine wpAny_newFunctionEnv_cells S.kind hkind fun env he s1 x=>?_
 subst he; refine ⟨lim.keeps x.toInCall.keep,codeAny_func ?_⟩; obtain ⟨t,ht,hq⟩:=hbody A outer s H vs Q E (hr.deeper _) hsp
 have I:Inv (zlw CX P w K mg base N qual scope f cdv A outer s H E) [] (start N vs) H s1:=zkR S hr.hd e0 hl r x
 refine Ya (ht [] s1 (start N vs) H _ I hq) (fun fl s' hs=>?_) fun e s' hs=>hs
 have fin:∀ {σ':St} {H':Hp} {v:V} {u:Value},Inv (zlw CX P w K mg base N qual scope f cdv A outer s H E) [] σ' H' s'->za8 v u->Q v H'->CE outer P w H s Q u s' :=
  fun {σ' H' v u} J rv q=>⟨v,H',J.os,J.bare,J.base,J.hok,rv,q⟩
 cases fl with
 | ret u =>
  obtain ⟨v,σ',H',J,rv,q⟩:=hs; exact fin J rv q
 | next =>
  obtain ⟨σ',H',J,q⟩:=hs; exact fin (v:=V.non) (u:=Value.none) J rfl q
 | brk =>
  obtain ⟨_,_,_,q⟩:=hs; exact False.elim q
 | cont =>
  obtain ⟨_,_,_,q⟩:=hs; exact False.elim q
section
variable {X:Cx} {x:Str} {p pos:Pos} {e:Expr} {es:List Expr} {t:TA} {id T:String} {r:List V->Hp->VK->Prop}
def tCB (r:List V->Hp->VK->Prop) (t:TA):TE:=fun σ H Q=>t σ H fun vs H1=>r vs H1 Q
theorem zmp (hc:zcP X (.builtin id) r) (hg:Gl X x) (hm:X.mg x=none) (hv:bootBuiltins x=some (.builtin id)) (ha:PA X (e :: es) t) (hn:x≠"__name__":=by decide) (hdb:(x == ("__debug__":Str))=false:=by decide)
  (he:starEach (e :: es) X.env=(false,eval e X.env) :: starEach es X.env:=by rfl) (hpl:(backTo pos (starEach es X.env)).any (·.1)=false:=by rfl):PE X (.Call (.Name x p) (e :: es) [] pos) (tCB r t):=by
 intro pins s σ H Q I h; refine wpAny_Call_Name_kw (zc7 I hg hm hv ?_ hn hdb)
 exact PyProof.Rows.callWith_builtin1 (thn (ha pos pins s σ H _ I h) fun us s1 ⟨vs,H1,I1,r1,q1⟩=>hc pins s1 σ H1 vs us Q I1 r1 q1) he hpl
theorem zko (hc:zcP X (.type T) r) (hg:Gl X x) (hm:X.mg x=none) (hv:bootBuiltins x=some (.type T)) (ha:PA X (e :: es) t) (hn:x≠"__name__":=by decide) (hdb:(x == ("__debug__":Str))=false:=by decide)
  (he:starEach (e :: es) X.env=(false,eval e X.env) :: starEach es X.env:=by rfl) (hpl:(backTo pos (starEach es X.env)).any (·.1)=false:=by rfl):PE X (.Call (.Name x p) (e :: es) [] pos) (tCB r t):=by
 intro pins s σ H Q I h; refine wpAny_Call_Name_kw (zc7 I hg hm hv ?_ hn hdb)
 exact YE (thn (ha pos pins s σ H _ I h) fun us s1 ⟨vs,H1,I1,r1,q1⟩=>hc pins s1 σ H1 vs us Q I1 r1 q1) he hpl
end
end L2
namespace HT
open PySem PyProof.Rows
section
open PySem.SeqAt
open PySem.AutoSeq1 (wpAny_loadPart')
open PySem.MeetsSeq PySem.MeetsSeq2 PySem.MeetsSeq3
end
section
variable {prog:Program} {w:World} {A:Around} {E:Value->Shared->Prop} {s:Shared}
theorem cat_tup {t b:Addr} {vs ws:List Value} {Q:Value->Shared->Prop} (ht:IsTup s.heap t vs.toArray) (hb:IsTup s.heap b ws.toArray) (hv:vs≠[])
  (h1:ws=[]->Q (.ref t) s) (h2:ws≠[]->Q (.ref s.heap.objs.size) { s with heap:=s.heap.push { cls:=.type "tuple",data:=.seq (vs ++ ws).toArray } })
  (hsz:vs.length+ws.length<=sizeLine):wpAny (model prog w) A (binaryOp .Add (.ref t) (.ref b)) Q E s:=by
 obtain ⟨⟨cls,dd,data,sl⟩,ho,hc,n,hd⟩:=id ht
 obtain ⟨⟨cls2,dd2,data2,sl2⟩,ho2,hc2,n2,hd2⟩:=id hb
 simp only at hc hd hc2 hd2
 subst hc hd hc2 hd2
 have e:vs.toArray ++ ws.toArray=(vs ++ ws).toArray:=by simp
 by_cases hw:ws=[]
 ·exact concat_meets ⟨_,ho,rfl⟩ ⟨_,ho2,rfl⟩ noFill_tuple_add seq_tuple_add PySem.F.slot_tuple_add PySem.F.entry_tuple_add (PySem.F.args_tuple_add_2 _ _)
   (tuple_addW1 t b vs.toArray ws.toArray n n2 dd dd2 sl sl2 (by simpa using hv) (by simp [hw])) ⟨ho,ho2,h1 hw⟩
 ·refine concat_meets ⟨_,ho,rfl⟩ ⟨_,ho2,rfl⟩ noFill_tuple_add seq_tuple_add PySem.F.slot_tuple_add PySem.F.entry_tuple_add (PySem.F.args_tuple_add_2 _ _)
   (tuple_addW2 t b vs.toArray ws.toArray n n2 dd dd2 sl sl2 (by simpa using hv) (by simpa using hw) (by rw [yK,yK]; exact hsz)) ⟨ho,ho2,?_⟩
  rw [e]; exact h2 hw
def sIx (n d:Nat):Option Int->Nat
 | none=>d
 | some v=>if v<0 then (v+(n:Int)).toNat else min v.toNat n
theorem sIx_none (n d:Nat):sIx n d none=d:=rfl
theorem sIx_nat (n d k:Nat):sIx n d (some (k:Int))=min k n:=by
 show (if (k:Int)<0 then ((k:Int)+(n:Int)).toNat else min (k:Int).toNat n)=min k n
 rw [yM (by omega),Yo]
theorem zpV (n d:Nat) (hd:d<=n) (o:Option Int):sIx n d o<=n:=by
 cases o with
 | none=>exact hd
 | some v =>
  show (if v<0 then (v+(n:Int)).toNat else min v.toNat n)<=n
  by_cases hv:v<0
  ·rw [yR hv]; omega
  ·rw [yM hv]; exact Nat.min_le_right _ _
theorem zlb (v:Int) (n d:Nat):(if v<0 then max (v+(n:Int)) 0 else min v (n:Int))=((sIx n d (some v):Nat):Int):=by
 show (if v<0 then max (v+(n:Int)) 0 else min v (n:Int))=(((if v<0 then (v+(n:Int)).toNat else min v.toNat n):Nat):Int)
 by_cases hv:v<0
 ·simp only [yR hv]; omega
 ·simp only [yM hv]; omega
theorem zjz (lo hi:Option Int) (n:Nat):Builtin.Slice.sliceAdjust lo hi 1 (n:Int)=(((sIx n 0 lo:Nat):Int),((sIx n n hi:Nat):Int)):=by
 have h1:¬ ((1:Int)<0):=by omega
 unfold Builtin.Slice.sliceAdjust; simp only [h1,if_false]; refine Prod.ext ?_ ?_
 ·cases lo with
  | none=>rfl
  | some v=>exact zlb v n 0
 ·cases hi with
  | none=>rfl
  | some v=>exact zlb v n n
theorem zjc (i j:Nat):Builtin.Slice.slicePlaces (i:Int) (j:Int) 1=j-i:=by
 unfold Builtin.Slice.slicePlaces
 have h1:(1:Int) > 0:=by omega
 simp only [h1,if_true,Int.ediv_one]
 split <;> omega
theorem zfb {v:Value} {o:Option Int} {Q:Option Int->Shared->Prop} (p:IsPart v o) (h:Q o s):wpAny (model prog w) A (Builtin.Slice.slicePartIndex v) Q E s:=by
 cases p with
 | none=>exact slicePart_none h
 | int i t=>exact slicePart_int h
theorem zcq {sl:Addr} {vl vu:Value} {lo hi:Option Int} {n:Nat} {Q:Int × Int × Nat->Shared->Prop} (hs:s.heap.IsSliceOf sl vl vu .none) (pl:IsPart vl lo) (pu:IsPart vu hi)
  (h:Q (((sIx n 0 lo:Nat):Int),1,sIx n n hi-sIx n 0 lo) s):wpAny (model prog w) A (Builtin.Slice.sliceApplied (.ref sl) (pure (n:Int))) Q E s:=by
 obtain ⟨os,hos,hcs,hds⟩:=id hs; unfold Builtin.Slice.sliceApplied Builtin.Slice.sliceFields; refine yA (yA (yt hos hds (x:=vl) rfl (yA (yt hos hds (x:=vu) rfl (yA (yt hos hds (x:=.none) rfl (yD ?_))))))); refine yA (slicePart_none ?_)
 show wpAny _ _ (if ((1:Int) == 0)=true then _ else _) _ _ s
 rw [yM (by decide)]
 refine yA (zfb pl (yA (zfb pu (yA (yD ?_)))))
 show wpAny _ _ (match Builtin.Slice.sliceAdjust lo hi 1 (n:Int) with | (lo,hi)=>pure (lo,(1:Int),Builtin.Slice.slicePlaces lo hi 1)) _ _ s
 rw [zjz lo hi n]
 show wpAny _ _ (pure (((sIx n 0 lo:Nat):Int),(1:Int),Builtin.Slice.slicePlaces ((sIx n 0 lo:Nat):Int) ((sIx n n hi:Nat):Int) 1)) _ _ s
 rw [zjc]; exact yD h
theorem zmg (xs:Array Value) (i k:Nat):((List.range k).filterMap fun (m:Nat)=>xs[((i:Int)+(m:Int) * 1).toNat]?).toArray=((xs.toList.drop i).take k).toArray:=by
 have e:(fun (m:Nat)=>xs[((i:Int)+(m:Int) * 1).toNat]?)=fun m=>xs[i+m]?:=by
  funext m
  have:((i:Int)+(m:Int) * 1).toNat=i+m:=by omega
  rw [this]
 rw [e]
 have:=pick_run xs i k
 rw [List.filterMap_map] at this
 have e2:((fun x=>xs[x]?) ∘ fun x=>i+x)=fun m=>xs[i+m]?:=rfl
 rw [e2] at this; rw [this]
theorem getItem_tuple_cut {t sl:Addr} {items:Array Value} {vl vu:Value} {lo hi:Option Int} {Q:Value->Shared->Prop} (ht:IsTup s.heap t items) (hs:s.heap.IsSliceOf sl vl vu .none) (pl:IsPart vl lo) (pu:IsPart vu hi)
  (hw:¬ (sIx items.size 0 lo=0/\sIx items.size items.size hi=items.size))
  (h:Q (.ref s.heap.objs.size) { s with heap:=s.heap.push { cls:=.type "tuple",data:=.seq ((items.toList.drop (sIx items.size 0 lo)).take (sIx items.size items.size hi-sIx items.size 0 lo)).toArray } })
  (hsz:items.size<=sizeLine):wpAny (model prog w) A (getItem (.ref t) (.ref sl)) Q E s:=by
 have htake:sizeOk (.seq ((items.toList.drop (sIx items.size 0 lo)).take (sIx items.size items.size hi-sIx items.size 0 lo)).toArray):=by
  show ((items.toList.drop (sIx items.size 0 lo)).take (sIx items.size items.size hi-sIx items.size 0 lo)).toArray.size<=sizeLine
  rw [yK,Yd,List.length_drop,yw]; omega
 have hj:sIx items.size items.size hi<=items.size:=zpV _ _ (yF _) hi
 obtain ⟨os,hos,hcs,hds⟩:=id hs
 have hTs:s.TypeIs (.ref sl) "slice":=⟨os,hos,hcs⟩
 unfold getItem
 try with_reducible refine YS ?_
 first | refine yA (yD ?_) | skip
 refine yA (wpAny_sequenceKey ht.typeIs (by decide) ?_)
 refine yA (wpAny_callSpecial?_slot (name:=Str.ofString "__getitem__") ht.typeIs Yb
  (yx Yb ht.typeIs entry_tuple_getitem ?_ (args_tuple_getitem _ _)))
 show wpAny _ _ (Builtin.Tuple.tupleItemsOf (.ref t) >>= _) _ _ s
 refine yA (tupleItemsOf_ ht ?_); refine yA (wpAny_typeOf hTs ?_)
 rw [yR (by decide)]
 refine yA (zcq hs pl pu ?_)
 have hno:¬ ((((sIx items.size 0 lo:Nat):Int) == 0 && (1:Int) == 1 && (sIx items.size items.size hi-sIx items.size 0 lo) == items.size)=true):=by
  intro q; rw [yg,yg] at q
  have q1:((sIx items.size 0 lo:Nat):Int)=0:=eq_of_beq q.1.1
  have q2:sIx items.size items.size hi-sIx items.size 0 lo=items.size:=eq_of_beq q.2
  exact hw ⟨by omega,by omega⟩
 show wpAny _ _ (if (((sIx items.size 0 lo:Nat):Int) == 0 && (1:Int) == 1 && (sIx items.size items.size hi-sIx items.size 0 lo) == items.size)=true then _ else _) _ _ s
 rw [yM hno,zmg]
 first
  | exact yA (m:=Builtin.Tuple.tupleExact _) (yc (yD ⟨_,rfl,yD h⟩) htake)
  | exact yA (m:=Builtin.Tuple.tupleExact _) (yc (yA (yD (yD ⟨_,rfl,yD h⟩))) htake)
  | exact yA (yA (m:=Builtin.Tuple.tupleExact _) (yc (yD (yD ⟨_,rfl,yD h⟩)) htake))
  | exact yA (yA (m:=Builtin.Tuple.tupleExact _) (yc (yD ⟨_,rfl,yD h⟩) htake))
end
end HT
namespace L2
open PySem PySem.Spec PyProof.Rows
abbrev TO:=St->Hp->(Option Int->Hp->Prop)->Prop
def PO (X:Cx) (e:Option Expr) (t:TO):Prop :=
 ∀ (pins:List (Addr × Obj)) (s:Shared) (σ:St) (H:Hp) (Q:Option Int->Hp->Prop),Inv X pins σ H s->t σ H Q ->
  wpAny (model X.prog X.w) X.A (evalPart e X.env) (fun u s'=>∃ o H',Inv X pins σ H' s'/\IsPart u o/\Q o H') X.xe s
def znX:TO:=fun _ H Q=>Q none H
def zrW (t:TE):TO:=fun σ H Q=>t σ H fun x H1=>∃ i,x=.int i/\Q (some i) H1
section
variable {X:Cx} {e:Expr} {te:TE} {lo hi:Option Expr} {tl th:TO} {pos p2:Pos}
theorem zoo:PO X none znX:=by
 intro pins s σ H Q I h; rw [evalPart_none]; exact yD ⟨none,H,I,.none,h⟩
theorem zon (h:PE X e te):PO X (some e) (zrW te):=by
 intro pins s σ H Q I hw; rw [evalPart_some]
 refine thn (h pins s σ H _ I hw) fun u s1 ⟨x,H1,I1,r1,q1⟩=>?_
 obtain ⟨i,rfl,q⟩:=q1; obtain ⟨t,rfl⟩:=r1; exact ⟨some i,H1,I1,.int i t,q⟩
def SlR (X:Cx) (r:V->Option Int->Option Int->Hp->VK->Prop):Prop :=
 ∀ (pins:List (Addr × Obj)) (s:Shared) (σ:St) (H:Hp) (x:V) (v vl vu:Value) (lo hi:Option Int) (sl:Addr) (Q:VK),Inv X pins σ H s->za8 x v->s.heap.IsSliceOf sl vl vu .none->IsPart vl lo->IsPart vu hi->r x lo hi H Q ->
  ∃ T id,typeLookup (.type T) "__getitem__"=pure (some (.builtin id))/\s.TypeIs v T/\wpAny (model X.prog X.w) X.A (getItem v (.ref sl)) (EP X pins σ Q) X.xe s
theorem SlR.or {r r':V->Option Int->Option Int->Hp->VK->Prop} (h:SlR X r) (h':SlR X r'):SlR X (fun x lo hi H Q=>r x lo hi H Q\/r' x lo hi H Q):=by
 intro pins s σ H x v vl vu lo hi sl Q I rx hs pl pu q
 rcases q with q | q
 ·exact h pins s σ H x v vl vu lo hi sl Q I rx hs pl pu q
 ·exact h' pins s σ H x v vl vu lo hi sl Q I rx hs pl pu q
def tSl (r:V->Option Int->Option Int->Hp->VK->Prop) (te:TE) (tl th:TO):TE:=fun σ H Q=>te σ H fun x H1=>tl σ H1 fun l H2=>th σ H2 fun u H3=>r x l u H3 Q
theorem zmk {r:V->Option Int->Option Int->Hp->VK->Prop} (hr:SlR X r) (he:PE X e te) (hl:PO X lo tl) (hu:PO X hi th):PE X (.Subscript e (.Slice lo hi none p2) pos) (tSl r te tl th):=by
 intro pins s σ H Q I h
 refine Subscript_ (thn (he pins s σ H _ I h) fun v s1 ⟨x,H1,I1,r1,q1⟩=>?_)
 refine wpAny_Slice (thn (hl pins s1 σ H1 _ I1 q1) fun vl s2 ⟨l,H2,I2,pl,q2⟩=>thn (hu pins s2 σ H2 _ I2 q2) fun vu s3 ⟨u,H3,I3,pu,q3⟩=>?_)
 rw [evalPart_none]; refine yD ?_
 have I4:Inv X pins σ H3 { s3 with heap:=s3.heap.push { cls:=.type "slice",data:=.fields #[vl,vu,.none] } }:=I3.kept (t':=s3.toks) fun b ob q=>yC _ q
 obtain ⟨T,id,hT,ht,hg⟩:=hr pins { s3 with heap:=s3.heap.push { cls:=.type "slice",data:=.fields #[vl,vu,.none] } } σ H3 x v vl vu l u s3.heap.objs.size Q I4 r1 (Heap.IsSliceOf.new ..) pl pu q3
 show wpAny (model X.prog X.w) X.A (subscriptTail e (.Slice lo hi none p2) v (.ref s3.heap.objs.size)) (EP X pins σ Q) X.xe { s3 with heap:=s3.heap.push { cls:=.type "slice",data:=.fields #[vl,vu,.none] } }
 exact tail_any (ops:=[.ref s3.heap.objs.size,v]) ht hT hg (by with_unfolding_all rfl)
def zk9 (xs:List V) (lo hi:Option Int):List V:=(xs.drop (HT.sIx xs.length 0 lo)).take (HT.sIx xs.length xs.length hi-HT.sIx xs.length 0 lo)
theorem zeX (xs:List V) (lo hi:Option Int):(zk9 xs lo hi).length<=xs.length:=by
 unfold zk9; rw [Yd,List.length_drop]; omega
def ztG (K:W.Frag):V->Option Int->Option Int->Hp->VK->Prop:=fun x lo hi H Q=>∃ a xs,x=.ref a/\SqT K H a xs /\
 ¬ (HT.sIx xs.length 0 lo=0/\HT.sIx xs.length xs.length hi=xs.length)/\∀ p,H p=none->Q (.ref p) (upd H p (.tup (zk9 xs lo hi)))
theorem zpQ:SlR X (ztG X.K):=by
 intro pins s σ H x v vl vu lo hi sl Q I rx hs pl pu h; obtain ⟨a,xs,rfl,hx,hw,q⟩:=h; cases rx; obtain ⟨its,r,ht,hz⟩:=I.tuple hx
 have hlen:its.toArray.size=xs.length:=by rw [yK]; exact r.length.symm
 refine ⟨"tuple",_,PyProof.Rows.slot_tuple_getitem.lookup,ht.typeIs,?_⟩
 refine HT.getItem_tuple_cut ht hs pl pu (by rw [hlen]; exact hw) ?_ (by rw [hlen]; exact hz)
 rw [hlen]
 refine ⟨.ref s.heap.objs.size,_,I.laid (t':=s.toks) (o:=.tup (zk9 xs lo hi)) (fun b ob q=>yC _ q) (yF _) ?_,rfl,q _ (I.hok.fresh (yF _))⟩
 exact ⟨yr (zeX xs lo hi) hz,_,(r.drop (HT.sIx xs.length 0 lo)).take (HT.sIx xs.length xs.length hi-HT.sIx xs.length 0 lo),IsTup.new _ _⟩
def zsh (K:W.Frag):R2:=fun x y H Q=>∃ a b xs ys,x=.ref a/\y=.ref b/\SqT K H a xs/\SqT K H b ys/\xs≠[]/\xs.length+ys.length<=sizeLine /\
 (ys=[]->Q (.ref a) H)/\(ys≠[]->∀ p,H p=none->Q (.ref p) (upd H p (.tup (xs ++ ys))))
theorem zaL.nil_iff {xs:List V} {us:List Value} (r:zaL xs us):us=[]↔xs=[]:=by
 cases r with
 | nil=>simp
 | cons _ _=>simp
theorem zoJ:OpR X (binaryOp .Add) (zsh X.K):=by
 intro pins s σ H x y v u Q I rx ry h; obtain ⟨a,b,xs,ys,rfl,rfl,ha,hb,hx,hz,q1,q2⟩:=h; cases rx; cases ry; obtain ⟨its,r1,p1,_⟩:=I.tuple ha; obtain ⟨its2,r2,p2,_⟩:=I.tuple hb
 refine HT.cat_tup p1 p2 (fun z=>hx (r1.nil_iff.mp z)) (fun z=>⟨.ref a,H,I,rfl,q1 (r2.nil_iff.mp z)⟩) (fun z=>?_) (by rw [<- r1.length,<- r2.length]; exact hz)
 refine ⟨.ref s.heap.objs.size,_,I.laid (t':=s.toks) (o:=.tup (xs ++ ys)) (fun b ob q=>yC _ q) (yF _) ?_,rfl,q2 (fun w=>z (r2.nil_iff.mpr w)) _ (I.hok.fresh (yF _))⟩
 exact ⟨by rw [yP]; exact hz,_,r1.append r2,IsTup.new _ _⟩
end
def ixN (n:Nat) (i:Int):Option Nat:=if 0<=i then (if i<n then some i.toNat else none) else if -(n:Int)<=i then some (i+n).toNat else none
def atI {α:Type} (xs:List α) (i:Int):Option α:=(ixN xs.length i).bind fun j=>xs[j]?
theorem zo8 {n:Nat} {i:Int} {j:Nat} (h:ixN n i=some j):seqIndex? i n=some j/\j<n/\-(n:Int)<=i/\i<n:=by
 unfold ixN at h
 by_cases h0:0<=i
 ·rw [yR h0] at h
  by_cases h1:i<n
  ·rw [yR h1] at h
   have e:i.toNat=j:=Option.some.inj h
   exact ⟨by rw [seqIndex_of h0 h1,e],by omega,by omega,h1⟩
  ·rw [yM h1] at h; cases h
 ·rw [yM h0] at h
  by_cases h1:-(n:Int)<=i
  ·rw [yR h1] at h
   have e:(i+n).toNat=j:=Option.some.inj h
   exact ⟨by rw [seqIndex_neg (by omega) h1,e],by omega,h1,by omega⟩
  ·rw [yM h1] at h; cases h
theorem zh3 {α:Type} {xs:List α} {i:Int} {v:α} (h:atI xs i=some v):∃ j,seqIndex? i xs.length=some j/\xs[j]?=some v/\j<xs.length/\-(xs.length:Int)<=i/\i<xs.length:=by
 unfold atI at h
 cases e:ixN xs.length i with
 | none=>rw [e] at h; cases h
 | some j =>
  rw [e] at h; obtain ⟨h1,h2,h3,h4⟩:=zo8 e; exact ⟨j,h1,h,h2,h3,h4⟩
theorem zdl {α:Type} {xs:List α} {j:Nat} {v:α} (h:xs[j]?=some v):atI xs (j:Int)=some v:=by
 have hj:j<xs.length:=(yG.mp h).1
 have e:ixN xs.length (j:Int)=some j:=by
  unfold ixN
  rw [yR (by omega),yR (by omega)]; simp
 unfold atI; rw [e]; exact h
theorem znb {α:Type} (xs:List α) (v:α):atI (xs ++ [v]) (-1)=some v:=by
 have hl:(xs ++ [v]).length=xs.length+1:=by simp
 have e:ixN (xs ++ [v]).length (-1)=some xs.length:=by
  unfold ixN
  rw [hl,yM (by decide),yR (by omega)]
  congr 1
  omega
 unfold atI; rw [e]
 show (xs ++ [v])[xs.length]?=some v
 simp
def zlk (b:Expr):Prop:=∀ o i,subscripted b false o i=operate [o,i] (getItem o i)
def IxR (X:Cx) (r:R2):Prop :=
 ∀ (value slice:Expr) (pins:List (Addr × Obj)) (s:Shared) (σ:St) (H:Hp) (x y:V) (v u:Value) (Q:VK),Inv X pins σ H s->za8 x v->za8 y u->r x y H Q ->
  subscripted slice false v u=operate [v,u] (getItem v u)->wpAny (model X.prog X.w) X.A (subscriptTail value slice v u) (EP X pins σ Q) X.xe s
def MtR (X:Cx) (id:String) (r:V->List V->Hp->VK->Prop):Prop :=
 ∀ (pins:List (Addr × Obj)) (s:Shared) (σ:St) (H:Hp) (x:V) (xs:List V) (v:Value) (us:List Value) (Q:VK),Inv X pins σ H s->za8 x v->zaL xs us->r x xs H Q ->
  wpAny (model X.prog X.w) X.A (call (.builtin id) (v :: us)) (EP X pins σ Q) X.xe s
section
variable {X:Cx} {a b:Expr} {ta tb:TE} {pos:Pos}
theorem IxR.or {r r':R2} (h:IxR X r) (h':IxR X r'):IxR X (fun x y H Q=>r x y H Q\/r' x y H Q):=by
 intro value slice pins s σ H x y v u Q I rx ry q hs
 rcases q with q | q
 ·exact h value slice pins s σ H x y v u Q I rx ry q hs
 ·exact h' value slice pins s σ H x y v u Q I rx ry q hs
theorem zsl {r:R2} (hr:IxR X r) (ha:PE X a ta) (hb:PE X b tb) (hs:zlk b):PE X (.Subscript a b pos) (tOp r ta tb):=by
 intro pins s σ H Q I h
 exact Subscript_ (zs1 ha hb I h fun v u s2 x y H2 I2 rx ry q=>hr a b pins s2 σ H2 x y v u Q I2 rx ry q (hs _ _))
def ztf (K:W.Frag):R2:=fun x y H Q=>∃ p xs i v,x=.ref p/\y=.int i/\SqL K H p xs/\atI xs i=some v/\Q v H
def ztd (K:W.Frag):R2:=fun x y H Q=>∃ p xs i v,x=.ref p/\y=.int i/\SqT K H p xs/\atI xs i=some v/\Q v H
def zte:R2:=fun x y H Q=>∃ z i c,x=.str z/\y=.int i/\z.length<=sizeLine/\atI z.cps.toList i=some c/\Q (.str ⟨#[c]⟩) H
theorem zo6:IxR X (ztf X.K):=by
 intro value slice pins s σ H x y v u Q I rx ry h hs; obtain ⟨p,xs,i,z,rfl,rfl,hq,he,q⟩:=h; cases rx; obtain ⟨t,rfl⟩:=ry; obtain ⟨its,r,pl,hz⟩:=I.list hq; obtain ⟨j,h1,h2,h3,h4,h5⟩:=zh3 he; obtain ⟨w,ew,rw'⟩:=r.get h2; have hl:=r.length; have hn:=zgK
 have fin:EP X pins σ Q w s:=⟨z,H,I,rw',q⟩
 by_cases h0:0<=i
 ·have hj:i.toNat=j:=by
   rw [seqIndex_of h0 h5] at h1; exact Option.some.inj h1
  exact item_listR pl.isList h0 (by omega) (by rw [hj]; simpa using ew) fin hs
 ·have hj:(i+(its.toArray.size:Int)).toNat=j:=by
   rw [seqIndex_neg (by omega) h4] at h1
   rw [yK,<- hl]; exact Option.some.inj h1
  exact subscriptTail_builtinR (x:=w) pl.isList.typeIs slot_list_getitem.lookup
   (wpAny_getItem_list_neg (Q:=fun r s'=>r=w/\EP X pins σ Q r s') pl.isList (by omega) (by rw [yK] <;> omega) (by omega) (by rw [hj]; simpa using ew) ⟨rfl,fin⟩) hs
theorem zqV:IxR X (ztd X.K):=by
 intro value slice pins s σ H x y v u Q I rx ry h hs; obtain ⟨p,xs,i,z,rfl,rfl,hq,he,q⟩:=h; cases rx; obtain ⟨t,rfl⟩:=ry; obtain ⟨its,r,pl,hz⟩:=I.tuple hq; obtain ⟨j,h1,h2,h3,h4,h5⟩:=zh3 he; obtain ⟨w,ew,rw'⟩:=r.get h2; have hl:=r.length; have hn:=zgK
 have fin:EP X pins σ Q w s:=⟨z,H,I,rw',q⟩
 exact subscriptTail_builtinR (x:=w) pl.typeIs slot_tuple_getitem.lookup
  (getItem_tuple (j:=j) (Q:=fun r s'=>r=w/\EP X pins σ Q r s') pl (by omega) (by omega) (by rw [yK,<- hl]; exact h1) (by simpa using ew) ⟨rfl,fin⟩) hs
theorem zqW:IxR X zte:=by
 intro value slice pins s σ H x y v u Q I rx ry h hs; obtain ⟨z,i,c,rfl,rfl,hz,he,q⟩:=h; obtain ⟨t,rfl⟩:=rx; obtain ⟨t',rfl⟩:=ry; obtain ⟨j,h1,h2,h3,h4,h5⟩:=zh3 he
 have hl:z.cps.toList.length=z.length:=by simp [Str.length]
 rw [hl] at h1 h4 h5; have hn:=zgK
 exact tail_any (typeIs_str s z t) slot_str_getitem.lookup (getItem_str (c:=c) (by
  have e1:decide (i< -(2 ^ 63:Int))=false:=yS (by omega)
  have e2:decide (i >= 2 ^ 63)=false:=yS (by omega)
  rw [e1,e2,Bool.or_false]) (by rw [h1]; simpa using h2) ⟨.str ⟨#[c]⟩,H,I.tok _,⟨_,rfl⟩,q⟩) hs
def rIx (K:W.Frag):R2:=fun x y H Q=>ztf K x y H Q\/ztd K x y H Q\/zte x y H Q
theorem zqX:IxR X (rIx X.K):=zo6.or (zqV.or zqW)
theorem zgn (lo hi:Option Int) (n:Nat):(sliceBounds lo hi none n).1=((HT.sIx n 0 lo:Nat):Int)/\(sliceBounds lo hi none n).2.1=((HT.sIx n n hi:Nat):Int)/\(sliceBounds lo hi none n).2.2=1:=by
 refine ⟨?_,?_,rfl⟩
 ·cases lo with
  | none=>simp [sliceBounds,HT.sIx]
  | some i =>
   simp only [sliceBounds,HT.sIx,Option.getD_none,show (1:Int) > 0 by decide,if_true]
   by_cases h:i<0
   ·simp only [h,if_true] <;> omega
   ·simp only [h,if_false] <;> omega
 ·cases hi with
  | none=>simp [sliceBounds,HT.sIx]
  | some i =>
   simp only [sliceBounds,HT.sIx,Option.getD_none,show (1:Int) > 0 by decide,if_true]
   by_cases h:i<0
   ·simp only [h,if_true] <;> omega
   ·simp only [h,if_false] <;> omega
theorem zfF (its:List Value) (lo hi:Option Int):slicePick its.toArray lo hi none=((its.drop (HT.sIx its.length 0 lo)).take (HT.sIx its.length its.length hi-HT.sIx its.length 0 lo)).toArray:=by
 obtain ⟨h1,h2,h3⟩:=zgn lo hi its.toArray.size; unfold slicePick; rw [h1,h2,h3]
 simp only [sliceRange_one,pick_run,yK] <;> rfl
def ztI (K:W.Frag):V->Option Int->Option Int->Hp->VK->Prop:=fun x lo hi H Q=>∃ a xs,x=.ref a/\SqL K H a xs/\∀ p,H p=none->Q (.ref p) (upd H p (.lst (zk9 xs lo hi)))
theorem zn6:SlR X (ztI X.K):=by
 intro pins s σ H x v vl vu lo hi sl Q I rx hs pl pu h; obtain ⟨a,xs,rfl,hx,q⟩:=h; cases rx; obtain ⟨its,r,ht,hz⟩:=I.list hx; have hlen:=r.length; refine ⟨"list",_,slot_list_getitem.lookup,ht.isList.typeIs,?_⟩
 refine wpAny_getItem_list_slice ht.isList hs pl pu .none (by simp) ?_ (by rw [yK] <;> omega)
 rw [zfF,<- hlen]
 refine ⟨.ref s.heap.objs.size,_,I.laid (t':=s.toks) (o:=.lst (zk9 xs lo hi)) (fun b ob q=>yC _ q) (yF _) ?_,rfl,q _ (I.hok.fresh (yF _))⟩
 exact ⟨yr (zeX xs lo hi) hz,_,0,(r.drop (HT.sIx xs.length 0 lo)).take (HT.sIx xs.length xs.length hi-HT.sIx xs.length 0 lo),yI _ rfl⟩
def zeU:V->Bool
 | .non=>true
 | .bl _=>true
 | .int _=>true
 | .str _=>true
 | _=>false
def eqV:V->V->Bool
 | .non,.non=>true
 | .bl a,.bl b=>a == b
 | .bl a,.int b=>(if a then 1 else 0) == b
 | .int a,.bl b=>a == (if b then 1 else 0)
 | .int a,.int b=>a == b
 | .str a,.str b=>a == b
 | _,_=>false
theorem zkW {A:Around} {s:Shared} {y x:V} {u v:Value} (ry:za8 y u) (rx:za8 x v) (fy:zeU y=true) (fx:zeU x=true):SeqAt.EqAt A s u v (eqV y x):=by
 cases y with
 | non =>
  cases ry
  cases x with
  | non=>cases rx; exact SeqAt.EqAt.same _
  | bl b=>cases rx; exact SeqAt.EqAt.none_bool b
  | int b=>obtain ⟨t,rfl⟩:=rx; exact SeqAt.EqAt.none_int b t
  | str b=>obtain ⟨t,rfl⟩:=rx; exact SeqAt.EqAt.none_str b t
  | _=>exact yO (show false=true from fx) yL
 | bl a =>
  cases ry
  cases x with
  | non=>cases rx; exact SeqAt.EqAt.bool_none a
  | bl b=>cases rx; exact SeqAt.EqAt.bool_bool a b
  | int b=>obtain ⟨t,rfl⟩:=rx; exact SeqAt.EqAt.bool_int a b t
  | str b=>obtain ⟨t,rfl⟩:=rx; exact SeqAt.EqAt.bool_str a b t
  | _=>exact yO (show false=true from fx) yL
 | int a =>
  obtain ⟨t',rfl⟩:=ry
  cases x with
  | non=>cases rx; exact SeqAt.EqAt.int_none a t'
  | bl b=>cases rx; exact SeqAt.EqAt.int_bool a t' b
  | int b=>obtain ⟨t,rfl⟩:=rx; exact SeqAt.EqAt.int_int a t' b t
  | str b=>obtain ⟨t,rfl⟩:=rx; exact SeqAt.EqAt.int_str a t' b t
  | _=>exact yO (show false=true from fx) yL
 | str a =>
  obtain ⟨t',rfl⟩:=ry
  cases x with
  | non=>cases rx; exact SeqAt.EqAt.str_none a t'
  | bl b=>cases rx; exact SeqAt.EqAt.str_bool a t' b
  | int b=>obtain ⟨t,rfl⟩:=rx; exact SeqAt.EqAt.str_int a t' b t
  | str b=>obtain ⟨t,rfl⟩:=rx; exact SeqAt.EqAt.str_str a t' b t
  | _=>exact yO (show false=true from fx) yL
 | _=>exact yO (show false=true from fy) yL
def eqU (x:V) (u:Value):Bool:=match u with
 | .none=>eqV .non x
 | .bool b=>eqV (.bl b) x
 | .int i _=>eqV (.int i) x
 | .str z _=>eqV (.str z) x
 | _=>false
theorem znK {x y:V} {u:Value} (r:za8 y u) (f:zeU y=true):eqU x u=eqV y x:=by
 cases y with
 | non=>cases r; rfl
 | bl b=>cases r; rfl
 | int i=>obtain ⟨t,rfl⟩:=r; rfl
 | str z=>obtain ⟨t,rfl⟩:=r; rfl
 | _=>exact yO (show false=true from f) yL
theorem zeY {x:V}:∀ {xs:List V} {us:List Value},zaL xs us->xs.all zeU=true->us.any (eqU x)=xs.any fun y=>eqV y x
 | _,_,.nil,_=>rfl
 | y :: xs,u :: us,.cons r t,f=>by
  rw [List.all_cons,yg] at f; rw [List.any_cons,List.any_cons,znK r f.1,zeY t f.2]
theorem zdw {A:Around} {s:Shared} {x:V} {v:Value} (rx:za8 x v) (fx:zeU x=true):∀ {xs:List V} {us:List Value},zaL xs us->xs.all zeU=true->∀ u ∈ us,SeqAt.EqAt A s u v (eqU x u)
 | _,_,.nil,_=>fun u hu=>by cases hu
 | y :: xs,u :: us,.cons r t,f=>fun u' hu=>by
  rw [List.all_cons,yg] at f
  rcases yN.mp hu with rfl | hu
  ·rw [znK r f.1]; exact zkW r rx f.1 fx
  ·exact zdw rx fx t f.2 u' hu
def inV (x:V) (xs:List V):Bool:=xs.any fun y=>eqV y x
def rIn (K:W.Frag) (neg:Bool):R2:=fun x y H Q=>∃ p xs,y=.ref p/\(SqL K H p xs\/SqT K H p xs)/\zeU x=true/\xs.all zeU=true/\Q (.bl (if neg then !inV x xs else inV x xs)) H
theorem zkq:OpR X (compareOp .In) (rIn X.K false):=by
 intro pins s σ H x y v u Q I rx ry h; obtain ⟨p,xs,rfl,hq,fx,fs,q⟩:=h; cases ry
 rcases hq with hq | hq
 ·obtain ⟨its,r,pl,hz⟩:=I.list hq
  refine SeqAt.in_listAt (eqU x) pl.isList (fun w hw=>zdw rx fx r fs w (by simpa using hw)) ⟨.bl _,H,I,rfl,?_⟩
  rw [show its.toArray.any (eqU x)=its.any (eqU x) by simp,zeY r fs]
  exact q
 ·obtain ⟨its,r,pl,hz⟩:=I.tuple hq
  refine SeqAt.in_tupleAt (eqU x) pl (fun w hw=>zdw rx fx r fs w (by simpa using hw)) ⟨.bl _,H,I,rfl,?_⟩
  rw [show its.toArray.any (eqU x)=its.any (eqU x) by simp,zeY r fs]
  exact q
theorem zgz:OpR X (compareOp .NotIn) (rIn X.K true):=by
 intro pins s σ H x y v u Q I rx ry h; obtain ⟨p,xs,rfl,hq,fx,fs,q⟩:=h; cases ry
 rcases hq with hq | hq
 ·obtain ⟨its,r,pl,hz⟩:=I.list hq
  refine SeqAt.notIn_listAt (eqU x) pl.isList (fun w hw=>zdw rx fx r fs w (by simpa using hw)) ⟨.bl _,H,I,rfl,?_⟩
  rw [show its.toArray.any (eqU x)=its.any (eqU x) by simp,zeY r fs]
  exact q
 ·obtain ⟨its,r,pl,hz⟩:=I.tuple hq
  refine SeqAt.notIn_tupleAt (eqU x) pl (fun w hw=>zdw rx fx r fs w (by simpa using hw)) ⟨.bl _,H,I,rfl,?_⟩
  rw [show its.toArray.any (eqU x)=its.any (eqU x) by simp,zeY r fs]
  exact q
theorem zg9:zcP X (.builtin "len") (fun xs H Q=>∃ p ys,xs=[.ref p]/\(SqL X.K H p ys\/SqT X.K H p ys)/\Q (.int ys.length) H):=by
 intro pins s σ H xs us Q I r h; obtain ⟨p,ys,rfl,hq,q⟩:=h; obtain ⟨u,rfl,rx⟩:=zct r; cases rx; have hn:=zgK
 rcases hq with hq | hq
 ·obtain ⟨its,r',pl,hz⟩:=I.list hq
  have hlen:=r'.length
  exact Calls.call_len_list pl.isList (by simp only [yK] <;> omega) ⟨.int ys.length,H,I.tok _,⟨s.toks+1,by rw [yK,hlen]⟩,q⟩
 ·obtain ⟨its,r',pl,hz⟩:=I.tuple hq
  have hlen:=r'.length
  exact len_tuple pl (by simp only [yK] <;> omega) ⟨.int ys.length,H,I.tok _,⟨s.toks+1,by rw [yK,hlen]⟩,q⟩
theorem zg8:zcP X (.builtin "len") (fun xs H Q=>∃ z,xs=[.str z]/\z.length<=sizeLine/\Q (.int z.length) H):=by
 intro pins s σ H xs us Q I r h; obtain ⟨z,rfl,hz,q⟩:=h; obtain ⟨u,rfl,t,rfl⟩:=zct r; have hn:=zgK
 exact len_str (by omega) ⟨.int z.length,H,I.tok _,⟨_,rfl⟩,q⟩
theorem zcP.or {f:Value} {r r':List V->Hp->VK->Prop} (h:zcP X f r) (h':zcP X f r'):zcP X f (fun xs H Q=>r xs H Q\/r' xs H Q):=by
 intro pins s σ H xs us Q I rs q
 rcases q with q | q
 ·exact h pins s σ H xs us Q I rs q
 ·exact h' pins s σ H xs us Q I rs q
theorem zgb:zcP X (.type "tuple") (fun xs H Q=>∃ p ys,xs=[.ref p]/\((SqL X.K H p ys/\∀ l,H l=none->Q (.ref l) (upd H l (.tup ys)))\/(SqT X.K H p ys/\Q (.ref p) H))):=by
 intro pins s σ H xs us Q I r h; obtain ⟨p,ys,rfl,h⟩:=h; obtain ⟨u,rfl,rx⟩:=zct r; cases rx
 rcases h with ⟨hq,q⟩ | ⟨hq,q⟩
 ·obtain ⟨its,r',pl,hz⟩:=I.list hq
  have hlen:=r'.length
  refine call_tuple_list pl.isList (fun h' kp=>?_) (by simp only [yK] <;> omega)
  have I1:Inv X pins σ H { s with heap:=h' }:=I.kept (t':=s.toks) kp
  have I2:Inv X pins σ (upd H h'.objs.size (.tup ys)) { s with heap:=h'.push { cls:=.type "tuple",data:=.seq its.toArray } } :=
   I1.laid (t':=s.toks) (fun b o e=>yC _ e) (yF _) (show zbN X.prog X.w _ _ _ (.tup ys) from ⟨hz,its,r',IsTup.new _ _⟩)
  exact ⟨.ref h'.objs.size,_,I2,rfl,q _ (I1.hok.fresh (yF _))⟩
 ·obtain ⟨its,r',pl,hz⟩:=I.tuple hq
  exact call_tuple_same pl ⟨.ref p,H,I,rfl,q⟩
def tyV (K:W.Frag) (T:String) (x:V) (H:Hp):Prop:=match x with
 | .str _=>T="str"
 | .int _=>T="int"
 | .ref p=>(T="list"/\∃ xs,SqL K H p xs)\/(T="tuple"/\∃ o,K.lookup p=some o/\o.cls=.type "tuple"/\o.dict=none) \/
   (T="dict"/\((∃ kvs,H p=some (.dK kvs))\/∃ kvs,H p=some (.dT kvs)))\/(T="set"/\∃ S n,H p=some (.set S n))
 | _=>False
theorem zne {pins:List (Addr × Obj)} {σ:St} {H:Hp} {s:Shared} {T:String} {x:V} {v:Value} (I:Inv X pins σ H s) (r:za8 x v) (ty:tyV X.K T x H) :
  s.TypeIs v T/\∀ a,v=.ref a->∃ ob,s.heap.get? a=some ob/\ob.dict=none:=by
 cases x with
 | str z =>
  obtain ⟨t,rfl⟩:=r
  cases (show T="str" from ty)
  exact ⟨typeIs_str s z t,fun _ e=>nomatch e⟩
 | int i =>
  obtain ⟨t,rfl⟩:=r
  cases (show T="int" from ty)
  exact ⟨typeIs_int s i t,fun _ e=>nomatch e⟩
 | ref p =>
  cases r
  rcases ty with ⟨rfl,xs,hq⟩ | ⟨rfl,o,hk,hc,hd⟩ | ⟨rfl,hk⟩ | ⟨rfl,S,n,hk⟩
  ·obtain ⟨its,_,pl,_⟩:=I.list hq
   refine ⟨pl.isList.typeIs,fun a e=>?_⟩
   cases e; obtain ⟨o,n,e,c,hd,_⟩:=pl; exact ⟨o,e,hd⟩
  ·refine ⟨⟨o,I.kIn p o hk,hc⟩,fun a e=>?_⟩
   cases e; exact ⟨o,I.kIn _ o hk,hd⟩
  ·have z:∃ o,s.heap.get? p=some o/\o.ExactDict:=by
    rcases hk with ⟨kvs,hk⟩ | ⟨kvs,hk⟩
    ·obtain ⟨_,_,_,_,o,_,_,e,ex,_⟩:=I.hok p _ hk
     exact ⟨o,e,ex⟩
    ·obtain ⟨_,_,_,_,o,_,_,e,ex,_⟩:=I.hok p _ hk
     exact ⟨o,e,ex⟩
   obtain ⟨o,e,ex⟩:=z
   refine ⟨⟨o,e,ex.1⟩,fun a e2=>?_⟩
   cases e2; exact ⟨o,e,ex.2.1⟩
  ·obtain ⟨o,_,_,_,e,ex,_⟩:=I.hok p _ hk
   refine ⟨⟨o,e,ex.1⟩,fun a e2=>?_⟩
   cases e2; exact ⟨o,e,ex.2.1⟩
 | _=>exact False.elim ty
def ztC (K:W.Frag) (T:String) (r:V->List V->Hp->VK->Prop) (to:TE):TE:=fun σ H Q=>to σ H fun x H1=>tyV K T x H1/\r x [] H1 Q
def tBM (K:W.Frag) (T:String) (r:V->List V->Hp->VK->Prop) (to:TE) (t:TA):TE:=fun σ H Q=>to σ H fun x H1=>tyV K T x H1/\t σ H1 fun xs H2=>r x xs H2 Q
variable {o e:Expr} {es:List Expr} {to:TE} {t:TA} {name:Str} {apos cpos:Pos} {T id:String} {r:V->List V->Hp->VK->Prop}
theorem zqt (pa:PlainAttrs T) (slot:Slot T name id) (hty:typeOf (.builtin id)=pure (.type "method_descriptor")) (hm:MtR X id r) (ho:PE X o to)
  (hbase:attributeBase o name X.env (eval o X.env)=eval o X.env:=by rfl) (hline:(apos.endLine == cpos.line)=true:=by rfl):PE X (.Call (.Attribute o name apos) [] [] cpos) (ztC X.K T r to):=by
 intro pins s σ H Q I h
 refine wpAny_Call_method0_late hbase hline (thn (ho pins s σ H _ I h) fun v s1 ⟨x,H1,I1,r1,ty,q1⟩=>?_)
 obtain ⟨h1,h2⟩:=zne I1 r1 ty; exact ⟨T,id,pa,slot,hty,h1,h2,Calls.callWith_builtin rfl (PySem.evalArgs_none (hm pins s1 σ H1 x [] v [] Q I1 r1 .nil q1))⟩
theorem zoF (pa:PlainAttrs T) (slot:Slot T name id) (hty:typeOf (.builtin id)=pure (.type "method_descriptor")) (hm:MtR X id r) (ho:PE X o to) (ha:PA X (e :: es) t)
  (hbase:attributeBase o name X.env (eval o X.env)=eval o X.env:=by rfl)
  (hfew:((backTo cpos (starEach (e :: es) X.env)).all (fun x=>!x.1) && (backToKw cpos (keywordEach [] X.env)).all (fun x=>x.1.isSome)
   && decide ((e :: es).length+([]:List Keyword).length+(if ([]:List Keyword).isEmpty then 0 else 1)<30))=true:=by rfl)
  (hline:(apos.endLine == cpos.line)=true:=by rfl) (hs:starEach (e :: es) X.env=(false,eval e X.env) :: starEach es X.env:=by rfl) (hplain:(backTo cpos (starEach es X.env)).any (·.1)=false:=by rfl) :
  PE X (.Call (.Attribute o name apos) (e :: es) [] cpos) (tBM X.K T r to t):=by
 intro pins s σ H Q I h
 refine wpAny_Call_method_late hbase hfew hline rfl (thn (ho pins s σ H _ I h) fun v s1 ⟨x,H1,I1,r1,ty,q1⟩=>?_)
 obtain ⟨h1,h2⟩:=zne I1 r1 ty; refine ⟨T,id,pa,slot,hty,h1,h2,?_⟩; have hA:=ha cpos pins s1 σ H1 _ I1 q1; rw [hs] at hA ⊢
 refine Calls.callWith_builtin (by show (false || (backTo cpos (starEach es X.env)).any (·.1))=false; rw [hplain] <;> rfl) (Calls.evalArgs_plain ?_)
 exact thn hA fun us s2 ⟨vs,H2,I2,r2,q2⟩=>hm pins s2 σ H2 x vs v us Q I2 r1 r2 q2
end
def MtM (X:Cx) (id:String) (r:V->List V->Hp->VK->Prop):Prop :=
 ∀ (pins:List (Addr × Obj)) (s:Shared) (σ:St) (H:Hp) (x:V) (xs:List V) (v:Value) (us:List Value) (Q:VK),Inv X pins σ H s->za8 x v->zaL xs us->r x xs H Q ->
  wpAny (model X.prog X.w) X.A (call (.builtin id) (v :: us)) (EP X pins σ Q) X.xe s
theorem zaL.one:∀ {x:V} {us:List Value},zaL [x] us->∃ u,us=[u]/\za8 x u
 | _,_,.cons r .nil=>⟨_,rfl,r⟩
theorem zaL.zero:∀ {us:List Value},zaL [] us->us=[]
 | _,.nil=>rfl
theorem zaL.dropLast {xs:List V} {us:List Value} (h:zaL xs us):zaL xs.dropLast us.dropLast:=by
 induction h with
 | nil=>exact .nil
 | cons r t ih =>
  cases t with
  | nil=>exact .nil
  | cons q t'=>exact .cons r ih
theorem zaL.rep {xs:List V} {us:List Value} (h:zaL xs us):∀ k:Nat,zaL (List.replicate k xs).flatten (List.replicate k us).flatten
 | 0=>.nil
 | k+1=>by
  rw [YN,YN,Yn,Yn]; exact zaL.append h (zaL.rep h k)
theorem zju {α:Type} (l:List α):l.eraseIdx (l.length-1)=l.dropLast:=by
 induction l with
 | nil=>rfl
 | cons a r ih =>
  cases r with
  | nil=>rfl
  | cons b r =>
   have e:(a :: b :: r).length-1=((b :: r).length-1)+1:=by
    have h1:(a :: b :: r).length=r.length+2:=rfl
    have h2:(b :: r).length=r.length+1:=rfl
    omega
   rw [e,List.eraseIdx_cons_succ,ih]
   all_goals rfl
theorem foldl_rep (its:List Value):∀ (k:Nat) (acc:List Value),
  List.foldl (fun x1 x2=>x1 ++ x2) acc.toArray (List.replicate k its.toArray)=(acc ++ (List.replicate k its).flatten).toArray
 | 0,acc=>by simp
 | k+1,acc=>by
  have e:acc.toArray ++ its.toArray=(acc ++ its).toArray:=by simp
  have e2:(acc ++ its) ++ (List.replicate k its).flatten=acc ++ (List.replicate (k+1) its).flatten:=by
   rw [YN,Yn,List.append_assoc]
  rw [<- e2,<- foldl_rep its k (acc ++ its),<- e,YN,List.foldl_cons]
section
variable {X:Cx} {pins:List (Addr × Obj)} {σ:St} {H:Hp} {s:Shared} {l b:Addr} {xs ys zs:List V}
theorem Inv.lset {its its':List Value} {n:Nat} {f:Array Value->Array Value} {t':Nat} (I:Inv X pins σ H s) (hH:H l=some (.lst xs))
  (e:s.heap.get? l=some { cls:=.type "list",data:=.seq its.toArray n }) (hf:f its.toArray=its'.toArray) (hv:zaL ys its') (hz:ys.length<=sizeLine) :
  Inv X pins σ (upd H l (.lst ys)) { s with heap:=s.heap.update l (Obj.mapSeq f),toks:=t' }:=by
 have q:=PySem.IsL.update e f; rw [hf] at q
 refine I.write (x:=l) (e:=l) (by rw [hH]; exact trivial) (.inl rfl) (fun b' u hb hu=>(Heap.get?_update_other s.heap (Obj.mapSeq f) (Ne.symm hb)).trans hu) ⟨_,q⟩ ?_
 exact ⟨hz,its',_,hv,q⟩
theorem Inv.lnew {its:List Value} {t':Nat} (I:Inv X pins σ H s) (hv:zaL ys its) (hz:ys.length<=sizeLine) :
  Inv X pins σ (upd H s.heap.objs.size (.lst ys)) { s with heap:=s.heap.push { cls:=.type "list",data:=.seq its.toArray },toks:=t' } :=
 I.laid (fun _ _ q=>yC _ q) (yF _) ⟨hz,its,0,hv,yI _ rfl⟩
theorem Inv.fresh (I:Inv X pins σ H s):H s.heap.objs.size=none:=I.hok.fresh (yF _)
theorem Inv.lstM (I:Inv X pins σ H s) (hH:H l=some (.lst xs)):xs.length<=sizeLine/\∃ (its:List Value) (n:Nat),zaL xs its/\xs.length=its.length/\s.heap.get? l=some { cls:=.type "list",data:=.seq its.toArray n }:=by
 obtain ⟨z,its,n,r,e⟩:=I.hok l _ hH; exact ⟨z,its,n,r,r.length,e⟩
end
section
variable {X:Cx}
def zhs:V->List V->Hp->VK->Prop:=fun x vs H Q=>∃ l xs y,x=.ref l/\vs=[y]/\H l=some (.lst xs)/\xs.length<sizeLine/\Q .non (upd H l (.lst (xs ++ [y])))
theorem zdu:MtM X "list.append" zhs:=by
 intro pins s σ H x vs v us Q I rx rv h; obtain ⟨l,xs,y,rfl,rfl,hH,hz,q⟩:=h; cases rx; obtain ⟨u,rfl,ru⟩:=rv.one; obtain ⟨z,its,n,r,hl,e⟩:=I.lstM hH
 refine call_meets F.slot_list_append ⟨_,e,rfl⟩ F.entry_list_append (F.args_list_append_2 _ _) (PySem.list_append l its.toArray n u (by rw [yK]; omega)) ⟨e,?_⟩
 refine ⟨.non,_,I.lset (its':=its ++ [u]) hH e (by simp) (r.append (.cons ru .nil)) ?_,rfl,q⟩
 rw [yP,YW]; omega
def ztJ:V->List V->Hp->VK->Prop:=fun x vs H Q=>∃ l xs y,x=.ref l/\vs=[]/\H l=some (.lst xs)/\xs[xs.length-1]?=some y/\Q y (upd H l (.lst xs.dropLast))
theorem zqM:MtM X "list.pop" ztJ:=by
 intro pins s σ H x vs v us Q I rx rv h; obtain ⟨l,xs,y,rfl,rfl,hH,hy,q⟩:=h; cases rx; have hus:=rv.zero; subst hus; obtain ⟨z,its,n,r,hl,e⟩:=I.lstM hH; obtain ⟨u,hu,ru⟩:=r.get hy
 have hy':its.toArray[its.toArray.size-1]?=some u:=by
  show its.toArray[its.length-1]?=some u
  rw [<- Array.getElem?_toList,<- hl]; exact hu
 refine call_meets F.slot_list_pop ⟨_,e,rfl⟩ F.entry_list_pop (F.args_list_pop_1 _) (MeetsSeq.list_pop_last l its.toArray n u hy' (by rw [yK]; omega)) ⟨e,?_⟩
 refine ⟨y,_,I.lset (its':=its.dropLast) hH e ?_ r.dropLast ?_,ru,q⟩
 ·show its.toArray.eraseIdxIfInBounds (its.toArray.size-1)=its.dropLast.toArray
  rw [yK,List.eraseIdxIfInBounds_toArray,zju]
 ·rw [List.length_dropLast]
  omega
theorem len_rep {α:Type} (xs:List α) (k:Nat):(List.replicate k xs).flatten.length=k * xs.length:=by
 induction k with
 | zero=>simp
 | succ k ih=>rw [YN,Yn,yP,ih,Nat.succ_mul,Nat.add_comm]
end
section
variable {prog:Program} {w:World} {A:Around} {E:Value->Shared->Prop} {s:Shared}
set_option maxRecDepth 100000 in
end
section
variable {X:Cx}
end
end L2
namespace Att
open PySem PySem.W PySem.Calls PyProof.Rows
theorem zeR {P:Params} {h:Heap}:∀ (ns:List Int) (vs:List Value),WellAll P h vs (ns.map WData.int)->IntsAre vs ns:=by
 intro ns
 induction ns with
 | nil =>
  intro vs w; rw [List.map_nil] at w; cases w; exact .nil
 | cons n ns ih =>
  intro vs w; rw [yZ] at w
  cases w with
  | cons a b =>
   cases a; exact .cons _ _ (ih _ b)
theorem zjV {l:OpenLaw} {n:Nat} (hn:l.most=some n) {P:Params} {h:Heap} {args:List WData} {vals:List Value}
  (hpre:l.row.toRowW.claim.pre args=true) (hwl:WellAll P h vals args) :
  ∃ a vs ns,vals=[Value.ref a]/\args=[WData.list (ns.map WData.int)]/\h.get? a=some { cls:=.type "list",data:=.seq vs.toArray }/\IntsAre vs ns/\ns.length<=n:=by
 have hsh:WShape.hasAll [] args [.list .int]=true:=(pre_splitW hpre).1
 have hc:l.pre.holds [] { args:=args }=true:=(pre_splitW hpre).2
 obtain ⟨d,r,rfl,h1,h2⟩:=hasAllW_cons hsh
 obtain rfl:=hasAllW_nil h2
 obtain ⟨xs,rfl,h3⟩:=hasW_list h1; obtain ⟨ns,rfl⟩:=items_int h3
 have hlen:ns.length<=n:=by
  unfold OpenLaw.pre at hc
  have h4:(WTm.not (.lt (.lit (.int (n:Int))) (.len (.arg 0)))).holds [] { args:=[.list (ns.map .int)] }=true:=by
   have h4:=(holds_andW hc).1; rw [hn] at h4; exact h4
  have h5:=condW_of h4 (w_not (w_lt w_lit (w_len_list (w_arg rfl)))); rw [yE] at h5
  refine Nat.le_of_not_lt fun q=>?_
  have q':(n:Int)<((ns.length:Nat):Int):=by omega
  first
   | (rw [yp q'] at h5; exact yO h5 (by decide))
   | (simp at h5; omega)
 cases hwl with
 | cons w1 w2 =>
  cases w2
  cases w1 with
  | list ho hall=>exact ⟨_,_,ns,rfl,rfl,ho,zeR ns _ hall,hlen⟩
theorem zkg (l:OpenLaw) (args:List WData):l.row.toRowW.claim.post args (.bool true) args=true :=
 postW_of (r:=l.row.toRowW) (X:=(true == true))
  (show WShape.has [] (.bool true) .bool=true by first | rfl | decide | simp [WShape.has,WShape.arms,WShape.armsAll])
  (show (WTm.eq .res (.lit (.bool true))).value [] { args:=args,res:=some (.bool true),after:=args }=some (.bool (true == true)) from w_eq_bool (w_res rfl) w_lit) rfl
theorem attach_call {l:OpenLaw} {n:Nat} {q:Program} {loose:List Str} {XP:(Str->Option Value)->Heap->Prop} {YP:World->Heap->Prop} {d:DefRec}
  (hn:l.most=some n) (hdf:d.params.defaults=[])
  (call:∀ (w:World) (s₀ s₁:Shared) (mg mb:Str->Option Value) (fa:Addr) (o:Obj) (pm cd doc:Value) (a:Addr) (vs:List Value) (ns:List Int),
   Ground q loose [] XP w s₀ mg mb s₁.heap->YP w s₁.heap ->
   s₁.heap.get? fa=some o->o.data=.func (docDef d.name d.params d.body d.scope pm cd doc)->s₁.heap.CodeRec cd d.name->mg d.name=some (.ref fa) ->
   s₁.heap.get? a=some { cls:=.type "list",data:=.seq vs.toArray }->IntsAre vs ns->ns.length<=n->s₁.gens=#[] ->
   codeAny (model l.prog w) callerA (.call (.ref fa) ⟨[.ref a],[]⟩) (fun r s'=>r=.ok (.ret (.bool true))/\OldK s₁.heap s'.heap/\s'.os=s₁.os/\AllBare s'.gens) s₁) :
  WalkO q loose XP YP l.row.toRowW d [] (fun f vs=>PySem.call f vs):=by
 intro w s₀ s₁ mg mb G Y fa o pm cd doc dV kV ho hd hcd hD hmg hg args vals as hpre hlay hrd hwl hlo
 obtain rfl:dV=.none:=Dflts.none hD hdf
 obtain rfl:kV=.none:=Dflts.noKw hD
 obtain ⟨a,vs,ns,rfl,rfl,hobj,hints,hlen⟩:=zjV hn hpre hwl
 refine enter_call (codeAny_mono (call w s₀ s₁ mg mb fa o pm cd doc a vs ns G Y ho (fd_plain hd) hcd hmg hobj hints hlen hg) fun r s' hq=>?_)
 obtain ⟨rfl,h2,h3,h4⟩:=hq
 exact ⟨.inl ⟨.bool true,.bool true,[],rfl,fun _=>rfl,.bool true,zkg l _,fun _=>⟨List.Pairwise.nil,fun _ hm=>(nomatch hm)⟩⟩,h2,h3,h4⟩
section
variable {prog:Program} {w:World} {A:Around} {E:Value->Shared->Prop} {s:Shared} {K:Frag}
def zto (h:Heap) (L d:Addr):List (Addr × Obj):=(List.range h.objs.size).filterMap fun a=>if a=L\/a=d then none else (h.get? a).map fun o=>(a,o)
end
end Att
namespace L2
open PySem PySem.Spec PyProof.Rows
theorem zgf:∀ {vs:List Value} {ns:List Int},IntsAre vs ns->zaL (ns.map V.int) vs
 | _,_,.nil=>.nil
 | _,_,.cons n t h=>.cons ⟨t,rfl⟩ (zgf h)
def zrK (H:Hp):Prop:=∀ b,H b=none\/∃ o xs,H b=some (.frz o (.lst xs))
theorem zmF {P:Program} {w:World} {K:W.Frag} {mg mb:Str->Option Value} {CX:CXT} {k:Nat} {fa a:Addr} {fd:FuncData} {x:Str} {sp:Sp} {s₁:Shared} {vs:List Value} {ns:List Int}
  (KX:K.In s₁.heap) (hns:s₁.heap.Ns mainGlobals mg) (hb:s₁.heap.Ns builtinsNs mb) (hbb:∀ x:Str,x≠"__name__"->mb x=bootBuiltins x) (hlim:s₁.heap.NoLimit) (hbm:∃ bm ob,mg "__builtins__"=some (.ref bm)/\bm≠builtinsNs/\s₁.heap.get? bm=some ob/\ob.cls=.type "module"/\ob.dict=some builtinsNs/\ob.data=.plain) (hg:s₁.gens=#[])
  (ha:s₁.heap.get? a=some { cls:=.type "list",data:=.seq vs.toArray }) (hi:IntsAre vs ns) (hl:ns.length<=sizeLine) (hr:Room k callerA)
  (F:∀ base:Heap,K.In base->base.Ns mainGlobals mg->FnOk P w K mg base CX k fa fd [x] sp) (hbind:∀ (s:Shared) (u:Value),BindsTo s fd ⟨[u],[]⟩ [(x,u)])
  (hsp:∀ H:Hp,zrK H->SqL K H a (ns.map V.int)->sp [.ref a] H (fun v _=>v=.bl true) fun _ _ _=>False)
  (hCX:∀ H e s',CX [] H s₁ (fun _ _ _=>False) e s'->False) :
  codeAny (model P w) callerA (.call (.ref fa) ⟨[.ref a],[]⟩) (fun r s'=>r=.ok (.ret (.bool true))/\OldK s₁.heap s'.heap/\s'.os=s₁.os/\AllBare s'.gens) s₁:=by
 have rv:=zgf hi; have lenV:=hi.length
 -- from an abstract heap in which nothing but the script may be tracked
 have core:∀ H:Hp,zrK H->SqL K H a (ns.map V.int)->HOk P w H s₁.heap->(∀ b,H b≠none->b=a)->(H a≠none->K.lookup a=none) ->
   codeAny (model P w) callerA (.call (.ref fa) ⟨[.ref a],[]⟩) (fun r s'=>r=.ok (.ret (.bool true))/\OldK s₁.heap s'.heap/\s'.os=s₁.os/\AllBare s'.gens) s₁:=by
  intro H hO hS hok hA hK
  have base_of:∀ {b:Addr} {o:Obj},s₁.heap.get? b=some o->H b=none->(nrm s₁.heap H).get? b=some o:=fun e n=>zoQ e n
  have noA:∀ {b:Addr} {o:Obj} {es:Array DictEntry} {ep:Nat},s₁.heap.get? b=some o->o.data=.dict es ep->H b=none:=fun {b o es ep} e d=>by
   cases q:H b with
   | none=>rfl
   | some u =>
    have e':b=a:=hA b (by rw [q]; simp)
    subst e'
    rw [ha] at e; cases e
    have d':Data.seq vs.toArray _=Data.dict es ep:=d
    cases d'
  have nsK:∀ {b:Addr} {m:Str->Option Value},s₁.heap.Ns b m->(nrm s₁.heap H).Ns b m:=fun {b m} ⟨o,es,ep,e,d,r⟩=>⟨o,es,ep,base_of e (noA e d),d,r⟩
  have hKb:K.In (nrm s₁.heap H):=fun b o e=>base_of (KX b o e) (by
   cases q:H b with
   | none=>rfl
   | some u =>
    have e':b=a:=hA b (by rw [q]; simp)
    subst e'
    rw [hK (by rw [q]; simp)] at e; cases e)
  have hM:Mod K mg (nrm s₁.heap H):=⟨hKb,nsK hns,⟨mb,nsK hb,hbb⟩,(let ⟨mc,h1,h2⟩:=hlim; ⟨mc,nsK h1,h2⟩),(let ⟨bm,ob,b1,b2,b3,b4,b5,b6⟩:=hbm; ⟨bm,ob,b1,b2,base_of b3 (by
   cases q:H bm with
   | none=>rfl
   | some u =>
    have e':bm=a:=hA bm (by rw [q]; simp)
    subst e'
    rw [ha] at b3; cases b3; cases b6),b4,b5,b6⟩)⟩
  have e0:Env0 P w K mg (nrm s₁.heap H) callerA [] s₁ H:=⟨rfl,hM,fun b o e=>zqE e,Nat.le_of_eq (zmz _ _),trivial,fun b hb=>yO (show b ∈ ([]:List Addr) from hb) (by simp),hok,.of_eq hg,zmy _ _⟩
  refine codeAny_mono ((F _ hKb (nsK hns)).run callerA [] s₁ H ⟨[.ref a],[]⟩ [.ref a] [.ref a] _ _ hr e0 (hbind s₁ (.ref a)) (.cons rfl .nil) (hsp H hO hS)) fun r s' h=>?_
  cases r with
  | error e=>exact (hCX H e s' h).elim
  | ok fl =>
   cases fl with
   | next=>exact False.elim h
   | brk=>exact False.elim h
   | cont=>exact False.elim h
   | ret u =>
    obtain ⟨v,H',os,bare,un,hok',r',q⟩:=h
    have q':v=.bl true:=q
    subst q'
    obtain rfl:u=Value.bool true:=r'
    refine ⟨rfl,OldK.of_keep fun b o e=>?_,os,bare⟩
    cases q:H b with
    | none=>exact un.keep b o e q (by intro z; exact yO (show b ∈ ([]:List Addr) from z) (by simp)) (by simp)
    | some u =>
     rcases hO b with z | ⟨ob,xs,z⟩
     ·rw [q] at z; cases z
     ·have z2:=un.frzs b ob _ z
      obtain ⟨e1,_⟩:=hok b _ z; obtain ⟨e2,_⟩:=hok' b _ z2
      rw [e] at e1; cases e1
      exact e2
 cases hk:K.lookup a with
 | some o =>
  -- the script is one of the module's own objects
  have e:=KX a o hk; rw [ha] at e; cases e
  refine core (fun _=>none) (fun _=>.inl rfl) (.inr ⟨_,vs.toArray,_,hk,rfl,rfl,rfl,by rw [yK,lenV]; exact hl,by simpa using rv⟩) (fun b u z=>by have z':(none:Option HO)=some u:=z; cases z') (fun b z=>yO rfl z) fun z=>yO rfl z
 | none =>
  refine core (fun b=>if b=a then some (.frz { cls:=.type "list",data:=.seq vs.toArray } (.lst (ns.map V.int))) else none) (fun b=>?_) (.inl (.inr ⟨{ cls:=.type "list",data:=.seq vs.toArray },yR rfl⟩)) (fun b u z=>?_) (fun b z=>?_) fun _=>hk
  ·by_cases hb:b=a
   ·exact .inr ⟨_,_,yR hb⟩
   ·exact .inl (yM hb)
  ·by_cases hb:b=a
   ·have z':=(yR hb).symm.trans z
    cases z'; subst hb
    exact ⟨ha,by rw [yE]; exact hl,vs,_,rv,ha⟩
   ·have z':=(yM hb).symm.trans z
    cases z'
  ·by_cases hb:b=a
   ·exact hb
   ·exact yO (yM hb) z
theorem walk_of {l:W.OpenLaw} {n k:Nat} {q:Program} {loose:List Str} {XP:(Str->Option Value)->Heap->Prop} {YP:World->Heap->Prop} {d:DefRec} {K:Params->W.Frag} {CX:World->CXT} {sp:World->Sp} {x:Str}
  (hn:l.most=some n) (hn2:n<=sizeLine) (hdf:d.params.defaults=[]) (hr:Room k callerA)
  (hY:∀ (w:World) (h:Heap),YP w h->(K w.params).In h)
  (F:∀ (w:World) (mg:Str->Option Value) (fa:Addr) (h:Heap),(K w.params).In h->h.Ns mainGlobals mg->mg d.name=some (.ref fa) ->
   ∃ fd:FuncData,(∀ (s:Shared) (u:Value),BindsTo s fd ⟨[u],[]⟩ [(x,u)]) /\
    ∀ base:Heap,(K w.params).In base->base.Ns mainGlobals mg->FnOk l.prog w (K w.params) mg base (CX w) k fa fd [x] (sp w))
  (hsp:∀ (w:World) (H:Hp) (a:Addr) (ns:List Int),ns.length<=n->zrK H->SqL (K w.params) H a (ns.map V.int)->sp w [.ref a] H (fun v _=>v=.bl true) fun _ _ _=>False)
  (hCX:∀ (w:World) (H:Hp) (s:Shared) (e:Value) (s':Shared),CX w [] H s (fun _ _ _=>False) e s'->False) :
  W.WalkO q loose XP YP l.row.toRowW d [] (fun f vs=>PySem.call f vs):=by
 refine Att.attach_call hn hdf fun w s₀ s₁ mg mb fa o pm cd doc a vs ns G Y ho hd hcd hmg hobj hints hlen hg=>?_
 have KX:=hY w _ Y; obtain ⟨fd,hb,hF⟩:=F w mg fa _ KX G.T.g hmg
 exact zmF KX G.T.g G.T.b G.T.builtins G.T.nolimit G.T.bmain hg hobj hints (yr hlen hn2) hr hF hb (fun H hO hS=>hsp w H a ns hlen hO hS) fun H e s'=>hCX w H s₁ e s'
def zcL (s:Stmt):Arguments:=match s with
 | .FunctionDef _ a _ _ _ _ _ _ _ _=>a
 | _=>{ posonlyargs:=[],args:=[],vararg:=none,kwonlyargs:=[],kw_defaults:=[],kwarg:=none,defaults:=[] }
def zbW (s:Stmt):List Stmt:=match s with
 | .FunctionDef _ _ b _ _ _ _ _ _ _=>b
 | _=>[]
def zm (s:Stmt):Scope:=match s with
 | .FunctionDef _ _ _ _ _ _ sc _ _ _=>sc
 | _=>{ kind:=.function,names:=[],isGenerator:=false,isCoroutine:=false }
abbrev CX0:CXT:=fun _ _ _ _ _ _=>False
abbrev E0:XK:=fun _ _ _=>False
theorem zsn {X:Cx}:zll CX0 X E0:=fun _ _ _ _ _ _ _ h=>h.elim
structure Fun (K:W.Frag) (x qual:Str) (st:Stmt) (f:Addr) (fd:FuncData):Prop where
 ex:∃ (oc:Value) (od:Option Addr) (kV doc pm:Value) (an:Option Addr) (cdv ct:Value) (osl:Array (Option Value)),
  fd=W.fnOf x qual (zcL st) (zbW st) (zm st) .none kV doc pm an cdv ct/\K.lookup f=some ⟨oc,od,.func fd,osl⟩/\W.codeIn K cdv qual=true
 kp:W.keepIn K (.ref f)=true
section
variable {P:Program} {w:World} {K:W.Frag} {mg:Str->Option Value} {base:Heap}
theorem Fun.ok {x qual:Str} {st:Stmt} {f:Addr} {fd:FuncData} {N ps:List Str} {k:Nat} {sp:Sp} (F:Fun K x qual st f fd) (S:FnScope N ps (zm st)) (len:∀ vs H Q E,sp vs H Q E->vs.length=ps.length)
  (hbody:∀ (cdv:Value) (A:Around) (outer:List Env) (s:Shared) (H:Hp) (vs:List V) (Q:VK) (E:XK),Room k (A.deeper (envOfC qual (zm st) s.heap.objs.size f cdv))->sp vs H Q E ->
   ∃ t,PSs (zlw CX0 P w K mg base N qual (zm st) f cdv A outer s H E).nox (zbW st) t/\t { nx:=fun _ H'=>Q .non H',rt:=Q } (start N vs) H):FnOk P w K mg base CX0 (k+1) f fd ps sp:=by
 obtain ⟨oc,od,kV,doc,pm,an,cdv,ct,osl,rfl,lk,hcd⟩:=F.ex
 refine zsM lk hcd S len fun A outer s H vs Q E hr hsp=>?_
 obtain ⟨t,h,q⟩:=hbody cdv A outer s H vs Q E hr hsp; exact ⟨t,h.nox,q⟩
theorem Fun.binds {x qual:Str} {st:Stmt} {f:Addr} {fd:FuncData} {ps:List Str} (F:Fun K x qual st f fd)
  (h:∀ (kV doc pm:Value) (an:Option Addr) (cdv ct:Value) (us:List Value),us.length=ps.length->bindArgs (W.fnOf x qual (zcL st) (zbW st) (zm st) .none kV doc pm an cdv ct) ⟨us,[]⟩=pure (ps.zip us)):zeZ K fd ps []:=by
 obtain ⟨oc,od,kV,doc,pm,an,cdv,ct,osl,rfl,lk,hcd⟩:=F.ex; exact .all (h kV doc pm an cdv ct)
theorem znJ {x qual:Str} {st:Stmt} {f:Addr} {oc:Value} {od an:Option Addr} {osl:Array (Option Value)} {kV doc pm cdv ct:Value} (l:K.lookup f=some ⟨oc,od,.func (W.fnOf x qual (zcL st) (zbW st) (zm st) .none kV doc pm an cdv ct),osl⟩)
  (c:W.codeIn K cdv qual=true) (k:W.keepIn K (.ref f)=true):Fun K x qual st f (W.fnOf x qual (zcL st) (zbW st) (zm st) .none kV doc pm an cdv ct):=⟨⟨oc,od,kV,doc,pm,an,cdv,ct,osl,rfl,l,c⟩,k⟩
end
theorem za7 {A:Around} {k:Nat} (hr:Room k A):A.units+1<cLine:=Nat.lt_of_le_of_lt (Nat.add_le_add_left (by decide:1<=64) _) hr.units
theorem zaW {n:Nat} (h:n<=1000):n<sizeLine:=Nat.lt_of_le_of_lt h (by decide)
section
variable {X:Cx}
end
def zaG (H H':Hp):Prop:=∀ b o,H b=some o->H' b=some o
theorem zaG.refl (H:Hp):zaG H H:=fun _ _ h=>h
theorem zaG.trans {H H1 H2:Hp} (a:zaG H H1) (b:zaG H1 H2):zaG H H2:=fun c o h=>b c o (a c o h)
theorem zaG.free {H H':Hp} (e:zaG H H') {l:Addr} (h:H' l=Option.none):H l=Option.none:=by
 cases q:H l with
 | none=>rfl
 | some o =>
  rw [e l o q] at h; cases h
section
variable {κ:Type} [DecidableEq κ]
def zgg (kvs:List (κ × V)) (k:κ):Option V:=(kvs.find? fun kv=>decide (kv.1=k)).map (·.2)
def zj8 (kvs:List (κ × V)) (k:κ) (v:V):List (κ × V) :=
 if (kvs.any fun kv=>decide (kv.1=k))=true then kvs.map (fun kv=>if kv.1=k then (kv.1,v) else kv) else kvs ++ [(k,v)]
theorem zft {p:κ × V} {r:List (κ × V)} {k:κ} (e:p.1=k):zgg (p :: r) k=some p.2:=by simp [zgg,yo,e]
theorem zfu {p:κ × V} {r:List (κ × V)} {k:κ} (e:¬ p.1=k):zgg (p :: r) k=zgg r k:=by simp [zgg,yo,e]
theorem zfv (k:κ):∀ kvs:List (κ × V),(kvs.any fun kv=>decide (kv.1=k))=(zgg kvs k).isSome
 | []=>rfl
 | p :: r=>by
  rw [List.any_cons]
  by_cases e:p.1=k
  ·simp only [zft e,yp e,Bool.true_or,Option.isSome_some]
  ·rw [zfu e,yS e,Bool.false_or]; exact zfv k r
theorem zhQ (kvs:List (κ × V)) (k:κ) (v:V):(zj8 kvs k v).length<=kvs.length+1:=by
 unfold zj8; split
 ·rw [yE]; omega
 ·rw [yP,YA,List.length_nil]; omega
theorem zlj.isSome_eq {o:Option V} {u:Option Value} (r:zlj o u):o.isSome=u.isSome:=by
 cases o with
 | none=>cases u with
  | none=>rfl
  | some _=>exact (show False from r).elim
 | some _=>cases u with
  | none=>exact (show False from r).elim
  | some _=>rfl
theorem zlj.getD {o:Option V} {u:Option Value} {d:V} {d':Value} (r:zlj o u) (rd:za8 d d'):za8 (o.getD d) (u.getD d'):=by
 cases o with
 | none=>cases u with
  | none=>exact rd
  | some _=>exact (show False from r).elim
 | some _=>cases u with
  | none=>exact (show False from r).elim
  | some _=>exact r
theorem KV.length {kvs:List (κ × V)} {vs:List (κ × Value)} (r:KV kvs vs):kvs.length=vs.length:=Paired.length r
end
theorem zsG {P:Program} {w:World} {k:Key} {u:Value} (r:za8 (kV k) u):(zbj P w).is k u=true:=by
 cases k with
 | inl i=>obtain ⟨t,e⟩:=(show ∃ t,u=Value.int i t from r); subst e; exact zhO P w i t
 | inr x=>obtain ⟨t,e⟩:=(show ∃ t,u=Value.str x t from r); subst e; exact zhN P w x t
theorem zgR {P:Program} {w:World}:∀ {ks:List Key} {us:List Value},zaL (ks.map kV) us->ItemsAre (zbj P w) ks us
 | [],_,r=>by rw [List.map_nil] at r; cases r; exact .nil
 | k :: ks,_,r=>by
  rw [yZ] at r
  cases r with
  | cons h t=>exact .cons (zsG h) (zgR t)
abbrev KT (H:Hp):List (List Key × V)->List (List Key × Addr × Value)->Prop:=Paired fun p q=>p.1=q.1/\H q.2.1=some (.tup (p.1.map kV))/\za8 p.2 q.2.2
theorem KT.val {H:Hp} {kvs:List (List Key × V)} {xs:List (List Key × Addr × Value)} (r:KT H kvs xs) (k:List Key):zlj (zgg kvs k) ((atKey xs k).map (·.2)):=by
 induction r with
 | nil=>exact True.intro
 | @cons p q ps qs h t ih =>
  obtain ⟨h1,_,h2⟩:=h
  by_cases e:p.1=k
  ·have e':q.1=k:=h1.symm.trans e
   have b:atKey (q :: qs) k=some q.2:=by simp [atKey,yo,e']
   rw [zft e,b]; exact h2
  ·have e':¬ q.1=k:=fun z=>e (h1.trans z)
   have b:atKey (q :: qs) k=atKey qs k:=by simp [atKey,yo,e']
   rw [zfu e,b]; exact ih
theorem KT.repl {H:Hp} {kvs:List (List Key × V)} {xs:List (List Key × Addr × Value)} (r:KT H kvs xs) (k:List Key) {y:V} {u:Value} (ry:za8 y u) :
  KT H (kvs.map fun kv=>if kv.1=k then (kv.1,y) else kv) (xs.map (putAt k u)):=by
 induction r with
 | nil=>exact .nil
 | @cons p q ps qs h t ih =>
  rw [yZ,yZ]; refine .cons ?_ ih; obtain ⟨h1,h2,h3⟩:=h; unfold putAt
  by_cases e:p.1=k
  ·rw [yR e,yR (h1.symm.trans e)]; exact ⟨h1,h2,ry⟩
  ·rw [yM e,yM (fun z=>e (h1.trans z))]; exact ⟨h1,h2,h3⟩
theorem KT.put {H:Hp} {kvs:List (List Key × V)} {xs:List (List Key × Addr × Value)} (r:KT H kvs xs) (k:List Key) {b:Addr} {y:V} {u:Value} (hb:H b=some (.tup (k.map kV))) (ry:za8 y u) :
  KT H (zj8 kvs k y) (storedH xs k b u):=by
 have e:(kvs.any fun kv=>decide (kv.1=k))=(atKey xs k).isSome:=by
  rw [zfv,(r.val k).isSome_eq,Option.isSome_map]
 unfold zj8 storedH; rw [e]
 by_cases q:(atKey xs k).isSome=true
 ·rw [yR q,yR q]; exact r.repl k ry
 ·rw [yM q,yM q]; exact Paired.snoc r ⟨rfl,hb,ry⟩
theorem KT.keeps {H H':Hp} {kvs:List (List Key × V)} {xs:List (List Key × Addr × Value)} (r:KT H kvs xs) (ht:∀ b ys,H b=some (.tup ys)->H' b=some (.tup ys)):KT H' kvs xs :=
 Paired.mapP r fun _ _ z=>⟨z.1,ht _ _ z.2.1,z.2.2⟩
section
variable {P:Program} {w:World} {H:Hp} {h:Heap} {a:Addr}
theorem zd1 {ks:List Key} (ok:HOk P w H h) (e:H a=some (.tup (ks.map kV))):(tupleKind (zbj P w)).is h ks a:=by
 obtain ⟨_,its,r,o,h1,h2,n,h3⟩:=(show zbN P w H h a (.tup (ks.map kV)) from ok a _ e)
 exact ⟨o,its.toArray,n,h1,h2,h3,by simpa using zgR r⟩
end
section
variable {X:Cx} {pins:List (Addr × Obj)} {σ:St} {H:Hp} {s:Shared} {a:Addr} {y v:V} {u r:Value} {o:Option V} {A:Around} {E:Value->Shared->Prop}
theorem Inv.big (I:Inv X pins σ H s):sysModules<s.heap.objs.size:=by
 have h:mainGlobals<s.heap.objs.size:=(I.mod.glob.keeps I.bk).lt
 exact Nat.lt_trans (by decide) h
theorem zh1 {h':Heap} {t':Nat} {ob:HO} (I:Inv X pins σ H s) (mu:Mut (H a)) (hs:Heap.SameBut a s.heap h') (he:∃ q,h'.get? a=some q) (new:zbN X.prog X.w (upd H a ob) h' a ob) :
  Inv X pins σ (upd H a ob) { s with heap:=h',toks:=t' } :=
 I.write (x:=a) (e:=a) mu (.inl rfl) (fun b q hb z=>(hs.2 b hb).trans z) he new
end
section
variable {X:Cx} {pins:List (Addr × Obj)} {σ:St} {H:Hp} {s:Shared} {a:Addr} {kvs:List (Key × V)} {k:Key} {u:Value} {A:Around} {E:Value->Shared->Prop}
end
section
variable {X:Cx} {o i e value:Expr} {pos pos' tpos:Pos} {td ty tv:TE}
end
section
variable {X:Cx} {pos:Pos}
end
structure M2 (X:Cx) (o:Expr) (m:Str) (apos:Pos) (e f:Expr) (cpos:Pos):Prop where
 base:attributeBase o m X.env (eval o X.env)=eval o X.env
 few:((backTo cpos (starEach [e,f] X.env)).all (fun x=>!x.1) && (backToKw cpos (keywordEach [] X.env)).all (fun x=>x.1.isSome)
  && decide (([e,f]:List Expr).length+([]:List Keyword).length+(if ([]:List Keyword).isEmpty then 0 else 1)<30))=true
 line:(apos.endLine == cpos.line)=true
 trees:backTo cpos (starEach [e,f] X.env)=[(false,eval e X.env),(false,eval f X.env)]
section
variable {X:Cx} {pins:List (Addr × Obj)} {σ:St} {H:Hp} {s:Shared} {a:Addr} {y d:V} {u r:Value} {o:Option V} {A:Around} {E:Value->Shared->Prop}
end
section
variable {X:Cx} {o e f:Expr} {apos cpos:Pos} {td ty tx:TE}
end
section
variable {X:Cx} {pins:List (Addr × Obj)} {σ:St} {H:Hp} {s:Shared} {a:Addr} {kvs:List (Key × V)} {A:Around} {E:Value->Shared->Prop}
end
section
variable {X:Cx} {pins:List (Addr × Obj)} {σ:St} {H:Hp} {s:Shared} {a:Addr} {y:V} {u:Value} {A:Around} {E:Value->Shared->Prop}
end
end L2
set_option maxHeartbeats 4000000
namespace L2
open PySem PySem.Spec PyProof.Rows
def st (l:List Nat):Str:=⟨l.toArray⟩
theorem zaE (l:List Nat):(st l).cps.toList=l:=by simp [st]
theorem zbC (l:List Nat):(st l).length=l.length:=by simp [st,Str.length]
theorem zn1 (x:Str):x=st x.cps.toList:=by cases x; simp [st]
theorem st_inj {a b:List Nat} (h:st a=st b):a=b:=by
 have e:=ye (fun x:Str=>x.cps.toList) h
 simpa [st] using e
theorem zpP (a b:List Nat):st a ++ st b=st (a ++ b):=by
 show Str.append (st a) (st b)=st (a ++ b)
 unfold Str.append st; simp
theorem znI (l:List Nat) (c:Nat):(!(Builtin.Str.occurrences (st l) (st [c]) 0 (st l).length 1).isEmpty)=decide (c ∈ l):=by
 have e:=StrLaws.found_one (st l) c; rw [zaE] at e; exact e
theorem zlP (l:List Nat) (n:Nat):Txt.slice (st l) none (some (n:Int))=st (l.take n):=by
 by_cases h:n<=l.length
 ·have q:Txt.slice (st l) none (some (n:Int))=⟨(((st l).cps.toList.drop 0).take ((n:Int)-0).toNat).toArray⟩:=StrLaws.sliceText_to ⟨by omega,by rw [zaE]; omega⟩
  rw [q,zaE]; simp [st]
 ·have e:Txt.slice (st l) none (some (n:Int))=Txt.slice (st l) none (some (l.length:Int)):=by
   unfold Txt.slice
   have z:Builtin.Str.strSliceIndices none (some (n:Int)) 1 (st l).length=Builtin.Str.strSliceIndices none (some (l.length:Int)) 1 (st l).length:=by
    rw [zbC]
    have h0:¬ (n:Int)<0:=by omega
    have h1:¬ ((l.length:Int)<0):=by omega
    have h2:(1:Int) > 0:=by decide
    have h3:min (n:Int) (l.length:Int)=(l.length:Int):=by omega
    simp only [Builtin.Str.strSliceIndices,h0,h1,h2,if_false,if_true,h3,Int.min_self]
   rw [z]
  have q:Txt.slice (st l) none (some (l.length:Int))=⟨(((st l).cps.toList.drop 0).take ((l.length:Int)-0).toNat).toArray⟩:=StrLaws.sliceText_to ⟨by omega,by rw [zaE]; omega⟩
  rw [e,q,zaE,yd (by omega:l.length<=n)]
  simp [st]
theorem zi3 (l:List Nat) (n:Nat):Txt.slice (st l) (some (n:Int)) none=st (l.drop n):=by
 by_cases h:n<=l.length
 ·have q:Txt.slice (st l) (some (n:Int)) none=⟨(((st l).cps.toList.drop (n:Int).toNat).take (((st l).cps.toList.length:Int)-(n:Int)).toNat).toArray⟩:=StrLaws.sliceText_from ⟨by omega,by rw [zaE]; omega⟩
  rw [q,zaE]
  have e1:(n:Int).toNat=n:=by omega
  have e2:((l.length:Int)-(n:Int)).toNat=l.length-n:=by omega
  rw [e1,e2,yd (by rw [List.length_drop]; omega)]
  rfl
 ·rw [slice_beyond (by rw [zbC]; omega),YQ (by omega)]
  rfl
section
variable {X:Cx}
theorem zha:zcP X (.type "int") (fun xs H Q=>∃ x n,xs=[.str x]/\PySem.intText? x=some n/\x.length<=640/\Q (.int n) H):=by
 intro pins s σ H xs us Q I r h; obtain ⟨x,n,rfl,hn,hl,q⟩:=h; obtain ⟨u,rfl,t,rfl⟩:=zct r; exact W.KIN.call_text hn hl ⟨.int n,H,I.tok _,⟨_,rfl⟩,q⟩
def ztH:V->Option Int->Option Int->Hp->VK->Prop:=fun x lo hi H Q=>∃ z,x=.str z/\z.length<=sizeLine/\Q (.str (Txt.slice z lo hi)) H
theorem zpR:SlR X ztH:=by
 intro pins s σ H x v vl vu lo hi sl Q I rx hs pl pu h; obtain ⟨z,rfl,hz,q⟩:=h; obtain ⟨t,rfl⟩:=rx; refine ⟨"str",_,PySem.F.slot_str_getitem.lookup,typeIs_str _ _ _,?_⟩
 have fin:∀ t' k,EP X pins σ Q (.str (Txt.slice z lo hi) t') { s with toks:=k }:=fun t' k=>⟨.str (Txt.slice z lo hi),H,I.tok _,⟨_,rfl⟩,q⟩
 cases pl with
 | none =>
  cases pu with
  | none=>exact wpAny_getItem_str_slice (l:=none) (u:=none) (st:=none) hs rfl (post_val_or_str ⟨yr (Txt.slice_le z _ _) hz,fin⟩)
  | int j u=>exact wpAny_getItem_str_slice (l:=none) (u:=some (j,u)) (st:=none) hs rfl (post_val_or_str ⟨yr (Txt.slice_le z _ _) hz,fin⟩)
 | int i u' =>
  cases pu with
  | none=>exact wpAny_getItem_str_slice (l:=some (i,u')) (u:=none) (st:=none) hs rfl (post_val_or_str ⟨yr (Txt.slice_le z _ _) hz,fin⟩)
  | int j u=>exact wpAny_getItem_str_slice (l:=some (i,u')) (u:=some (j,u)) (st:=none) hs rfl (post_val_or_str ⟨yr (Txt.slice_le z _ _) hz,fin⟩)
theorem zkD:MtR X "str.rstrip" (fun x xs H Q=>∃ z y,x=.str z/\xs=[.str y]/\z.length<=sizeLine/\Q (.str (Txt.rstripChars z y)) H):=by
 intro pins s σ H x xs v us Q I rx rs h; obtain ⟨z,y,rfl,rfl,hz,q⟩:=h; obtain ⟨t,rfl⟩:=rx; obtain ⟨u,rfl,t',rfl⟩:=zct rs
 exact PySem.SC.rstripChars (fun t' k=>⟨.str _,H,I.tok _,⟨_,rfl⟩,q⟩) hz
end
def ltV:V->V->Bool
 | .int i,.int j=>decide (i<j)
 | .str x,.str y=>decide (x.cps.toList<y.cps.toList)
 | _,_=>false
def zsT:V->V->Bool
 | .int _,.int _=>true
 | .str _,.str _=>true
 | _,_=>false
def zjC:List V->List V->Bool
 | [],[]=>false
 | [],_ :: _=>true
 | _ :: _,[]=>false
 | x :: xs,y :: ys=>if x=y then zjC xs ys else ltV x y
def zla:List V->List V->Prop
 | x :: xs,y :: ys=>zsT x y=true/\zla xs ys
 | _,_=>True
theorem zeM (x y:V) (xs ys:List V):zjC (x :: xs) (y :: ys)=if x=y then zjC xs ys else ltV x y:=rfl
theorem zm3 {A:Around} {s:Shared} {x y:V} {u v:Value} (rx:za8 x u) (ry:za8 y v) (h:zsT x y=true):∃ e,SeqAt.EqAt A s u v e/\(e=true↔x=y):=by
 cases x with
 | int i =>
  cases y with
  | int j =>
   obtain ⟨t,rfl⟩:=rx; obtain ⟨t',rfl⟩:=ry
   exact ⟨(i == j),SeqAt.EqAt.int_int i t j t',by simp⟩
  | _=>exact yO (show false=true from h) yL
 | str a =>
  cases y with
  | str b =>
   obtain ⟨t,rfl⟩:=rx; obtain ⟨t',rfl⟩:=ry
   exact ⟨(a == b),SeqAt.EqAt.str_str a t b t',by simp⟩
  | _=>exact yO (show false=true from h) yL
 | _=>cases y <;> exact yO (show false=true from h) yL
theorem zlW {A:Around} {s:Shared} {x y:V} {u v:Value} (rx:za8 x u) (ry:za8 y v) (h:zsT x y=true) (prog:Program) (w:World) (E:Value->Shared->Prop) (Q:Value->Shared->Prop) (q:Q (.bool (ltV x y)) s) :
  wpAny (model prog w) A (richCompare .Lt u v) Q E s:=by
 cases x with
 | int i =>
  cases y with
  | int j =>
   obtain ⟨t,rfl⟩:=rx; obtain ⟨t',rfl⟩:=ry; exact (PyProof.Rows.lt_int q:wpAny (model prog w) A (compareOp .Lt (.int i t) (.int j t')) Q E s)
  | _=>exact yO (show false=true from h) yL
 | str a =>
  cases y with
  | str b =>
   obtain ⟨t,rfl⟩:=rx; obtain ⟨t',rfl⟩:=ry; exact (PyProof.Rows.lt_str q:wpAny (model prog w) A (compareOp .Lt (.str a t) (.str b t')) Q E s)
  | _=>exact yO (show false=true from h) yL
 | _=>cases y <;> exact yO (show false=true from h) yL
end L2
namespace HT
open PySem PyProof.Rows L2
section
open PySem.SeqAt
open PySem.AutoSeq1 (wpAny_loadPart')
open PySem.MeetsSeq PySem.MeetsSeq2 PySem.MeetsSeq3
theorem zfx (l b:Addr) (items items2:Array Value) (n n2:Nat) (dd dd2:Option Addr) (sl sl2:Array (Option Value)) (ns ms:List V) (hi:zaL ns items.toList) (hj:zaL ms items2.toList) (hc:zla ns ms) :
  Meets (Builtin.«tuple.__lt__» ⟨[.ref l,.ref b],[]⟩)
   (fun _ R s=>s.heap.get? l=some { cls:=.type "tuple",dict:=dd,data:=.seq items n,slots:=sl }/\s.heap.get? b=some { cls:=.type "tuple",dict:=dd2,data:=.seq items2 n2,slots:=sl2 } /\
    R (.ok (.ret (.bool (zjC ns ms)))) s) :=
 .of_wp fun prog w A R s h=>by
  obtain ⟨hp,g,d,tk,os⟩:=s; obtain ⟨hl,hb,h⟩:=h
  have f2:=AutoSeq1.sub_tuple_tuple
  have z1:items.size=ns.length:=by rw [hi.length]; simp
  have z2:items2.size=ms.length:=by rw [hj.length]; simp
  wp_walk using wpAny_loadPart' hl,wpAny_loadPart' hb,wpAny_forIn_list _ (fun zdP b s'=>b.1=none/\s'=⟨hp,g,d,tk,os⟩/\∃ (vs ws:List Value) (ns' ms':List V),zdP=vs.zip ws /\
   zaL ns' vs/\zaL ms' ws/\zla ns' ms'/\ns'.length+items2.size=ms'.length+items.size/\R (.ok (.ret (.bool (zjC ns' ms')))) ⟨hp,g,d,tk,os⟩) _
  case turn =>
   rintro ⟨y,x⟩ zdP b s' ⟨hb',rfl,vs,ws,ns',ms',hz,hvi,hwi,hcc,hlen,hR⟩
   cases hvi with
   | nil=>rw [List.zip_nil_left] at hz; cases hz
   | cons ra hvi' =>
    cases hwi with
    | nil=>rw [List.zip_nil_right] at hz; cases hz
    | cons rc hwi' =>
     rw [List.zip_cons_cons] at hz
     injection hz with hyx hrest
     injection hyx with hy hx
     subst hy hx
     rw [zeM] at hR; simp only [YA] at hlen; obtain ⟨hc1,hc2⟩:=hcc; obtain ⟨e,he,hiff⟩:=zm3 (A:=A.in1) (s:=⟨hp,g,d,tk,os⟩) ra rc hc1; refine yA (he prog w _ _ ?_)
     cases e with
     | true =>
      rw [yR (hiff.mp rfl)] at hR
      wp_walk
      exact ⟨rfl,rfl,_,_,_,_,hrest,hvi',hwi',hc2,by omega,hR⟩
     | false =>
      rw [yM (fun q=>yO (hiff.mpr q) yL)] at hR
      have hri:=fun E Q=>zlW (A:=A.in1) (s:=⟨hp,g,d,tk,os⟩) ra rc hc1 prog w E Q
      wp_walk using hri
      exact ⟨_,rfl,by simpa using hR⟩
  case fin =>
   rintro ⟨b1,b2⟩ s' ⟨hb',rfl,vs,ws,ns',ms',hz,hvi,hwi,hcc,hlen,hR⟩
   simp only at hb'
   subst hb'
   have hv:zjC ns' ms'=decide (items.size<items2.size):=by
    cases hvi with
    | nil =>
     cases hwi with
     | nil =>
      simp only [List.length_nil] at hlen
      exact (yS (by omega)).symm
     | cons rc hw =>
      simp only [List.length_nil,YA] at hlen
      exact (yp (by omega)).symm
    | cons ra hv =>
     cases hwi with
     | nil =>
      simp only [List.length_nil,YA] at hlen
      exact (yS (by omega)).symm
     | cons rc hw =>
      rw [List.zip_cons_cons] at hz; cases hz
   rw [hv] at hR
   wp_walk
   exact ⟨_,rfl,by simpa [Builtin.Tuple.tupleCompareSizes] using hR⟩
  case h =>
   exact ⟨rfl,rfl,items.toList,items2.toList,ns,ms,rfl,hi,hj,hc,by omega,h⟩
end
section
variable {prog:Program} {w:World} {A:Around} {E:Value->Shared->Prop} {s:Shared}
theorem lt_tupVals {l b:Addr} {items items2:Array Value} {ns ms:List V} {Q:Value->Shared->Prop} (hl:IsTup s.heap l items) (hb:IsTup s.heap b items2) (hi:zaL ns items.toList) (hj:zaL ms items2.toList) (hcc:zla ns ms)
  (hu:A.units<cLine) (h:Q (.bool (zjC ns ms)) s):wpAny (model prog w) A (compareOp .Lt (.ref l) (.ref b)) Q E s:=by
 obtain ⟨⟨cls,dd,data,sl⟩,ho,hc,n,hd⟩:=id hl
 obtain ⟨⟨cls2,dd2,data2,sl2⟩,ho2,hc2,n2,hd2⟩:=id hb
 simp only at hc hd hc2 hd2
 subst hc hd hc2 hd2
 exact richCompare_meets_room (op:=.Lt) ⟨_,ho,rfl⟩ ⟨_,ho2,rfl⟩ PySem.F.slot_tuple_lt PySem.F.entry_tuple_lt (PySem.F.args_tuple_lt_2 _ _) (zfx l b items items2 n n2 dd dd2 sl sl2 ns ms hi hj hcc)
  ⟨ho,ho2,show Value.bool (zjC ns ms)≠Value.notImplemented/\Q (.bool (zjC ns ms)) s from ⟨(fun x=>nomatch x),h⟩⟩ hu
end
end HT
namespace L2
open PySem PySem.Spec PyProof.Rows
section
variable {X:Cx}
def ztK (K:W.Frag):R2:=fun x y H Q=>∃ a b ns ms,x=.ref a/\y=.ref b/\SqT K H a ns/\SqT K H b ms/\zla ns ms/\Q (.bl (zjC ns ms)) H
theorem zqz (hu:X.A.units<cLine):OpR X (compareOp .Lt) (ztK X.K):=by
 intro pins s σ H x y v u Q I rx ry h; obtain ⟨a,b,ns,ms,rfl,rfl,ha,hb,hc,q⟩:=h; cases rx; cases ry; obtain ⟨its,r1,p1,_⟩:=I.tuple ha; obtain ⟨its2,r2,p2,_⟩:=I.tuple hb
 exact HT.lt_tupVals p1 p2 (by simpa using r1) (by simpa using r2) hc hu ⟨.bl (zjC ns ms),H,I,rfl,q⟩
end
def Its (l:List Nat):It:=⟨fun i _=>i<l.length,fun i H x H'=>H'=H/\∃ c,l[i]?=some c/\x=.str (st [c]),fun i _=>i=l.length⟩
theorem zh4 {P:Program} {w:World} {A:Around} {cls:String} (hA:A.handled=none) (it:Addr) (x:Str) (t:Tok) (hcls:cls="str_ascii_iterator"\/cls="str_iterator"):Walks P w A it [it] [it] x.cps.size (SignAt x) (fun i h=>h.IsStrIter it cls x t i):=by
 rcases hcls with rfl | rfl
 ·exact Walks.strAscii hA it x t
 ·exact Walks.strWide hA it x t
theorem zh7 {P:Program} {w:World} {K:W.Frag} {tg:Expr} {cls:String} (x:Str) (t:Tok) (it:Addr) (hcls:cls="str_ascii_iterator"\/cls="str_iterator"):Turn P w K tg (Its x.cps.toList) [it] it (fun i h=>h.IsStrIter it cls x t i) where
 mem:=by simp
 obj:=fun i h stt b hb=>by
  have e:b=it:=by simpa using hb
  subst e; obtain ⟨o,e,c,d⟩:=stt
  exact ⟨o,e,fun v z=>by rw [d] at z; cases z⟩
 keep:=fun i h h' stt k=>by
  obtain ⟨o,e,r⟩:=stt
  exact ⟨o,k it (by simp) o e,r⟩
 item:=by
  intro X hP hw hK hc i pins s σ H E I hf stt hg
  subst hP hw hK
  obtain ⟨f0,f1,f2,f3,f4,f5⟩:=hf it (by simp)
  have hg':i<x.cps.toList.length:=hg
  refine (zh4 (I.ok.hd hc) it x t hcls).item i s _ _ (by simpa using hg') stt fun v h' tk hv st' kk=>?_
  obtain ⟨c,u,hc',rfl⟩:=hv
  have I1:Inv X pins σ H { s with heap:=h',toks:=tk }:=I.turned (fun b o hb e=>kk b o (by simpa using hb) e) f0 f1 f3 f4 f5
  obtain ⟨o,e,hcl,d⟩:=id st'
  exact ⟨_,rfl,zhX (s:={ s with heap:=h',toks:=tk }) e hcl d (by rcases hcls with rfl | rfl <;> decide) ⟨.str (st [c]),H,I1,⟨u,rfl⟩,⟨rfl,c,by simpa using hc',rfl⟩,st',fun b hb=>(hf b hb).1⟩⟩
 done:=by
  intro X hP hw hK hc i pins s σ H E I hf stt hg
  subst hP hw hK
  obtain ⟨f0,f1,f2,f3,f4,f5⟩:=hf it (by simp)
  have hg':i=x.cps.toList.length:=hg
  subst hg'
  refine (zh4 (I.ok.hd hc) it x t hcls).done s _ _ (by simpa using stt) fun h' tk kk=>?_
  exact ⟨rfl,I.turned (fun b o hb e=>kk b o (by simpa using hb) e) f0 f1 f3 f4 f5⟩
 self:=fun A i s Q E stt h=>by
  rcases hcls with rfl | rfl
  ·exact wpAny_pyIter_striter_ascii stt h
  ·exact wpAny_pyIter_striter_wide stt h
section
variable {X:Cx} {tg:Expr}
end
def zc8 (cells:List (Str × Addr)):List (Str × NameKind)->List (Str × Addr)->List (Str × Addr)
 | [],acc=>acc
 | (n,k) :: r,acc=>if k == .free then zc8 cells r ((n,(cells.lookup n).getD 0) :: acc) else zc8 cells r acc
theorem zfr {env:Env}:∀ (l:List (Str × NameKind)) (acc:List (Str × Addr)),(∀ y ∈ l,y.2=.free->∃ c,env.cells.lookup y.1=some c) ->
  (forIn (m:=Sem) l acc fun x r=>if (x.2 == NameKind.free)=true then do let a <- cellOf env x.1; pure (ForInStep.yield ((x.1,a) :: r)) else pure (ForInStep.yield r))=pure (zc8 env.cells l acc)
 | [],acc,_=>rfl
 | (n,k) :: r,acc,h=>by
  rw [List.forIn_cons]
  have ih:=fun acc'=>zfr r acc' fun y hy=>h y (yH _ hy)
  by_cases hk:k=.free
  ·subst hk
   obtain ⟨c,hc⟩:=h (n,.free) (yT ..) rfl
   have e:cellOf env n=pure c:=by
    unfold cellOf
    rw [show env.cells.lookup n=some c from hc]
   show ((if ((NameKind.free:NameKind) == NameKind.free)=true then _ else _) >>= _)=_
   rw [yR (by decide),e]
   unfold zc8
   rw [yR (by decide),show env.cells.lookup n=some c from hc]
   exact ih _
  ·have hb:(k == NameKind.free)=false:=by simpa using hk
   show ((if (k == NameKind.free)=true then _ else _) >>= _)=_
   rw [yM (by rw [hb]; decide)]
   unfold zc8
   rw [yM (by rw [hb]; decide)]
   exact ih _
theorem zfq {scope:Scope} {env:Env} (h:∀ y ∈ scope.names,y.2=.free->∃ c,env.cells.lookup y.1=some c):closureFor scope env=pure (zc8 env.cells scope.names []):=by
 unfold closureFor; have e:=zfr scope.names [] h
 refine Eq.trans ?_ (ye (fun z=>z >>= fun cs=>(pure cs:Sem (List (Str × Addr)))) e)
 rfl
theorem zdC {cells:List (Str × Addr)} {x:Str} {c:Addr}:∀ (l:List (Str × NameKind)) (acc:List (Str × Addr)),(∀ y ∈ l,y.2=.free->∃ c,cells.lookup y.1=some c)->(∀ x c,acc.lookup x=some c->cells.lookup x=some c)->(zc8 cells l acc).lookup x=some c->cells.lookup x=some c
 | [],acc,_,ha,h=>ha x c h
 | (n,k) :: r,acc,hl,ha,h=>by
  unfold zc8 at h; split at h
  ·rename_i hk
   obtain ⟨c',hc'⟩:=hl (n,k) (yT ..) (by simpa using hk)
   refine zdC r _ (fun y hy=>hl y (yH _ hy)) (fun z d hz=>?_) h
   rw [show cells.lookup n=some c' from hc'] at hz
   rw [YD] at hz
   cases hzn:z == n with
   | true =>
    rw [hzn] at hz
    have e1:z=n:=by simpa using hzn
    rw [e1,show cells.lookup n=some c' from hc']
    simpa using hz
   | false =>
    rw [hzn] at hz; exact ha z d hz
  ·exact zdC r acc (fun y hy=>hl y (yH _ hy)) ha h
theorem zga {cells:List (Str × Addr)} {x:Str}:∀ (l:List (Str × NameKind)) (acc:List (Str × Addr)),(∃ c,acc.lookup x=some c)->∃ c,(zc8 cells l acc).lookup x=some c
 | [],_,h=>h
 | (n,k) :: r,acc,h=>by
  unfold zc8; split
  ·refine zga r _ ?_
   rw [YD]; split
   ·exact ⟨_,rfl⟩
   ·exact h
  ·exact zga r acc h
theorem zf9 {cells:List (Str × Addr)} {x:Str}:∀ (l:List (Str × NameKind)) (acc:List (Str × Addr)),(x,NameKind.free) ∈ l->∃ c,(zc8 cells l acc).lookup x=some c
 | [],_,h=>yO h yz
 | (n,k) :: r,acc,h=>by
  unfold zc8
  rcases yN.mp h with e | e
  ·cases e
   rw [yR (by decide)]
   refine zga r _ ?_; rw [YD,beq_self_eq_true]; exact ⟨_,rfl⟩
  ·split
   ·exact zf9 r _ e
   ·exact zf9 r _ e
theorem zdU {x:Str} {k:NameKind}:∀ {l:List (Str × NameKind)},l.lookup x=some k->(x,k) ∈ l
 | [],h=>by simp at h
 | (n,j) :: r,h=>by
  rw [YD] at h
  cases e:x == n with
  | true =>
   rw [e] at h
   have e1:x=n:=by simpa using e
   have e2:j=k:=by simpa using h
   rw [e1,e2]; exact yT ..
  | false =>
   rw [e] at h; exact yH _ (zdU h)
theorem zfd {env:Env} (hk:env.scope.kind=.function) {x:Str} (hx:env.kindOf x=some .cell):∀ {l:List (Str × NameKind)},l.lookup x=some .free ->
  (l.map fun (n,k)=>if (k == NameKind.free && env.scope.kind == .function && env.kindOf n == some .cell) then (n,NameKind.cell) else (n,k)).lookup x=some .cell
 | [],h=>by simp at h
 | (n,k) :: r,h=>by
  rw [YD] at h; rw [yZ]
  show List.lookup x ((if (k == NameKind.free && env.scope.kind == .function && env.kindOf n == some .cell)=true then (n,NameKind.cell) else (n,k)) :: _)=_
  cases e:x == n with
  | true =>
   rw [e] at h
   have e1:x=n:=by simpa using e
   have e2:k=.free:=by simpa using h
   subst e1 e2
   have z:((NameKind.free == NameKind.free && env.scope.kind == .function && env.kindOf x == some .cell):Bool)=true:=by rw [hk,hx]; decide
   rw [yR z,YD,beq_self_eq_true]
  | false =>
   rw [e] at h; have ih:=zfd hk hx (l:=r) h
   by_cases z:(k == NameKind.free && env.scope.kind == .function && env.kindOf n == some .cell)=true
   ·rw [yR z,YD,e]
    exact ih
   ·rw [yM z,YD,e]
    exact ih
theorem zfe {env:Env} {x:Str}:∀ {l:List (Str × NameKind)},(∀ y ∈ l,y.2≠.cell)->((l.map fun (n,k)=>if (k == NameKind.free && env.scope.kind == .function && env.kindOf n == some .cell) then (n,NameKind.cell) else (n,k)).lookup x=some .cell \/
  (l.map fun (n,k)=>if (k == NameKind.free && env.scope.kind == .function && env.kindOf n == some .cell) then (n,NameKind.cell) else (n,k)).lookup x=some .free)->(x,NameKind.free) ∈ l
 | [],_,h=>by simp at h
 | (n,k) :: r,hc,h=>by
  have again:∀ (z:(r.map fun (n,k)=>if (k == NameKind.free && env.scope.kind == .function && env.kindOf n == some .cell) then (n,NameKind.cell) else (n,k)).lookup x=some .cell\/(r.map fun (n,k)=>if (k == NameKind.free && env.scope.kind == .function && env.kindOf n == some .cell) then (n,NameKind.cell) else (n,k)).lookup x=some .free),(x,NameKind.free) ∈ (n,k) :: r :=
   fun z=>yH _ (zfe (fun y hy=>hc y (yH _ hy)) z)
  rw [yZ] at h
  change List.lookup x ((if (k == NameKind.free && env.scope.kind == .function && env.kindOf n == some .cell)=true then (n,NameKind.cell) else (n,k)) :: _)=some NameKind.cell\/List.lookup x ((if (k == NameKind.free && env.scope.kind == .function && env.kindOf n == some .cell)=true then (n,NameKind.cell) else (n,k)) :: _)=some NameKind.free at h
  by_cases z:(k == NameKind.free && env.scope.kind == .function && env.kindOf n == some .cell)=true
  ·have hk:k=.free:=by
    simp only [yg,beq_iff_eq] at z; exact z.1.1
   rw [yR z,YD] at h
   cases e:x == n with
   | true =>
    have e1:x=n:=by simpa using e
    rw [e1,hk]; exact yT ..
   | false =>
    rw [e] at h; exact again h
  ·rw [yM z,YD] at h
   cases e:x == n with
   | true =>
    rw [e] at h
    have e1:x=n:=by simpa using e
    rcases h with h | h
    ·exact yO (by simpa using h) (hc (n,k) (yT ..))
    ·have e2:k=.free:=by simpa using h
     rw [e1,e2]; exact yT ..
   | false =>
    rw [e] at h; exact again h
structure Blk (N N':List Str) (src:List (Option Nat)) (fsc sc:Scope):Prop where
 kind:sc.kind=.function
 cell:∀ y ∈ sc.names,y.2≠.cell
 names:∀ y ∈ sc.names,y.2=.local->sc.names.lookup y.1=some .local
 free:∀ y ∈ sc.names,y.2=.free->fsc.names.lookup y.1=some .cell
 len:src.length=N'.length
 sees:((N'.zip src).all fun y=>match y.2 with | none=>true | some i=>decide (N[i]?=some y.1) && decide (sc.names.lookup y.1=some .free))=true
def zlQ (src:List (Option Nat)) (σ:St):St:=src.map fun o=>o.bind fun i=>(σ[i]?).join
abbrev blk (X:Cx) (N':List Str) (sc:Scope) (cl:List (Str × Addr)) (C:Addr) (s:Shared) (H:Hp) (fp:List Addr) (pn:List (Addr × Obj)):Cx :=
 { X with N:=N',s₀:=s,H₀:=H,env:=compEnvC sc cl C X.env,outer:=X.stack,ex:=fp,fn:=fun _=>false,pn:=pn }
theorem znP {X:Cx} {N N':List Str} {src:List (Option Nat)} {fsc sc:Scope} {pins:List (Addr × Obj)} {σ:St} {H:Hp} {s:Shared} {fp:List Addr} {h':Heap} {tk:Nat} {m:Str->Option Value} (I:Inv X pins σ H s) (B:Blk N N' src fsc sc) (hN:X.N=N) (hs:X.env.scope=fsc)
  (f2:∀ b ∈ fp,zge X pins H b) (fb:∀ b ∈ fp,b<s.heap.objs.size) (hn:h'.Ns s.heap.objs.size m) (kp:∀ b o,s.heap.get? b=some o->h'.get? b=some o) :
  Inv (blk X N' sc (zc8 X.env.cells sc.names []) s.heap.objs.size s H fp (X.pn ++ pins)) [] (zlQ src σ) H { s with heap:=h',toks:=tk }:=by
 subst hN hs
 have hfr:∀ y ∈ sc.names,y.2=.free->∃ c,X.env.cells.lookup y.1=some c:=fun y hy e=>I.ok.has y.1 (.inl (B.free y hy e))
 have sub:∀ x c,(zc8 X.env.cells sc.names []).lookup x=some c->X.env.cells.lookup x=some c:=fun x c e=>zdC sc.names [] hfr (fun _ _ z=>by simp at z) e
 have has:∀ x,(x,NameKind.free) ∈ sc.names->∃ c,(zc8 X.env.cells sc.names []).lookup x=some c:=fun x hx=>zf9 sc.names [] hx
 have ok:Cx.Ok (blk X N' sc (zc8 X.env.cells sc.names []) s.heap.objs.size s H fp (X.pn ++ pins)):=by
  refine ⟨I.ok.mod,B.kind,I.ok.glob,I.ok.blt,yF _,fun x y c e1 e2=>I.ok.inj x y c (sub x c e1) (sub y c e2),fun x hx=>has x (zfe B.cell hx),fun x c e=>(nomatch e),I.ok.hd,I.ok.frames,.inl rfl,fun b hb=>⟨ya (fb b hb),fun x c e=>(f2 b hb).2.2.2.2.1 x c (sub x c e)⟩,
   I.bs,yr I.ok.bsz I.sz,fun b o e hb=>?_,fun b hb z=>?_,I.stack,I.stkFree,I.ok.tab.un I.base.tbls⟩
  ·rcases (f2 b hb).2.2.2.1 with z | z
   ·exact I.ok.noex b o e z
   ·exact yO (yX (yQ e) (yr I.ok.bsz z)) (Nat.lt_irrefl _)
  ·rcases yN.mp (I.stkSub b z) with e | e
   ·exact (f2 b hb).2.1 e
   ·exact (f2 b hb).2.2.1 e
 refine ⟨ok,rfl,I.bare,Un.kept kp,⟨m,hn,fun j x v e1 e2 e3=>?_⟩,fun x c e=>?_,I.hok.fresh (yF _),fun x c e=>I.freeC x c (sub x c e),fun p hp=>?_,I.hok.kept kp,?_⟩
 ·have e2':(src[j]?).map (fun o=>o.bind fun i=>(σ[i]?).join)=some (some v):=by
   have z:=e2; unfold zlQ at z; rw [yJ] at z; exact z
  cases hj:src[j]? with
  | none=>rw [hj] at e2'; cases e2'
  | some o =>
   rw [hj] at e2'
   cases o with
   | none=>cases e2'
   | some i =>
    have hσ:σ[i]?=some (some v):=by
     have z:(σ[i]?).join=some v:=by simpa using e2'
     cases hz:σ[i]? with
     | none=>rw [hz] at z; cases z
     | some w=>rw [hz] at z; exact ye some z
    have hz:(x,some i) ∈ N'.zip src:=by
     have q:(N'.zip src)[j]?=some (x,some i):=by
      rw [List.getElem?_zip_eq_some]; exact ⟨e1,hj⟩
     exact yV q
    have q:=yW.mp B.sees _ hz; simp only [yg,ym] at q; obtain ⟨q1,q2⟩:=q
    have hkc:X.env.kindOf x=some .cell:=B.free _ (zdU q2) rfl
    obtain ⟨m0,_,hl⟩:=I.loc; obtain ⟨u,ru,lk⟩:=hl i x v q1 hσ (.inr (.inl hkc)); refine ⟨u,ru,.inr ⟨.inl (zfd I.ok.kind hkc q2),?_⟩⟩
    rcases lk with ⟨k,_⟩ | ⟨_,c,e,z⟩
    ·rw [hkc] at k; cases k
    ·obtain ⟨c',hc'⟩:=has x (zdU q2)
     have e':=sub x c' hc'; rw [e] at e'; cases e'; obtain ⟨o,ho,hd⟩:=z; exact ⟨c,hc',o,kp _ _ ho,hd⟩
 ·obtain ⟨v,o,ho,hd⟩:=I.cell x c (sub x c e)
  exact ⟨v,o,kp _ _ ho,hd⟩
 ·rw [YJ] at hp
  obtain ⟨e,n,ne,nf,d⟩:=I.pin p hp
  refine ⟨kp _ _ e,n,ya (yQ e),fun z=>?_,d⟩
  rcases yN.mp (I.stkSub p.1 z) with q | q
  ·exact ne q
  ·exact nf q
 ·show (zlQ src σ).length=N'.length
  unfold zlQ; rw [yE,B.len]
theorem Un.same {fs ex:List Addr} {H H1:Hp} {h h1 h2:Heap} {a:Addr} (u:Un fs ex H H1 h h1) (hs:Heap.SameBut a h1 h2) (ha:h.objs.size<=a):Un fs ex H H1 h h2:=by
 have ne:∀ b o,h.get? b=some o->b≠a:=fun b o e=>ya (yX (yQ e) ha)
 refine ⟨fun b o e n h1 h2=>?_,fun b o e n h1 h2=>?_,u.free,fun b o e h1=>?_,u.tups,u.frzs,u.tbls⟩
 ·exact (hs.2 b (ne b o e)).trans (u.keep b o e n h1 h2)
 ·obtain ⟨sl,q⟩:=u.slot b o e n h1 h2
  exact ⟨sl,(hs.2 b (ne b o e)).trans q⟩
 ·obtain ⟨o',q⟩:=u.there b o e h1
  exact ⟨o',(hs.2 b (ne b o e)).trans q⟩
theorem HOk.same {P:Program} {w:World} {H:Hp} {h h':Heap} {a:Addr} (x:HOk P w H h) (hs:Heap.SameBut a h h') (ha:H a=none):HOk P w H h':=fun b o e=>by
 refine (x b o e).stay (fun c u hc q=>(hs.2 c ?_).trans q) (fun _ q=>q) fun _ _ q=>q
 rintro rfl
 rcases hc with rfl | hc
 ·rw [ha] at e; cases e
 ·rw [ha] at hc; cases hc
def PTs (X:Cx) (ifs:List Expr) (t:TT):Prop :=
 ∀ (pins:List (Addr × Obj)) (s:Shared) (σ:St) (H:Hp) (Q:Bool->Hp->Prop),Inv X pins σ H s->t σ H Q ->
  wpAny (model X.prog X.w) X.A (forIn ifs true fun c r=>if r=true then do let ok <- isTrue c X.env (eval c X.env); pure (ForInStep.yield ok) else pure (ForInStep.yield r)) (TP X pins σ Q) X.xe s
theorem zoh {X:Cx}:PTs X [] (fun _ H Q=>Q true H):=fun _ _ _ H _ I h=>yD ⟨H,I,h⟩
theorem zog {X:Cx} {c:Expr} {t:TT} (h:PT X c t):PTs X [c] t:=fun pins s σ H Q I q=>wpAny_tests_one (h pins s σ H Q I q)
theorem zg4 {P:Program} {w:World} {A:Around} {R:Result->Shared->Prop} {s:Shared} {elt tg iter:Expr} {ifs:List Expr} {sc:Scope} {pos:Pos} {it acc:Value} {env:Env} (J:Nat->Shared->Prop)
  (turn:∀ k s',J k s'->wpAny (model P w) A (pyNext it) (fun r s1=>match r with
   | none=>R (.ok .next) s1
   | some v=>wpAny (model P w) A (letOwnedTupleGo tg it v) (fun _ s2=>wpAny (model P w) A (assign tg env v) (fun _ s3 =>
     wpAny (model P w) A (forIn ifs true fun c r=>if r=true then do let ok <- isTrue c env (eval c env); pure (ForInStep.yield ok) else pure (ForInStep.yield r)) (fun b s4 =>
      if b=true then wpAny (model P w) A (eval elt env) (fun y s5=>wpAny (model P w) A (call (.builtin "list.append") [acc,y]) (fun _ s6=>∃ m,m<k/\J m s6) (fun _ _=>False) s5) (fun _ _=>False) s4
      else ∃ m,m<k/\J m s4) (fun _ _=>False) s3) (fun _ _=>False) s2) (fun _ _=>False) s1) (fun _ _=>False) s')
  (k:Nat) (h:J k s):codeAny (model P w) A (.compLoop (.ListComp elt [⟨tg,iter,ifs,0⟩] sc pos) 0 it acc env) R s:=by
 have no:∀ {α:Type} {t:Sem α} {Q Q':α->Shared->Prop} {E:Value->Shared->Prop} {z:Shared},wpAny (model P w) A t Q (fun _ _=>False) z->(∀ a z',Q a z'->Q' a z')->wpAny (model P w) A t Q' E z:=fun g1 g2=>Ya g1 g2 fun _ _ f=>f.elim
 refine codeAny_loop rfl J (fun k s' hJ=>?_) k h
 show wpAny _ A ((compTurn (.ListComp elt [⟨tg,iter,ifs,0⟩] sc pos) 0 it acc env).onRaise (fun x=>do noteFrame x env; theTreesLotGoes x)) _ _ s'
 refine wpAny_noted ?_; rw [compTurn_list]
 refine yA (wpAny_standAt (yA (no (turn k s' hJ) fun r s1 h1=>?_)))
 cases r with
 | none=>exact yD h1
 | some v =>
  refine yA (no h1 fun _ s2 h2=>yA (no h2 fun _ s3 h3=>yA (no h3 fun b s4 h4=>?_)))
  cases b with
  | false=>exact yD ⟨rfl,h4⟩
  | true=>exact yA (yA (no h4 fun y s5 h5=>yA (no h5 fun _ s6 h6=>yD (yD ⟨rfl,h6⟩))))
def zpN (wi:TI) (src:List (Option Nat)) (g:TG) (tc:TT) (te:TE):TE:=fun σ H Q=>wi σ H fun J H1=>∀ D,H1 D=none->∃ W:Nat->Nat->St->Hp->Prop,(∃ m,W 0 m (zlQ src σ) (upd H1 D (.lst [])))/\∀ i m σ2 H2,W i m σ2 H2 ->
 (J.stop i H2/\Q (.ref D) H2)\/(J.go i H2/\∃ M:St->Hp->Prop,(∀ σ' H',M σ' H'->∃ m',m'<m/\W (i+1) m' σ' H')/\∀ x H',J.yld i H2 x H'->g x σ2 H' fun σ3 H3=>tc σ3 H3 fun b H4 =>
  if b=true then te σ3 H4 fun y H5=>∃ ys,H5 D=some (.lst ys)/\ys.length<sizeLine/\M σ3 (upd H5 D (.lst (ys ++ [y]))) else M σ3 H4)
theorem zoC {X:Cx} {elt tg iter:Expr} {ifs:List Expr} {sc fsc:Scope} {pos:Pos} {wi:TI} {g:TG} {tc:TT} {te:TE} {N N':List Str} {src:List (Option Nat)} (B:Blk N N' src fsc sc) (hi:PI X tg iter wi)
  (hg:∀ cl C s H fp pn,PG (blk X N' sc cl C s H fp pn) tg g) (ht:∀ cl C s H fp pn,PTs (blk X N' sc cl C s H fp pn) ifs tc) (he:∀ cl C s H fp pn,PE (blk X N' sc cl C s H fp pn) elt te)
  (hx:X.xe=(fun _ _=>False):=by rfl) (hc:X.calm=true:=by rfl) (hN:X.N=N:=by rfl) (hs:X.env.scope=fsc:=by rfl)
  (hf:∀ x,foldedSetIterable iter X.env x=pure x:=by intro _; rfl):PE X (.ListComp elt [⟨tg,iter,ifs,0⟩] sc pos) (zpN wi src g tc te):=by
 intro pins s σ H Q I h; rw [eval_ListComp]
 have hfr:∀ y ∈ sc.names,y.2=.free->∃ c,X.env.cells.lookup y.1=some c:=fun y hy e=>I.ok.has y.1 (.inl (by have:=B.free y hy e; rw [<- hs] at this; exact this))
 refine wpAny_comprehension_free (use:=none) (cl:=zc8 X.env.cells sc.names []) rfl hf (zfq hfr) B.kind B.names ?_
 refine thn (hi pins s σ H _ I h) fun v s1 h1=>thn h1 fun itv s2 h2=>?_
 obtain ⟨it,fp,tn,J,H2,e,I2,T,st2,f2,q⟩:=h2; subst e
 obtain ⟨W,⟨m0,w0⟩,turn⟩:=q s2.heap.objs.size (I2.hok.fresh (yF _))
 refine yc (wpAny_newFunctionEnv B.cell (by intro y hy; simp at hy) (fun h1 hns hsb=>?_) B.kind)
 dsimp only at hns hsb ⊢
 have I3:Inv X pins σ (upd H2 s2.heap.objs.size (.lst [])) { s2 with heap:=s2.heap.push { cls:=.type "list",dict:=none,data:=.seq ([]:List Value).toArray } } :=
  I2.laid (t':=s2.toks) (fun b o e=>yC _ e) (yF _) ⟨yf _,[],0,.nil,yI _ rfl⟩
 have fb:∀ b ∈ fp,b<s2.heap.objs.size:=fun b hb=>by
  obtain ⟨o,e,_⟩:=T.obj 0 _ st2 b hb; exact yQ e
 have f3:∀ b ∈ fp,zge X pins (upd H2 s2.heap.objs.size (.lst [])) b:=fun b hb=>by
  refine ⟨?_,(f2 b hb).2⟩; rw [zN (ya (fb b hb))]; exact (f2 b hb).1
 generalize hh3:s2.heap.push { cls:=.type "list",dict:=none,data:=.seq ([]:List Value).toArray }=h3 at hns hsb I3 ⊢
 have z3:s2.heap.objs.size<h3.objs.size:=by rw [<- hh3,Heap.size_push]; exact Nat.lt_succ_self _
 have k3:∀ b o,h3.get? b=some o->h1.get? b=some o:=fun b o e=>hsb.extBut b o (ya (yQ e)) (yC _ e)
 have I4:=znP (tk:=s2.toks+([]:List (Str × Value)).length) I3 B hN hs f3 (fun b hb=>Nat.lt_trans (fb b hb) z3) hns k3
 have st4:tn 0 h1:=T.keep 0 _ _ st2 fun b hb o e=>k3 b o (by rw [<- hh3]; exact yC _ e)
 have fok:∀ {H':Hp},(∀ b ∈ fp,H' b=none)->∀ b ∈ fp,zge (blk X N' sc (zc8 X.env.cells sc.names []) h3.objs.size { s2 with heap:=h3 } (upd H2 s2.heap.objs.size (.lst [])) fp (X.pn ++ pins)) [] H' b:=fun hn b hb=>by
  obtain ⟨_,g1,g2,g3,g4,g5⟩:=f3 b hb
  refine ⟨hn b hb,ya (Nat.lt_trans (fb b hb) z3),fun z=>?_,.inl hb,fun x c e=>g4 x c (zdC sc.names [] hfr (fun _ _ z=>by simp at z) e),fun p hp=>g5 p (by rw [YJ] at hp; exact hp)⟩
  rcases yN.mp (I3.stkSub b z) with e | e
  ·exact g1 e
  ·exact g2 e
 have loop:∀ s4:Shared,s4={ s2 with heap:=h1,toks:=s2.toks+([]:List (Str × Value)).length } ->
   codeAny (model X.prog X.w) X.A (.compLoop (.ListComp elt [⟨tg,iter,ifs,0⟩] sc pos) 0 (.ref it) (.ref s2.heap.objs.size) (compEnvC sc (zc8 X.env.cells sc.names []) h3.objs.size X.env))
    (compPost (model X.prog X.w) X.A X.xe none (EP X pins σ Q) (.ref s2.heap.objs.size) h3.objs.size) s4:=by
  rintro s4 rfl
  refine zg4 (fun k s'=>∃ i σ5 H5,Inv (blk X N' sc (zc8 X.env.cells sc.names []) h3.objs.size { s2 with heap:=h3 } (upd H2 s2.heap.objs.size (.lst [])) fp (X.pn ++ pins)) [] σ5 H5 s'/\tn i s'.heap/\(∀ b ∈ fp,H5 b=none)/\W i k σ5 H5) ?_ m0
   ⟨0,_,_,I4,st4,fun b hb=>(f3 b hb).1,w0⟩
  rintro k s5 ⟨i,σ5,H5,I5,st5,fr5,w5⟩
  rcases turn i k σ5 H5 w5 with ⟨stop,qd⟩ | ⟨go,M,hM,step⟩
  ·refine thn (T.done (blk X N' sc (zc8 X.env.cells sc.names []) h3.objs.size { s2 with heap:=h3 } (upd H2 s2.heap.objs.size (.lst [])) fp (X.pn ++ pins)) rfl rfl rfl hc i [] s5 σ5 H5 _ I5 (fok fr5) st5 stop) fun r s6 ⟨hr,I6⟩=>?_
   subst hr; obtain ⟨m6,hn6,_⟩:=id I6.loc
   refine ⟨m6,hn6,fun h' hsb'=>⟨.ref s2.heap.objs.size,H5,?_,rfl,qd⟩⟩
   exact I3.call' (s':={ s6 with heap:=h' }) (ch:=fp) I6.os (Un.same I6.base hsb' (yF _)) (HOk.same I6.hok hsb' I6.free) I6.bare fun b hb=>⟨(f3 b hb).2.2.2.1,(f3 b hb).2.1,(f3 b hb).2.2.2.2.1,(f3 b hb).2.2.2.2.2⟩
  ·refine thn (T.item (blk X N' sc (zc8 X.env.cells sc.names []) h3.objs.size { s2 with heap:=h3 } (upd H2 s2.heap.objs.size (.lst [])) fp (X.pn ++ pins)) rfl rfl rfl hc i [] s5 σ5 H5 _ I5 (fok fr5) st5 go) fun r s6 ⟨u,hr,h6⟩=>?_
   subst hr
   refine thn h6 fun _ s7 ⟨x,H7,I7,r7,y7,st7,fr7⟩=>?_
   have I7':=I7.pinned (fok fr7) (T.obj _ _ st7)
   have back:∀ {σ8:St} {H8:Hp} {s8:Shared},Inv (blk X N' sc (zc8 X.env.cells sc.names []) h3.objs.size { s2 with heap:=h3 } (upd H2 s2.heap.objs.size (.lst [])) fp (X.pn ++ pins)) ([] ++ zfi fp s7.heap) σ8 H8 s8->tn (i+1) s8.heap/\∀ b ∈ fp,H8 b=none:=fun {σ8 H8 s8} I8=>by
    have pn8:∀ b ∈ fp,∀ o,s7.heap.get? b=some o->s8.heap.get? b=some o/\H8 b=none:=fun b hb o e=>by
     have q:=I8.pin (b,o) (yb _ (yb _ (zc1 hb e))); exact ⟨q.1,q.2.1⟩
    refine ⟨T.keep _ _ _ st7 fun b hb o e=>(pn8 b hb o e).1,fun b hb=>?_⟩
    obtain ⟨o,e,_⟩:=T.obj _ _ st7 b hb; exact (pn8 b hb o e).2
   have xf:∀ {α:Type} {t:Sem α} {Q1 Q2:α->Shared->Prop} {z:Shared},wpAny (model X.prog X.w) X.A t Q1 X.xe z->(∀ a z',Q1 a z'->Q2 a z')->wpAny (model X.prog X.w) X.A t Q2 (fun _ _=>False) z:=fun g1 g2=>by
    rw [hx] at g1; exact thn g1 g2
   refine xf (hg _ _ _ _ _ _ _ s7 σ5 H7 x u _ I7' r7 (step x H7 y7)) fun _ s8 ⟨σ8,H8,I8,q8⟩=>?_
   refine xf (ht _ _ _ _ _ _ _ s8 σ8 H8 _ I8 q8) fun b s9 ⟨H9,I9,q9⟩=>?_
   cases b with
   | false =>
    obtain ⟨m',hm,w'⟩:=hM σ8 H9 (by simpa using q9)
    obtain ⟨g1,g2⟩:=back I9; exact ⟨m',hm,i+1,σ8,H9,I9.unpinned,g1,g2,w'⟩
   | true =>
    rw [yR rfl] at q9 ⊢
    refine xf (he _ _ _ _ _ _ _ s9 σ8 H9 _ I9 q9) fun y s10 ⟨yv,H10,I10,r10,ys,hy,hz,w⟩=>?_
    obtain ⟨m',hm,w'⟩:=hM _ _ w
    refine xf (zdu (X:=(blk X N' sc (zc8 X.env.cells sc.names []) h3.objs.size { s2 with heap:=h3 } (upd H2 s2.heap.objs.size (.lst [])) fp (X.pn ++ pins))) _ s10 σ8 H10 (.ref s2.heap.objs.size) [yv] _ [y] (fun _ H11=>H11=upd H10 s2.heap.objs.size (.lst (ys ++ [yv]))) I10 rfl (.cons r10 .nil) ⟨_,ys,yv,rfl,rfl,hy,hz,rfl⟩) fun _ s11 ⟨_,H11,I11,_,e11⟩=>?_
    subst e11; obtain ⟨g1,g2⟩:=back I11; exact ⟨m',hm,i+1,σ8,_,I11.unpinned,g1,g2,w'⟩
 exact codeAny_compStart_list (loop _ rfl) (T.self _ 0 _ _ _ st4 (loop _ rfl))
theorem zg2 {J:It} {n:Nat} {g:TG} {tc:TT} {te:TE} {Q:VK} {D:Addr} {σ0:St} {H0:Hp} (Pv:Nat->St->Hp->Prop) (h0:Pv 0 σ0 H0)
  (hs:∀ i σ H,i<n->Pv i σ H->J.go i H/\∀ x H',J.yld i H x H'->g x σ H' fun σ3 H3=>tc σ3 H3 fun b H4=>if b=true then te σ3 H4 fun y H5=>∃ ys,H5 D=some (.lst ys)/\ys.length<sizeLine/\Pv (i+1) σ3 (upd H5 D (.lst (ys ++ [y]))) else Pv (i+1) σ3 H4)
  (hd:∀ σ H,Pv n σ H->J.stop n H/\Q (.ref D) H) :
  ∃ W:Nat->Nat->St->Hp->Prop,(∃ m,W 0 m σ0 H0)/\∀ i m σ2 H2,W i m σ2 H2 ->
   (J.stop i H2/\Q (.ref D) H2)\/(J.go i H2/\∃ M:St->Hp->Prop,(∀ σ' H',M σ' H'->∃ m',m'<m/\W (i+1) m' σ' H')/\∀ x H',J.yld i H2 x H'->g x σ2 H' fun σ3 H3=>tc σ3 H3 fun b H4 =>
    if b=true then te σ3 H4 fun y H5=>∃ ys,H5 D=some (.lst ys)/\ys.length<sizeLine/\M σ3 (upd H5 D (.lst (ys ++ [y]))) else M σ3 H4):=by
 refine ⟨fun i m σ H=>m=n-i/\i<=n/\Pv i σ H,⟨n,by simp,yf _,h0⟩,?_⟩
 rintro i m σ2 H2 ⟨rfl,hi,p⟩
 by_cases hlt:i<n
 ·obtain ⟨go,stp⟩:=hs i σ2 H2 hlt p
  exact .inr ⟨go,Pv (i+1),fun σ' H' p'=>⟨n-(i+1),by omega,rfl,hlt,p'⟩,stp⟩
 ·have e:i=n:=by omega
  subst e; exact .inl (hd σ2 H2 p)
end L2
namespace L2
open PySem
def XAt (a C:Addr) (dd:Option Addr):Heap->Prop:=fun h=>∃ vs sl,h.get? a=some ⟨.ref C,dd,.fields vs,sl⟩
end L2
namespace PL
open PySem L2
inductive D where
 | non | bl (b:Bool) | int (i:Int) | str (l:List Nat) | ty (n:String) | rng (lo hi:Int) | cls (C:Addr) | adr (b:Addr)
 | tup (l:List D) | lst (l:List D) | dic (l:List (D × D)) | dit (l:List (D × D)) | obj (C:Addr) (fs:List (Str × D)) | exc (C:Addr) (fs:List (Str × D))
inductive OD where
 | lst (l:List D) | dic (l:List (D × D)) | dit (l:List (D × D)) | obj (C:Addr) (fs:List (Str × D))
def OD.toD:OD->D
 | .lst l=>.lst l
 | .dic l=>.dic l
 | .dit l=>.dit l
 | .obj C fs=>.obj C fs
theorem zbD {α β:Type} {R:α->β->Prop}:∀ {l:List α} {m:List β},l.length=m.length->(∀ (i:Nat) a b,l[i]?=some a->m[i]?=some b->R a b)->Paired R l m
 | [],[],_,_=>.nil
 | a :: l,b :: m,h,r=>.cons (r 0 a b rfl rfl) (zbD (by simpa using h) fun i x y hx hy=>r (i+1) x y (by simpa using hx) (by simpa using hy))
 | [],_ :: _,h,_=>by simp at h
 | _ :: _,[],h,_=>by simp at h
theorem paired_get {α β:Type} {R:α->β->Prop}:∀ {l:List α} {m:List β} (i:Nat) {a:α} {b:β},Paired R l m->l[i]?=some a->m[i]?=some b->R a b
 | _,_,_,_,_,.nil,h,_=>by simp at h
 | _,_,0,_,_,.cons r _,h1,h2=>by simp at h1 h2; subst h1; subst h2; exact r
 | _,_,i+1,_,_,.cons _ t,h1,h2=>paired_get i t (by simpa using h1) (by simpa using h2)
theorem zl {α β:Type} {R:α->β->Prop} {l:List α} {m:List β} (h:Paired R l m):l.length=m.length:=Paired.length h
theorem zaT {α β:Type} {R:α->β->Prop} {l:List α} {m:List β} (h:Paired R l m) {i:Nat} {b:β} (e:m[i]?=some b):∃ a,l[i]?=some a/\R a b:=by
 have hl:=zl h
 have hi:i<l.length:=by rw [hl]; exact (yG.mp e).1
 exact ⟨l[i],yB hi,paired_get i h (yB hi) e⟩
theorem zco {α β:Type} {R:α->β->Prop} {l:List α} {m:List β} (h:Paired R l m) {i:Nat} {a:α} (e:l[i]?=some a):∃ b,m[i]?=some b/\R a b:=by
 have hl:=zl h
 have hi:i<m.length:=by rw [<- hl]; exact (yG.mp e).1
 exact ⟨m[i],yB hi,paired_get i h e (yB hi)⟩
theorem paired_app {α β:Type} {R:α->β->Prop}:∀ {l l':List α} {m m':List β},Paired R l m->Paired R l' m'->Paired R (l ++ l') (m ++ m')
 | _,_,_,_,.nil,h=>h
 | _,_,_,_,.cons r t,h=>.cons r (paired_app t h)
theorem zdi {α β:Type} {R:α->β->Prop}:∀ {l:List α} {m:List β} (n:Nat),Paired R l m->Paired R (l.take n) (m.take n)
 | _,_,0,_=>.nil
 | _,_,_+1,.nil=>.nil
 | _,_,n+1,.cons r t=>.cons r (zdi n t)
theorem zeE {α β:Type} {R:α->β->Prop}:∀ {l:List α} {m:List β} (n:Nat),Paired R l m->Paired R (l.drop n) (m.drop n)
 | _,_,0,h=>h
 | _,_,_+1,.nil=>.nil
 | _,_,n+1,.cons _ t=>zeE n t
def keyD:Key->D
 | .inl i=>.int i
 | .inr x=>.str x.cps.toList
inductive Den (K:W.Frag) (H:Hp):V->D->Prop where
 | non:Den K H .non .non
 | bl (b:Bool):Den K H (.bl b) (.bl b)
 | int (i:Int):Den K H (.int i) (.int i)
 | str (l:List Nat):Den K H (.str (st l)) (.str l)
 | ty (n:String):Den K H (.ty n) (.ty n)
 | rng {a:Addr} {lo hi:Int} (h:Rd H a (.rng lo hi)):Den K H (.ref a) (.rng lo hi)
 | cls (C:Addr):Den K H (.ref C) (.cls C)
 | adr (b:Addr):Den K H (.ref b) (.adr b)
 | tup {a:Addr} {vs:List V} {ds:List D} (h:H a=some (.tup vs)) (l:vs.length=ds.length) (r:∀ (i:Nat) v d,vs[i]?=some v->ds[i]?=some d->Den K H v d):Den K H (.ref a) (.tup ds)
 | lst {a:Addr} {vs:List V} {ds:List D} (h:SqL K H a vs) (l:vs.length=ds.length) (r:∀ (i:Nat) v d,vs[i]?=some v->ds[i]?=some d->Den K H v d):Den K H (.ref a) (.lst ds)
 | dicK {a:Addr} {kvs:List (Key × V)} {ds:List (D × D)} (h:Rd H a (.dK kvs)) (l:kvs.length=ds.length) (r:∀ (i:Nat) p q,kvs[i]?=some p->ds[i]?=some q->q.1=keyD p.1) (r2:∀ (i:Nat) p q,kvs[i]?=some p->ds[i]?=some q->Den K H p.2 q.2):Den K H (.ref a) (.dic ds)
 | dicT {a:Addr} {kvs:List (List Key × V)} {ep:Nat} {ds:List (D × D)} (h:H a=some (.dE kvs ep)) (l:kvs.length=ds.length) (r:∀ (i:Nat) p q,kvs[i]?=some p->ds[i]?=some q->q.1=.tup (p.1.map keyD)) (r2:∀ (i:Nat) p q,kvs[i]?=some p->ds[i]?=some q->Den K H p.2 q.2):Den K H (.ref a) (.dit ds)
 | obj {a C dx:Addr} {fs:List (Str × V)} {ds:List (Str × D)} (h:H a=some (.ins C dx fs)) (l:fs.length=ds.length) (r:∀ (i:Nat) p q,fs[i]?=some p->ds[i]?=some q->q.1=p.1) (r2:∀ (i:Nat) p q,fs[i]?=some p->ds[i]?=some q->Den K H p.2 q.2):Den K H (.ref a) (.obj C ds)
 | excN {a C:Addr} (h:H a=some (.ext (XAt a C none))):Den K H (.ref a) (.exc C [])
 | exc {a C dx:Addr} {fs:List (Str × V)} {ds:List (Str × D)} (h:H a=some (.ext (XAt a C (some dx)))) (h2:H dx=some (.xd fs)) (l:fs.length=ds.length) (r:∀ (i:Nat) p q,fs[i]?=some p->ds[i]?=some q->q.1=p.1) (r2:∀ (i:Nat) p q,fs[i]?=some p->ds[i]?=some q->Den K H p.2 q.2):Den K H (.ref a) (.exc C ds)
abbrev zrh (K:W.Frag) (H:Hp):List (Key × V)->List (D × D)->Prop:=Paired fun p q=>q.1=keyD p.1/\Den K H p.2 q.2
abbrev zjF (K:W.Frag) (H:Hp):List (List Key × V)->List (D × D)->Prop:=Paired fun p q=>q.1=.tup (p.1.map keyD)/\Den K H p.2 q.2
abbrev zpx (K:W.Frag) (H:Hp):List (Str × V)->List (Str × D)->Prop:=Paired fun p q=>q.1=p.1/\Den K H p.2 q.2
abbrev zbv (K:W.Frag) (H:Hp):List V->List D->Prop:=Paired (Den K H)
section
variable {K:W.Frag} {H H':Hp} {v:V} {a:Addr} {vs:List V} {ds:List D}
theorem zdQ {u:HO} (e:zaG H H') (h:Rd H a u):Rd H' a u:=by
 rcases h with h | ⟨o,h⟩
 ·exact .inl (e _ _ h)
 ·exact .inr ⟨o,e _ _ h⟩
theorem zaz (e:zaG H H') (h:SqT K H a vs):SqT K H' a vs:=by
 rcases h with h | h
 ·exact .inl (zdQ e h)
 ·exact .inr h
theorem zai (e:zaG H H') (h:SqL K H a vs):SqL K H' a vs:=by
 rcases h with h | h
 ·exact .inl (zdQ e h)
 ·exact .inr h
theorem Den.mono {d:D} (h:Den K H v d) (e:zaG H H'):Den K H' v d:=by
 induction h with
 | non=>exact .non
 | bl b=>exact .bl b
 | int i=>exact .int i
 | str l=>exact .str l
 | ty n=>exact .ty n
 | rng h=>exact .rng (zdQ e h)
 | cls C=>exact .cls C
 | adr C=>exact .adr C
 | tup h l r ih=>exact .tup (e _ _ h) l ih
 | lst h l r ih=>exact .lst (zai e h) l ih
 | dicK h l r r2 ih=>exact .dicK (zdQ e h) l r ih
 | dicT h l r r2 ih=>exact .dicT (e _ _ h) l r ih
 | obj h l r r2 ih=>exact .obj (e _ _ h) l r ih
 | excN h=>exact .excN (e _ _ h)
 | exc h h2 l r r2 ih=>exact .exc (e _ _ h) (e _ _ h2) l r ih
theorem zbv.mono (h:zbv K H vs ds) (e:zaG H H'):zbv K H' vs ds:=Paired.mapP h fun _ _ q=>q.mono e
theorem zrh.mono {kvs:List (Key × V)} {es:List (D × D)} (h:zrh K H kvs es) (e:zaG H H'):zrh K H' kvs es:=Paired.mapP h fun _ _ q=>⟨q.1,q.2.mono e⟩
theorem zjF.mono {kvs:List (List Key × V)} {es:List (D × D)} (h:zjF K H kvs es) (e:zaG H H'):zjF K H' kvs es:=Paired.mapP h fun _ _ q=>⟨q.1,q.2.mono e⟩
theorem zpx.mono {fs:List (Str × V)} {es:List (Str × D)} (h:zpx K H fs es) (e:zaG H H'):zpx K H' fs es:=Paired.mapP h fun _ _ q=>⟨q.1,q.2.mono e⟩
theorem Den.mkO {C dx:Addr} {fs:List (Str × V)} {es:List (Str × D)} (h:H a=some (.ins C dx fs)) (r:zpx K H fs es):Den K H (.ref a) (.obj C es):=.obj h (zl r) (fun i _ _ h1 h2=>(paired_get i r h1 h2).1) fun i _ _ h1 h2=>(paired_get i r h1 h2).2
theorem Den.objI {C:Addr} {es:List (Str × D)} (h:Den K H v (.obj C es)):∃ a dx fs,v=.ref a/\H a=some (.ins C dx fs)/\zpx K H fs es:=by
 cases h with
 | obj h l r r2=>exact ⟨_,_,_,rfl,h,zbD l fun i p q h1 h2=>⟨r i p q h1 h2,r2 i p q h1 h2⟩⟩
def zt7 (K:W.Frag) (H:Hp) (dd:Option Addr) (es:List (Str × D)):Prop:=(dd=none/\es=[])\/∃ dx fs,dd=some dx/\H dx=some (.xd fs)/\zpx K H fs es
theorem Den.excI {C:Addr} {es:List (Str × D)} (h:Den K H v (.exc C es)):∃ a dd,v=.ref a/\H a=some (.ext (XAt a C dd))/\zt7 K H dd es:=by
 cases h with
 | excN h=>exact ⟨_,_,rfl,h,.inl ⟨rfl,rfl⟩⟩
 | exc h h2 l r r2=>exact ⟨_,_,rfl,h,.inr ⟨_,_,rfl,h2,zbD l fun i p q h1 h2=>⟨r i p q h1 h2,r2 i p q h1 h2⟩⟩⟩
theorem Den.adrI {b:Addr} (h:Den K H v (.adr b)):v=.ref b:=by cases h; rfl
theorem Den.mkDK {kvs:List (Key × V)} {es:List (D × D)} (h:Rd H a (.dK kvs)) (r:zrh K H kvs es):Den K H (.ref a) (.dic es):=.dicK h (zl r) (fun i _ _ h1 h2=>(paired_get i r h1 h2).1) fun i _ _ h1 h2=>(paired_get i r h1 h2).2
theorem Den.mkDT {kvs:List (List Key × V)} {ep:Nat} {es:List (D × D)} (h:H a=some (.dE kvs ep)) (r:zjF K H kvs es):Den K H (.ref a) (.dit es):=.dicT h (zl r) (fun i _ _ h1 h2=>(paired_get i r h1 h2).1) fun i _ _ h1 h2=>(paired_get i r h1 h2).2
theorem Den.ditI {es:List (D × D)} (h:Den K H v (.dit es)):∃ a kvs ep,v=.ref a/\H a=some (.dE kvs ep)/\zjF K H kvs es:=by
 cases h with
 | dicT h l r r2=>exact ⟨_,_,_,rfl,h,zbD l fun i p q h1 h2=>⟨r i p q h1 h2,r2 i p q h1 h2⟩⟩
theorem Den.mkT (h:H a=some (.tup vs)) (r:zbv K H vs ds):Den K H (.ref a) (.tup ds):=.tup h (zl r) fun i _ _ h1 h2=>paired_get i r h1 h2
theorem Den.mkL (h:SqL K H a vs) (r:zbv K H vs ds):Den K H (.ref a) (.lst ds):=.lst h (zl r) fun i _ _ h1 h2=>paired_get i r h1 h2
theorem Den.tupJ (h:Den K H v (.tup ds)):∃ a vs,v=.ref a/\H a=some (.tup vs)/\zbv K H vs ds:=by
 cases h with
 | tup h l r=>exact ⟨_,_,rfl,h,zbD l r⟩
theorem Den.tupI (h:Den K H v (.tup ds)):∃ a vs,v=.ref a/\SqT K H a vs/\zbv K H vs ds:=by
 cases h with
 | tup h l r=>exact ⟨_,_,rfl,SqT.of h,zbD l r⟩
theorem Den.lstI (h:Den K H v (.lst ds)):∃ a vs,v=.ref a/\SqL K H a vs/\zbv K H vs ds:=by
 cases h with
 | lst h l r=>exact ⟨_,_,rfl,h,zbD l r⟩
theorem Den.intI {i:Int} (h:Den K H v (.int i)):v=.int i:=by cases h; rfl
theorem Den.blI {b:Bool} (h:Den K H v (.bl b)):v=.bl b:=by cases h; rfl
theorem Den.strI {l:List Nat} (h:Den K H v (.str l)):v=.str (st l):=by cases h; rfl
theorem Den.nonI (h:Den K H v .non):v=.non:=by cases h; rfl
theorem Den.non_iff {d:D} (h:Den K H v d):v=.non↔d=.non:=by cases h <;> simp
end
inductive Slot where
 | emp | val (d:D) | own (o:OD)
 | bk (d:D->D) (b:Addr) (xs:OD)
abbrev Sts:=List Slot
structure Wd where
 H₀:Hp
 Hi₀:Hp
 F:List Addr
def zce (K:W.Frag) (Hi H:Hp) (a:Addr):OD->Prop
 | .lst ds=>∃ vs,H a=some (.lst vs)/\zbv K Hi vs ds
 | .dic ds=>∃ kvs,H a=some (.dK kvs)/\zrh K Hi kvs ds
 | .dit ds=>∃ kvs ep,H a=some (.dE kvs ep)/\zjF K Hi kvs ds
 | .obj C ds=>∃ dx fs,H a=some (.ins C dx fs)/\zpx K Hi fs ds
def zoc:Option (Option V)->Option Addr
 | some (some (.ref a))=>some a
 | _=>none
def adr (n:Nat) (W:Wd) (σ:St) (i:Nat):Option Addr:=if i<n then zoc σ[i]? else W.F[i-n]?
structure Free (n:Nat) (W:Wd) (Γ:Sts) (σ:St) (a:Addr):Prop where
 own:∀ (j:Nat) o',Γ[j]?=some (.own o')->adr n W σ j≠some a
 bk:∀ (j:Nat) d xs,Γ[j]?≠some (.bk d a xs)
def Hol (K:W.Frag) (d:D->D):Prop:=∀ (b:Addr) (Hi:Hp) (v:V) (o:OD),Den K Hi (.ref b) o.toD->Den K Hi v (d (.adr b))->Den K Hi v (d o.toD)
structure BkAt (K:W.Frag) (n:Nat) (W:Wd) (Hi:Hp) (Γ:Sts) (σ:St) (H:Hp) (i:Nat) (d:D->D) (b:Addr) (xs:OD):Prop where
 val:∃ v,σ[i]?=some (some v)/\Den K Hi v (d (.adr b))
 hol:Hol K d
 hi:Hi b=none
 h0:b ∉ W.F->W.H₀ b=none
 at_:zce K Hi H b xs
 one:∀ (j:Nat) d' xs',Γ[j]?=some (.bk d' b xs')->j=i
 ne:∀ (j:Nat) o',Γ[j]?=some (.own o')->adr n W σ j≠some b
structure Fz (Hi H:Hp):Prop where
 sub:zaG Hi H
 tups:∀ a xs,H a=some (.tup xs)->Hi a=some (.tup xs)
structure Good (K:W.Frag) (n:Nat) (W:Wd) (Hi:Hp) (Γ:Sts) (σ:St) (H:Hp):Prop where
 len:σ.length=n
 fz:Fz Hi H
 keep:∀ a o,W.H₀ a=some o->a ∉ W.F->H a=some o
 there:∀ a o,W.H₀ a=some o->∃ o',H a=some o'
 fro:∀ a o,W.H₀ a=some o->Hi a=W.Hi₀ a
 val:∀ (i:Nat) d,Γ[i]?=some (.val d)->∃ v,σ[i]?=some (some v)/\Den K Hi v d
 own:∀ (i:Nat) o,Γ[i]?=some (.own o)->∃ a,adr n W σ i=some a/\Hi a=none/\(i<n->W.H₀ a=none)/\zce K Hi H a o
 apart:∀ (i j:Nat) o o' a,Γ[i]?=some (.own o)->Γ[j]?=some (.own o')->adr n W σ i=some a->adr n W σ j=some a->i=j
 bk:∀ (i:Nat) d b xs,Γ[i]?=some (.bk d b xs)->BkAt K n W Hi Γ σ H i d b xs
theorem Good.sub {K:W.Frag} {n:Nat} {W:Wd} {Hi:Hp} {Γ:Sts} {σ:St} {H:Hp} (g:Good K n W Hi Γ σ H):zaG Hi H:=g.fz.sub
structure Ext (Hi H Hi' H':Hp):Prop where
 hi:zaG Hi Hi'
 h:zaG H H'
 fz:Fz Hi' H'
 fro:∀ a o,H a=some o->Hi' a=Hi a
theorem Ext.refl {Hi H:Hp} (s:Fz Hi H):Ext Hi H Hi H:=⟨zaG.refl _,zaG.refl _,s,fun _ _ _=>rfl⟩
theorem Ext.trans {A B A1 B1 A2 B2:Hp} (x:Ext A B A1 B1) (y:Ext A1 B1 A2 B2):Ext A B A2 B2 :=
 ⟨x.hi.trans y.hi,x.h.trans y.h,y.fz,fun a o e=>(y.fro a o (x.h a o e)).trans (x.fro a o e)⟩
theorem zaO {H:Hp} {p:Addr} (h:H p=none) (o:HO):zaG H (upd H p o):=fun b u q=>by rw [zN (zaQ q h)]; exact q
theorem Ext.new {Hi H:Hp} {p:Addr} (s:Fz Hi H) (h:H p=none) (o:HO):Ext Hi H (upd Hi p o) (upd H p o):=by
 have hi:Hi p=none:=s.sub.free h
 refine ⟨zaO hi o,zaO h o,⟨fun b u q=>?_,fun b xs q=>?_⟩,fun b u q=>?_⟩
 ·by_cases e:b=p
  ·subst e; rw [zu] at q ⊢; exact q
  ·rw [zN e] at q ⊢; exact s.sub b u q
 ·by_cases e:b=p
  ·subst e; rw [zu] at q ⊢; exact q
  ·rw [zN e] at q ⊢; exact s.tups b xs q
 ·exact zN (zaQ q h)
theorem Ext.newO {Hi H:Hp} {p:Addr} (s:Fz Hi H) (h:H p=none) (o:HO) (ho:∀ xs,o≠.tup xs):Ext Hi H Hi (upd H p o) :=
 ⟨zaG.refl _,zaO h o,⟨s.sub.trans (zaO h o),fun b xs q=>by
  by_cases e:b=p
  ·subst e; rw [zu] at q; exact yO (Option.some.inj q) (ho xs)
  ·rw [zN e] at q; exact s.tups b xs q⟩,fun _ _ _=>rfl⟩
section
variable {K:W.Frag} {n:Nat} {W:Wd} {Hi Hi' H H':Hp} {Γ:Sts} {σ:St} {a:Addr} {o:OD}
theorem zce.there (h:zce K Hi H a o):∃ u,H a=some u:=by
 cases o with
 | lst ds=>obtain ⟨vs,e,_⟩:=h; exact ⟨_,e⟩
 | dic ds=>obtain ⟨kvs,e,_⟩:=h; exact ⟨_,e⟩
 | dit ds=>obtain ⟨kvs,ep,e,_⟩:=h; exact ⟨_,e⟩
 | obj C ds=>obtain ⟨dx,fs,e,_⟩:=h; exact ⟨_,e⟩
theorem zce.mono (h:zce K Hi H a o) (hi:zaG Hi Hi') (e:∀ u,H a=some u->H' a=some u):zce K Hi' H' a o:=by
 cases o with
 | lst ds=>obtain ⟨vs,q,r⟩:=h; exact ⟨vs,e _ q,r.mono hi⟩
 | dic ds=>obtain ⟨kvs,q,r⟩:=h; exact ⟨kvs,e _ q,r.mono hi⟩
 | dit ds=>obtain ⟨kvs,ep,q,r⟩:=h; exact ⟨kvs,ep,e _ q,r.mono hi⟩
 | obj C ds=>obtain ⟨dx,fs,q,r⟩:=h; exact ⟨dx,fs,e _ q,r.mono hi⟩
theorem zce.notTup (h:zce K Hi H a o):∀ xs,H a≠some (.tup xs):=fun xs z=>by
 cases o with
 | lst ds=>obtain ⟨vs,e,_⟩:=h; rw [e] at z; cases z
 | dic ds=>obtain ⟨kvs,e,_⟩:=h; rw [e] at z; cases z
 | dit ds=>obtain ⟨kvs,ep,e,_⟩:=h; rw [e] at z; cases z
 | obj C ds=>obtain ⟨dx,fs,e,_⟩:=h; rw [e] at z; cases z
theorem Good.ext (g:Good K n W Hi Γ σ H) (e:Ext Hi H Hi' H'):Good K n W Hi' Γ σ H' where
 len:=g.len
 fz:=e.fz
 keep:=fun a o h n=>e.h a o (g.keep a o h n)
 there:=fun a o h=>by
  obtain ⟨o',q⟩:=g.there a o h; exact ⟨o',e.h a o' q⟩
 fro:=fun a o h=>by
  obtain ⟨o',q⟩:=g.there a o h; exact (e.fro a o' q).trans (g.fro a o h)
 val:=fun i d h=>by
  obtain ⟨v,h1,h2⟩:=g.val i d h; exact ⟨v,h1,h2.mono e.hi⟩
 own:=fun i o h=>by
  obtain ⟨a,h1,h2,h3,h4⟩:=g.own i o h; obtain ⟨u,hu⟩:=h4.there
  exact ⟨a,h1,(e.fro a u hu).trans h2,h3,h4.mono e.hi fun u q=>e.h a u q⟩
 apart:=g.apart
 bk:=fun i d b xs h=>by
  obtain ⟨⟨v,h0,h1⟩,h2,h3,h4,h5,h6,h7⟩:=g.bk i d b xs h
  obtain ⟨u,hu⟩:=h5.there
  exact ⟨⟨v,h0,h1.mono e.hi⟩,h2,(e.fro b u hu).trans h3,h4,h5.mono e.hi fun u q=>e.h b u q,h6,h7⟩
theorem zff {o:Option (Option V)} (h:zoc o=some a):o=some (some (.ref a)):=by
 unfold zoc at h; split at h
 ·cases h; rfl
 ·cases h
theorem Good.set (g:Good K n W Hi Γ σ H) {i:Nat} {v:V} {d:D} (hi:i<n) (r:Den K Hi v d):Good K n W Hi (Γ.set i (.val d)) (σ.set i (some v)) H:=by
 have ad:∀ j,j≠i->adr n W (σ.set i (some v)) j=adr n W σ j:=fun j hj=>by
  unfold adr
  rw [yk (fun z=>hj z.symm)]
 have inv:∀ (j:Nat) (s:Slot),(Γ.set i (.val d))[j]?=some s->(j=i/\s=.val d)\/(j≠i/\Γ[j]?=some s):=fun j s e=>by
  by_cases hj:j=i
  ·subst hj
   refine .inl ⟨rfl,?_⟩; rw [List.getElem?_set] at e; simp only [if_true] at e; split at e
   ·exact (Option.some.inj e).symm
   ·cases e
  ·rw [yk (fun z=>hj z.symm)] at e
   exact .inr ⟨hj,e⟩
 refine ⟨by rw [List.length_set]; exact g.len,g.fz,g.keep,g.there,g.fro,fun j d' e=>?_,fun j o e=>?_,fun j k o o' a e1 e2 h1 h2=>?_,fun j d' b xs e=>?_⟩
 ·rcases inv j _ e with ⟨rfl,z⟩ | ⟨hj,z⟩
  ·cases z
   exact ⟨v,by rw [Yi (by rw [g.len]; exact hi)],r⟩
  ·obtain ⟨w,h1,h2⟩:=g.val j d' z
   exact ⟨w,by rw [yk (fun z=>hj z.symm)]; exact h1,h2⟩
 ·rcases inv j _ e with ⟨rfl,z⟩ | ⟨hj,z⟩
  ·cases z
  ·obtain ⟨a,h1,h2⟩:=g.own j o z
   exact ⟨a,by rw [ad j hj]; exact h1,h2⟩
 ·rcases inv j _ e1 with ⟨rfl,z⟩ | ⟨hj,z⟩
  ·cases z
  ·rcases inv k _ e2 with ⟨rfl,y⟩ | ⟨hk,y⟩
   ·cases y
   ·exact g.apart j k o o' a z y (by rw [<- ad j hj]; exact h1) (by rw [<- ad k hk]; exact h2)
 ·rcases inv j _ e with ⟨rfl,z⟩ | ⟨hj,z⟩
  ·cases z
  ·obtain ⟨⟨w,w1,w2⟩,h1,h2,h3,h4,h5,h6⟩:=g.bk j d' b xs z
   refine ⟨⟨w,by rw [yk (fun z=>hj z.symm)]; exact w1,w2⟩,h1,h2,h3,h4,fun k d' xs' q=>?_,fun k o' q=>?_⟩
   ·rcases inv k _ q with ⟨rfl,y⟩ | ⟨hk,y⟩
    ·cases y
    ·exact h5 k _ _ y
   ·rcases inv k _ q with ⟨rfl,y⟩ | ⟨hk,y⟩
    ·cases y
    ·rw [ad k hk]
     exact h6 k o' y
theorem Good.setO (g:Good K n W Hi Γ σ H) {i:Nat} (hi:i<n) (h0:Hi a=none) (h1:W.H₀ a=none) (fr:Free n W Γ σ a) (h3:zce K Hi H a o):Good K n W Hi (Γ.set i (.own o)) (σ.set i (some (.ref a))) H:=by
 have ad:∀ j,j≠i->adr n W (σ.set i (some (.ref a))) j=adr n W σ j:=fun j hj=>by
  unfold adr
  rw [yk (fun z=>hj z.symm)]
 have ai:adr n W (σ.set i (some (.ref a))) i=some a:=by
  unfold adr
  rw [yR hi,Yi (by rw [g.len]; exact hi)]
  rfl
 have inv:∀ (j:Nat) (s:Slot),(Γ.set i (.own o))[j]?=some s->(j=i/\s=.own o)\/(j≠i/\Γ[j]?=some s):=fun j s e=>by
  by_cases hj:j=i
  ·subst hj
   refine .inl ⟨rfl,?_⟩; rw [List.getElem?_set] at e; simp only [if_true] at e; split at e
   ·exact (Option.some.inj e).symm
   ·cases e
  ·rw [yk (fun z=>hj z.symm)] at e
   exact .inr ⟨hj,e⟩
 refine ⟨by rw [List.length_set]; exact g.len,g.fz,g.keep,g.there,g.fro,fun j d' e=>?_,fun j o e=>?_,fun j k o o' b e1 e2 q1 q2=>?_,fun j d' b xs e=>?_⟩
 ·rcases inv j _ e with ⟨rfl,z⟩ | ⟨hj,z⟩
  ·cases z
  ·obtain ⟨w,h1,h2⟩:=g.val j d' z
   exact ⟨w,by rw [yk (fun z=>hj z.symm)]; exact h1,h2⟩
 ·rcases inv j _ e with ⟨rfl,z⟩ | ⟨hj,z⟩
  ·cases z
   exact ⟨a,ai,h0,fun _=>h1,h3⟩
  ·obtain ⟨b,q1,q2⟩:=g.own j o z
   exact ⟨b,by rw [ad j hj]; exact q1,q2⟩
 ·rcases inv j _ e1 with ⟨rfl,z⟩ | ⟨hj,z⟩
  ·rcases inv k _ e2 with ⟨rfl,y⟩ | ⟨hk,y⟩
   ·rfl
   ·rw [ai] at q1
    cases q1; rw [ad k hk] at q2; exact yO q2 (fr.own k _ y)
  ·rcases inv k _ e2 with ⟨rfl,y⟩ | ⟨hk,y⟩
   ·rw [ai] at q2
    cases q2; rw [ad j hj] at q1; exact yO q1 (fr.own j _ z)
   ·exact g.apart j k o o' b z y (by rw [<- ad j hj]; exact q1) (by rw [<- ad k hk]; exact q2)
 ·rcases inv j _ e with ⟨rfl,z⟩ | ⟨hj,z⟩
  ·cases z
  ·obtain ⟨⟨w,w1,w2⟩,h1,h2,h3,h4,h5,h6⟩:=g.bk j d' b xs z
   refine ⟨⟨w,by rw [yk (fun z=>hj z.symm)]; exact w1,w2⟩,h1,h2,h3,h4,fun k d' xs' q=>?_,fun k o' q=>?_⟩
   ·rcases inv k _ q with ⟨rfl,y⟩ | ⟨hk,y⟩
    ·cases y
    ·exact h5 k _ _ y
   ·rcases inv k _ q with ⟨rfl,y⟩ | ⟨hk,y⟩
    ·rw [ai]
     intro w; cases w; exact fr.bk j _ _ z
    ·rw [ad k hk]
     exact h6 k o' y
theorem Good.put (g:Good K n W Hi Γ σ H) {i:Nat} {o0:OD} {u:HO} (e0:Γ[i]?=some (.own o0)) (ha:adr n W σ i=some a) (hn:zce K Hi (upd H a u) a o):Good K n W Hi (Γ.set i (.own o)) σ (upd H a u):=by
 obtain ⟨a',h1,h2,h3,h4⟩:=g.own i _ e0; rw [ha] at h1; cases h1
 have hF:i<n\/a ∈ W.F:=by
  by_cases hi:i<n
  ·exact .inl hi
  ·unfold adr at ha
   rw [yM hi] at ha; exact .inr (yV ha)
 have inv:∀ (j:Nat) (s:Slot),(Γ.set i (.own o))[j]?=some s->(j=i/\s=.own o)\/(j≠i/\Γ[j]?=some s):=fun j s e=>by
  by_cases hj:j=i
  ·subst hj
   refine .inl ⟨rfl,?_⟩; rw [List.getElem?_set] at e; simp only [if_true] at e; split at e
   ·exact (Option.some.inj e).symm
   ·cases e
  ·rw [yk (fun z=>hj z.symm)] at e
   exact .inr ⟨hj,e⟩
 refine ⟨g.len,⟨fun b w q=>?_,fun b xs q=>?_⟩,fun b w q nf=>?_,fun b w q=>?_,g.fro,fun j d' e=>?_,fun j o' e=>?_,fun j k o1 o2 b e1 e2 q1 q2=>?_,fun j d' b xs e=>?_⟩
 ·rw [zN (fun z=>by rw [z,h2] at q; cases q)]
  exact g.sub b w q
 ·by_cases hb:b=a
  ·subst hb
   exact yO q (hn.notTup xs)
  ·rw [zN hb] at q
   exact g.fz.tups b xs q
 ·have hb:b≠a:=fun z=>by
   subst z
   rcases hF with hi | hf
   ·rw [h3 hi] at q; cases q
   ·exact nf hf
  rw [zN hb]; exact g.keep b w q nf
 ·by_cases hb:b=a
  ·exact ⟨u,by rw [hb,zu]⟩
  ·obtain ⟨w',hw⟩:=g.there b w q
   exact ⟨w',by rw [zN hb]; exact hw⟩
 ·rcases inv j _ e with ⟨rfl,z⟩ | ⟨hj,z⟩
  ·cases z
  ·exact g.val j d' z
 ·rcases inv j _ e with ⟨rfl,z⟩ | ⟨hj,z⟩
  ·cases z
   exact ⟨a,ha,h2,h3,hn⟩
  ·obtain ⟨b,q1,q2,q3,q4⟩:=g.own j o' z
   have hb:b≠a:=fun w=>hj (g.apart j i _ _ a z e0 (by rw [<- w]; exact q1) ha)
   exact ⟨b,q1,q2,q3,q4.mono (zaG.refl _) fun w hw=>by rw [zN hb]; exact hw⟩
 ·have e1':∃ oo,Γ[j]?=some (.own oo):=by
   rcases inv j _ e1 with ⟨rfl,z⟩ | ⟨hj,z⟩
   ·exact ⟨_,e0⟩
   ·exact ⟨_,z⟩
  have e2':∃ oo,Γ[k]?=some (.own oo):=by
   rcases inv k _ e2 with ⟨rfl,z⟩ | ⟨hj,z⟩
   ·exact ⟨_,e0⟩
   ·exact ⟨_,z⟩
  obtain ⟨_,z1⟩:=e1'; obtain ⟨_,z2⟩:=e2'; exact g.apart j k _ _ b z1 z2 q1 q2
 ·rcases inv j _ e with ⟨rfl,z⟩ | ⟨hj,z⟩
  ·cases z
  ·obtain ⟨p0,p1,p2,p3,p4,p5,p6⟩:=g.bk j d' b xs z
   have hb:b≠a:=fun w=>p6 i _ e0 (by rw [w]; exact ha)
   refine ⟨p0,p1,p2,p3,p4.mono (zaG.refl _) fun w hw=>by rw [zN hb]; exact hw,fun k d' xs' q=>?_,fun k o' q=>?_⟩
   ·rcases inv k _ q with ⟨rfl,y⟩ | ⟨hk,y⟩
    ·cases y
    ·exact p5 k _ _ y
   ·rcases inv k _ q with ⟨rfl,y⟩ | ⟨hk,y⟩
    ·exact p6 k _ e0
    ·exact p6 k o' y
theorem Good.freezeA (g:Good K n W Hi Γ σ H) (h0:Hi a=none) (h1:W.H₀ a=none) (fr:Free n W Γ σ a) {u:HO} (hu:H a=some u):Good K n W (upd Hi a u) Γ σ H:=by
 have hs:zaG Hi (upd Hi a u):=zaO h0 u
 refine ⟨g.len,⟨fun b w q=>?_,fun b xs q=>?_⟩,g.keep,g.there,fun b w q=>?_,fun j d' e=>?_,fun j o' e=>?_,g.apart,fun j d' b xs e=>?_⟩
 ·by_cases hb:b=a
  ·subst hb; rw [zu] at q; cases q; exact hu
  ·rw [zN hb] at q; exact g.sub b w q
 ·have hb:b≠a:=fun z=>by
   have:=g.fz.tups b xs q
   rw [z,h0] at this; cases this
  rw [zN hb]; exact g.fz.tups b xs q
 ·have hb:b≠a:=fun z=>by subst z; rw [h1] at q; cases q
  rw [zN hb]; exact g.fro b w q
 ·obtain ⟨w,q1,q2⟩:=g.val j d' e
  exact ⟨w,q1,q2.mono hs⟩
 ·obtain ⟨b,q1,q2,q3,q4⟩:=g.own j o' e
  have hb:b≠a:=fun z=>fr.own j o' e (by rw [<- z]; exact q1)
  exact ⟨b,q1,by rw [zN hb]; exact q2,q3,q4.mono hs fun _ z=>z⟩
 ·obtain ⟨⟨w,w1,w2⟩,p1,p2,p3,p4,p5,p6⟩:=g.bk j d' b xs e
  have hb:b≠a:=fun z=>fr.bk j _ _ (by rw [<- z]; exact e)
  exact ⟨⟨w,w1,w2.mono hs⟩,p1,by rw [zN hb]; exact p2,p3,p4.mono hs fun _ z=>z,p5,p6⟩
theorem zce.den (h:zce K Hi H a o) (h0:Hi a=none) {u:HO} (hu:H a=some u):Den K (upd Hi a u) (.ref a) o.toD:=by
 cases o with
 | lst ds =>
  obtain ⟨vs,q,r⟩:=h; rw [hu] at q; cases q; exact Den.mkL (SqL.of zu) (r.mono (zaO h0 _))
 | dic ds =>
  obtain ⟨kvs,q,r⟩:=h; rw [hu] at q; cases q; exact Den.mkDK (.inl zu) (r.mono (zaO h0 _))
 | dit ds =>
  obtain ⟨kvs,ep,q,r⟩:=h; rw [hu] at q; cases q; exact Den.mkDT zu (r.mono (zaO h0 _))
 | obj C ds =>
  obtain ⟨dx,fs,q,r⟩:=h; rw [hu] at q; cases q; exact Den.mkO zu (r.mono (zaO h0 _))
end
abbrev TE':=Sts->(D->Sts->Prop)->Prop
abbrev TT':=Sts->(Bool->Sts->Prop)->Prop
abbrev TA':=Sts->(List D->Sts->Prop)->Prop
abbrev TO':=Sts->(OD->Sts->Prop)->Prop
abbrev TI':=Sts->(List D->Sts->Prop)->Prop
abbrev TG':=D->Sts->(Sts->Prop)->Prop
inductive Res where
 | val (d:D) | own (o:OD)
 | bk (d:D->D) (o:OD)
def Res.toD:Res->D
 | .val d=>d
 | .own o=>o.toD
 | .bk d o=>d o.toD
structure Ends' where
 nx:Sts->Prop
 rt:Res->Sts->Prop
 bk:Sts->Prop:=fun _=>False
 ct:Sts->Prop:=fun _=>False
abbrev TS':=Ends'->Sts->Prop
def zs3 (K:W.Frag) (n:Nat) (W:Wd) (Hi:Hp) (σ:St) (Q:D->Sts->Prop):VK:=fun v H'=>∃ Hi' d Γ',zaG Hi Hi'/\Good K n W Hi' Γ' σ H'/\Den K Hi' v d/\Q d Γ'
def tOf (K:W.Frag) (n:Nat) (t:TE'):TE:=fun σ H Q2=>∃ W Hi Γ Q,Good K n W Hi Γ σ H/\t Γ Q/\∀ v H',zs3 K n W Hi σ Q v H'->Q2 v H'
def zpz (K:W.Frag) (n:Nat) (t:TT'):TT:=fun σ H Q2=>∃ W Hi Γ Q,Good K n W Hi Γ σ H/\t Γ Q/\∀ b H' Hi' Γ',zaG Hi Hi'->Good K n W Hi' Γ' σ H'->Q b Γ'->Q2 b H'
def zta (K:W.Frag) (n:Nat) (t:TA'):TA:=fun σ H Q2=>∃ W Hi Γ Q,Good K n W Hi Γ σ H/\t Γ Q/\∀ vs H' Hi' Γ' ds,zaG Hi Hi'->Good K n W Hi' Γ' σ H'->zbv K Hi' vs ds->Q ds Γ'->Q2 vs H'
structure New (K:W.Frag) (n:Nat) (W:Wd) (Hi:Hp) (Γ:Sts) (σ:St) (H:Hp) (a:Addr) (o:OD):Prop where
 hi:Hi a=none
 h0:W.H₀ a=none
 ne:Free n W Γ σ a
 own:zce K Hi H a o
def oOf (K:W.Frag) (n:Nat) (t:TO'):TE:=fun σ H Q2=>∃ W Hi Γ Q,Good K n W Hi Γ σ H/\t Γ Q/\∀ a H' Hi' Γ' o,zaG Hi Hi'->Good K n W Hi' Γ' σ H'->New K n W Hi' Γ' σ H' a o->Q o Γ'->Q2 (.ref a) H'
def gOf (K:W.Frag) (n:Nat) (g:TG'):TG:=fun v σ H Q2=>∃ W Hi Γ d Q,Good K n W Hi Γ σ H/\Den K Hi v d/\g d Γ Q/\∀ σ' H' Hi' Γ',zaG Hi Hi'->Good K n W Hi' Γ' σ' H'->Q Γ'->Q2 σ' H'
def zrc (K:W.Frag) (H₀ Hi H:Hp) (v:V):Res->Prop
 | .val d=>Den K Hi v d
 | .own o=>∃ a,v=.ref a/\Hi a=none/\H₀ a=none/\zce K Hi H a o
 | .bk d o=>∃ b,Den K Hi v (d (.adr b))/\Hol K d/\Hi b=none/\H₀ b=none/\zce K Hi H b o
structure Lifts (K:W.Frag) (n:Nat) (W:Wd) (Hi:Hp) (N:Ends') (N2:Ends):Prop where
 nx:∀ σ' H' Hi' Γ',zaG Hi Hi'->Good K n W Hi' Γ' σ' H'->N.nx Γ'->N2.nx σ' H'
 bk:∀ σ' H' Hi' Γ',zaG Hi Hi'->Good K n W Hi' Γ' σ' H'->N.bk Γ'->N2.bk σ' H'
 ct:∀ σ' H' Hi' Γ',zaG Hi Hi'->Good K n W Hi' Γ' σ' H'->N.ct Γ'->N2.ct σ' H'
 rt:∀ v σ' H' Hi' Γ' r,zaG Hi Hi'->Good K n W Hi' Γ' σ' H'->zrc K W.H₀ Hi' H' v r->N.rt r Γ'->N2.rt v H'
theorem Lifts.mono {K:W.Frag} {n:Nat} {W:Wd} {Hi Hi':Hp} {N:Ends'} {N2:Ends} (l:Lifts K n W Hi N N2) (s:zaG Hi Hi'):Lifts K n W Hi' N N2 :=
 ⟨fun σ' H' Hi2 Γ' e=>l.nx σ' H' Hi2 Γ' (s.trans e),fun σ' H' Hi2 Γ' e=>l.bk σ' H' Hi2 Γ' (s.trans e),fun σ' H' Hi2 Γ' e=>l.ct σ' H' Hi2 Γ' (s.trans e),fun v σ' H' Hi2 Γ' r e=>l.rt v σ' H' Hi2 Γ' r (s.trans e)⟩
def sOf (K:W.Frag) (n:Nat) (t:TS'):TS:=fun N2 σ H=>∃ W Hi Γ N,Good K n W Hi Γ σ H/\t N Γ/\Lifts K n W Hi N N2
def ItD (K:W.Frag) (Hi:Hp) (J:It) (ds:List D):Prop:=∀ Hi' H',zaG Hi Hi'->Fz Hi' H' ->
 (∀ (i:Nat) d,ds[i]?=some d->J.go i H'/\∀ x H'',J.yld i H' x H''->∃ Hi'',Ext Hi' H' Hi'' H''/\Den K Hi'' x d)/\J.stop ds.length H'
def iOf (K:W.Frag) (n:Nat) (t:TI'):TI:=fun σ H R=>∃ W Hi Γ Q,Good K n W Hi Γ σ H/\t Γ Q/\∀ J H' Hi' Γ' ds,zaG Hi Hi'->Good K n W Hi' Γ' σ H'->ItD K Hi' J ds->Q ds Γ'->R J H'
structure PE' (X:Cx) (e:Expr) (t:TE'):Prop where
 h:PE X e (tOf X.K X.N.length t)
structure PO' (X:Cx) (e:Expr) (t:TO'):Prop where
 h:PE X e (oOf X.K X.N.length t)
structure PT' (X:Cx) (e:Expr) (t:TT'):Prop where
 h:PT X e (zpz X.K X.N.length t)
structure PW' (X:Cx) (e:Expr) (t:TT'):Prop where
 h:PW X e (zpz X.K X.N.length t)
def zfo:Expr->Bool
 | .Starred _ _=>true
 | _=>false
def zcA:List Expr->Bool
 | []=>true
 | e :: es=>!zfo e && zcA es
theorem zbO {e:Expr} {es:List Expr} {env:Env} (h:zfo e=false):starEach (e :: es) env=(false,eval e env) :: starEach es env:=by
 cases e <;> first | rfl | (exact yO (show true=false from h) Bool.noConfusion)
theorem zbU {pos:Pos} {env:Env}:∀ {es:List Expr},zcA es=true->(backTo pos (starEach es env)).any (·.1)=false
 | [],_=>rfl
 | e :: es,h=>by
  have h1:zfo e=false/\zcA es=true:=by
   unfold zcA at h
   simpa using h
  rw [zbO h1.1]
  show (false || (backTo pos (starEach es env)).any (·.1))=false
  rw [zbU h1.2]; rfl
theorem zbp {e:Expr} {es:List Expr} (h:zcA (e :: es)=true):zfo e=false/\zcA es=true:=by
 unfold zcA at h
 simpa using h
structure PA' (X:Cx) (es:List Expr) (t:TA'):Prop where
 pa:PA X es (zta X.K X.N.length t)
 pl:zcA es=true
structure PS' (X:Cx) (s:Stmt) (t:TS'):Prop where
 h:PS X s (sOf X.K X.N.length t)
structure PSs' (X:Cx) (s:List Stmt) (t:TS'):Prop where
 h:PSs X s (sOf X.K X.N.length t)
structure PG' (X:Cx) (tg:Expr) (g:TG'):Prop where
 h:PG X tg (gOf X.K X.N.length g)
structure PI' (X:Cx) (tg iter:Expr) (t:TI'):Prop where
 h:PI X tg iter (iOf X.K X.N.length t)
section
variable {X:Cx}
theorem PE.weak {e:Expr} {t t2:TE} (h:PE X e t) (w:∀ σ H Q,t2 σ H Q->t σ H Q):PE X e t2:=fun pins s σ H Q I q=>h pins s σ H Q I (w _ _ _ q)
theorem PT.weak {e:Expr} {t t2:TT} (h:PT X e t) (w:∀ σ H Q,t2 σ H Q->t σ H Q):PT X e t2:=fun pins s σ H Q I q=>h pins s σ H Q I (w _ _ _ q)
theorem PW.weak {e:Expr} {t t2:TT} (h:PW X e t) (w:∀ σ H Q,t2 σ H Q->t σ H Q):PW X e t2:=fun wh pins s σ H Q I q=>h wh pins s σ H Q I (w _ _ _ q)
theorem PA.weak {es:List Expr} {t t2:TA} (h:PA X es t) (w:∀ σ H Q,t2 σ H Q->t σ H Q):PA X es t2:=fun pos pins s σ H Q I q=>h pos pins s σ H Q I (w _ _ _ q)
theorem PS.weak {st:Stmt} {t t2:TS} (h:PS X st t) (w:∀ N σ H,t2 N σ H->t N σ H):PS X st t2:=fun pins s σ H N I q=>h pins s σ H N I (w _ _ _ q)
theorem PSs.weak {st:List Stmt} {t t2:TS} (h:PSs X st t) (w:∀ N σ H,t2 N σ H->t N σ H):PSs X st t2:=fun pins s σ H N I q=>h pins s σ H N I (w _ _ _ q)
theorem PG.weak {tg:Expr} {t t2:TG} (h:PG X tg t) (w:∀ v σ H Q,t2 v σ H Q->t v σ H Q):PG X tg t2:=fun pins s σ H v u Q I r q=>h pins s σ H v u Q I r (w _ _ _ _ q)
theorem PI.weak {tg iter:Expr} {t t2:TI} (h:PI X tg iter t) (w:∀ σ H Q,t2 σ H Q->t σ H Q):PI X tg iter t2:=fun pins s σ H Q I q=>h pins s σ H Q I (w _ _ _ q)
def zB (i:Nat):TE':=fun Γ Q=>∃ d,Γ[i]?=some (.val d)/\Q d Γ
def tC' (d:D):TE':=fun Γ Q=>Q d Γ
theorem pv' (i:Nat) {x:Str} {pos:Pos} (hN:X.N[i]?=some x:=by rfl) (hv:Vis X.env.scope x:=by first | exact Or.inl rfl | exact Or.inr (Or.inl rfl) | exact Or.inr (Or.inr rfl)) (hd:(x == ("__debug__":Str))=false:=by decide)
  (hcd:(x == ("__classdict__":Str))=false:=by decide):PE' X (.Name x pos) (zB i):=by
 refine ⟨PE.weak (zcB (i:=i) hN hv hd hcd) ?_⟩
 rintro σ H Q ⟨W,Hi,Γ,Q',g,⟨d,e,q⟩,fin⟩
 obtain ⟨v,h1,h2⟩:=g.val i d e; exact ⟨v,h1,fin v H ⟨Hi,d,Γ,zaG.refl _,g,h2,q⟩⟩
theorem zhz {e:Expr} {v:V} {d:D} (h:PE X e (tC v)) (r:∀ Hi,Den X.K Hi v d):PE' X e (tC' d):=by
 refine ⟨PE.weak h ?_⟩
 rintro σ H Q ⟨W,Hi,Γ,Q',g,q,fin⟩
 exact fin v H ⟨Hi,d,Γ,zaG.refl _,g,r Hi,q⟩
theorem zn {i j pos}:PE' X (.Constant (.int i) j pos) (tC' (.int i)):=zhz znp fun _=>.int i
theorem zcE {b j pos}:PE' X (.Constant (.bool b) j pos) (tC' (.bl b)):=zhz zsm fun _=>.bl b
theorem zfV {j pos}:PE' X (.Constant .none j pos) (tC' .non):=zhz zqq fun _=>.non
theorem zaB (l:List Nat) {x j pos} (h:x=st l:=by decide +kernel):PE' X (.Constant (.str x) j pos) (tC' (.str l)):=by
 subst h
 exact zhz zqn fun _=>.str l
theorem zqs {x:Str} {v:V} {u:Value} {d:D} {pos:Pos} (hm:X.mg x=some u) (r:za8 v u) (rd:∀ Hi,Den X.K Hi v d) (hg:Gl X x:=by rfl) (hd:(x == ("__debug__":Str))=false:=by decide):PE' X (.Name x pos) (tC' d):=zhz (zkl hg hm r hd) rd
theorem zkk {x:Str} {l:List Nat} {t:Tok} {pos:Pos} (hm:X.mg x=some (.str (st l) t)) (hg:Gl X x:=by rfl) (hd:(x == ("__debug__":Str))=false:=by decide):PE' X (.Name x pos) (tC' (.str l)):=zqs (v:=.str (st l)) hm ⟨_,rfl⟩ (fun _=>.str l) hg hd
theorem ziu {x:Str} {i:Int} {t:Tok} {pos:Pos} (hm:X.mg x=some (.int i t)) (hg:Gl X x:=by rfl) (hd:(x == ("__debug__":Str))=false:=by decide):PE' X (.Name x pos) (tC' (.int i)):=zqs (v:=.int i) hm ⟨_,rfl⟩ (fun _=>.int i) hg hd
theorem zcC {x:Str} {c:String} {pos:Pos} (hm:X.mg x=none) (hv:bootBuiltins x=some (.type c)) (hg:Gl X x:=by rfl) (hn:x≠"__name__":=by decide) (hd:(x == ("__debug__":Str))=false:=by decide):PE' X (.Name x pos) (tC' (.ty c)) :=
 zhz (zoG (v:=.ty c) hg hm hv rfl hn hd) fun _=>.ty c
def zam (t:TO'):TE':=fun Γ Q=>t Γ fun o Γ1=>Q o.toD Γ1
theorem zcD {e:Expr} {t:TO'} (h:PO' X e t):PE' X e (zam t):=by
 refine ⟨PE.weak h.h ?_⟩
 rintro σ H Q ⟨W,Hi,Γ,Q',g,q,fin⟩
 refine ⟨W,Hi,Γ,_,g,q,?_⟩; intro a H' Hi' Γ' o s1 g1 nw q1; obtain ⟨u,hu⟩:=nw.own.there; exact fin _ _ ⟨upd Hi' a u,_,Γ',s1.trans (zaO nw.hi u),g1.freezeA nw.hi nw.h0 nw.ne hu,nw.own.den nw.hi hu,q1⟩
abbrev R2':=D->D->(D->Prop)->Prop
def zhh (K:W.Frag) (r:R2) (r':R2'):Prop:=∀ (Hi H:Hp) (x y:V) (dx dy:D) (Q:D->Prop) (Q2:VK),Fz Hi H->Den K Hi x dx->Den K Hi y dy->r' dx dy Q->(∀ Hi' H' v d,Ext Hi H Hi' H'->Den K Hi' v d->Q d->Q2 v H')->r x y H Q2
def zaM (r:R2') (ta tb:TE'):TE':=fun Γ Q=>ta Γ fun x Γ1=>tb Γ1 fun y Γ2=>r x y fun d=>Q d Γ2
theorem zh9 {K:W.Frag} {n:Nat} {r:R2} {r':R2'} {ta tb:TE'} {σ:St} {H:Hp} {Q:VK} (l:zhh K r r') (h:tOf K n (zaM r' ta tb) σ H Q):tOp r (tOf K n ta) (tOf K n tb) σ H Q:=by
 obtain ⟨W,Hi,Γ,Q',g,h,fin⟩:=h; refine ⟨W,Hi,Γ,_,g,h,?_⟩
 rintro x H1 ⟨Hi1,dx,Γ1,s1,g1,den1,h1⟩
 refine ⟨W,Hi1,Γ1,_,g1,h1,?_⟩
 rintro y H2 ⟨Hi2,dy,Γ2,s2,g2,den2,h2⟩
 refine l Hi2 H2 x y dx dy _ _ g2.fz (den1.mono s2) den2 h2 ?_
 rintro Hi3 H3 v d e den q
 exact fin v H3 ⟨Hi3,d,Γ2,s1.trans (s2.trans e.hi),g2.ext e,den,q⟩
structure Op2 (X:Cx) (f:Value->Value->Sem Value) (r':R2'):Prop where
 ex:∃ r,OpR X f r/\zhh X.K r r'
theorem Op2.or {f:Value->Value->Sem Value} {r r':R2'} (h:Op2 X f r) (h':Op2 X f r'):Op2 X f (fun x y Q=>r x y Q\/r' x y Q):=by
 obtain ⟨a,ha,la⟩:=h.ex; obtain ⟨b,hb,lb⟩:=h'.ex
 refine ⟨_,ha.or hb,fun Hi H x y dx dy Q Q2 s d1 d2 q fin=>?_⟩
 rcases q with q | q
 ·exact .inl (la Hi H x y dx dy Q Q2 s d1 d2 q fin)
 ·exact .inr (lb Hi H x y dx dy Q Q2 s d1 d2 q fin)
theorem zae {a b:Expr} {op:Operator} {r':R2'} {ta tb:TE'} {pos:Pos} (h:Op2 X (binaryOp op) r') (ha:PE' X a ta) (hb:PE' X b tb):PE' X (.BinOp a op b pos) (zaM r' ta tb):=by
 obtain ⟨r,ho,l⟩:=h.ex
 exact ⟨PE.weak (zqo ho ha.h hb.h) fun σ H Q q=>zh9 l q⟩
theorem zcn {a b:Expr} {op:CmpOp} {r':R2'} {ta tb:TE'} {pos:Pos} (h:Op2 X (compareOp op) r') (ha:PE' X a ta) (hb:PE' X b tb) (hm:behindInMarks op b=false:=by first | exact znt _ | rfl):PE' X (.Compare a [op] [b] pos) (zaM r' ta tb):=by
 obtain ⟨r,ho,l⟩:=h.ex
 exact ⟨PE.weak (zoD ho ha.h hb.h hm) fun σ H Q q=>zh9 l q⟩
def tB' (t:TE'):TT':=fun Γ Q=>t Γ fun d Γ1=>∃ b,d=.bl b/\Q b Γ1
theorem zn0 {K:W.Frag} {n:Nat} {t:TE'} {σ:St} {H:Hp} {Q:Bool->Hp->Prop} (h:zpz K n (tB' t) σ H Q):tOf K n t σ H fun x H1=>∃ c,x=.bl c/\Q c H1:=by
 obtain ⟨W,Hi,Γ,Q',g,h,fin⟩:=h; refine ⟨W,Hi,Γ,_,g,h,?_⟩
 rintro x H1 ⟨Hi1,dx,Γ1,s1,g1,den1,b,rfl,h1⟩
 exact ⟨b,den1.blI,fin b H1 Hi1 Γ1 s1 g1 h1⟩
theorem zbs {e:Expr} {t:TE'} (h:PE' X e t) (he:∀ whole,isTrue e X.env whole=(do let v <- whole; standAt e.pos; holding [v] (truthy v)):=by intro _; rfl):PT' X e (tB' t) :=
 ⟨PT.weak (zqg h.h he) fun σ H Q q=>zn0 q⟩
theorem zaI {a b:Expr} {op:CmpOp} {r':R2'} {ta tb:TE'} {pos:Pos} (h:Op2 X (compareOp op) r') (ha:PE' X a ta) (hb:PE' X b tb) (hm:behindInMarks op b=false:=by first | exact znt _ | rfl):PT' X (.Compare a [op] [b] pos) (tB' (zaM r' ta tb)):=by
 obtain ⟨r,ho,l⟩:=h.ex
 exact ⟨PT.weak (zoi ho ha.h hb.h hm) fun σ H Q q=>zh9 l (zn0 q)⟩
def zao (t u:TT'):TT':=fun Γ Q=>t Γ fun c Γ1=>if c=true then u Γ1 Q else Q false Γ1
def zbc (t u:TT'):TT':=fun Γ Q=>t Γ fun c Γ1=>if c=true then Q true Γ1 else u Γ1 Q
def zac (t:TT'):TT':=fun Γ Q=>t Γ fun c Γ1=>Q (!c) Γ1
variable {a b c:Expr} {tA tB2:TT'} {zdP:List Expr} {pos:Pos} {ta tb:TE'}
theorem zfQ (ha:PT' X a tA):PW' X (.BoolOp .And [a] pos) tA:=⟨zoe ha.h⟩
theorem zey (ha:PT' X a tA):PW' X (.BoolOp .Or [a] pos) tA:=⟨zqd ha.h⟩
theorem zhw (ha:PT' X a tA) (hb:PW' X (.BoolOp .And (b :: zdP) pos) tB2):PW' X (.BoolOp .And (a :: b :: zdP) pos) (zao tA tB2):=by
 refine ⟨PW.weak (zqe ha.h hb.h) ?_⟩
 rintro σ H Q ⟨W,Hi,Γ,Q',g,h,fin⟩
 refine ⟨W,Hi,Γ,_,g,h,?_⟩; intro k H1 Hi1 Γ1 s1 g1 h1
 cases k with
 | true=>exact ⟨W,Hi1,Γ1,_,g1,h1,fun b H2 Hi2 Γ2 s2 g2 q=>fin b H2 Hi2 Γ2 (s1.trans s2) g2 q⟩
 | false=>exact fin false H1 Hi1 Γ1 s1 g1 h1
theorem zfh (ha:PT' X a tA) (hb:PW' X (.BoolOp .Or (b :: zdP) pos) tB2):PW' X (.BoolOp .Or (a :: b :: zdP) pos) (zbc tA tB2):=by
 refine ⟨PW.weak (zsi ha.h hb.h) ?_⟩
 rintro σ H Q ⟨W,Hi,Γ,Q',g,h,fin⟩
 refine ⟨W,Hi,Γ,_,g,h,?_⟩; intro k H1 Hi1 Γ1 s1 g1 h1
 cases k with
 | false=>exact ⟨W,Hi1,Γ1,_,g1,h1,fun b H2 Hi2 Γ2 s2 g2 q=>fin b H2 Hi2 Γ2 (s1.trans s2) g2 q⟩
 | true=>exact fin true H1 Hi1 Γ1 s1 g1 h1
theorem PW'.pt {e:Expr} {t:TT'} (h:PW' X e t):PT' X e t:=⟨h.h _⟩
theorem zbt (ha:PT' X a tA):PT' X (.UnaryOp .Not a pos) (zac tA):=by
 refine ⟨PT.weak (zqh ha.h) ?_⟩
 rintro σ H Q ⟨W,Hi,Γ,Q',g,h,fin⟩
 exact ⟨W,Hi,Γ,_,g,h,fun k H1 Hi1 Γ1 s1 g1 h1=>fin _ H1 Hi1 Γ1 s1 g1 h1⟩
def zH (ta tb:TE'):TE':=fun Γ Q=>ta Γ fun x Γ1=>∃ c,x=.bl c/\if c=true then tb Γ1 Q else Q (.bl false) Γ1
def zau (ta tb:TE'):TE':=fun Γ Q=>ta Γ fun x Γ1=>∃ c,x=.bl c/\if c=true then Q (.bl true) Γ1 else tb Γ1 Q
def zK (ta:TE'):TE':=fun Γ Q=>ta Γ fun x Γ1=>∃ c,x=.bl c/\Q (.bl (!c)) Γ1
theorem zb7 {op} (h:PE' X a ta):PE' X (.BoolOp op [a] pos) ta:=⟨zqp h.h⟩
theorem zbH (ha:PE' X a ta) (hb:PE' X (.BoolOp .And (b :: zdP) pos) tb):PE' X (.BoolOp .And (a :: b :: zdP) pos) (zH ta tb):=by
 refine ⟨PE.weak (zqu ha.h hb.h) ?_⟩
 rintro σ H Q ⟨W,Hi,Γ,Q',g,h,fin⟩
 refine ⟨W,Hi,Γ,_,g,h,?_⟩
 rintro x H1 ⟨Hi1,dx,Γ1,s1,g1,den1,k,rfl,h1⟩
 refine ⟨k,den1.blI,?_⟩
 cases k with
 | true=>exact ⟨W,Hi1,Γ1,_,g1,h1,fun v H2 ⟨Hi2,d,Γ2,s2,g2,d2,q⟩=>fin v H2 ⟨Hi2,d,Γ2,s1.trans s2,g2,d2,q⟩⟩
 | false=>exact fin _ H1 ⟨Hi1,_,Γ1,s1,g1,.bl false,h1⟩
def zbd (t:TT') (ta tb:TE'):TE':=fun Γ Q=>t Γ fun c Γ1=>if c=true then ta Γ1 Q else tb Γ1 Q
theorem zqr (hc:PT' X c tA) (ha:PE' X a ta) (hb:PE' X b tb):PE' X (.IfExp c a b pos) (zbd tA ta tb):=by
 refine ⟨PE.weak (zml hc.h ha.h hb.h) ?_⟩
 rintro σ H Q ⟨W,Hi,Γ,Q',g,h,fin⟩
 refine ⟨W,Hi,Γ,_,g,h,?_⟩; intro k H1 Hi1 Γ1 s1 g1 h1
 cases k with
 | true=>exact ⟨W,Hi1,Γ1,_,g1,h1,fun v H2 ⟨Hi2,d,Γ2,s2,g2,d2,q⟩=>fin v H2 ⟨Hi2,d,Γ2,s1.trans s2,g2,d2,q⟩⟩
 | false=>exact ⟨W,Hi1,Γ1,_,g1,h1,fun v H2 ⟨Hi2,d,Γ2,s2,g2,d2,q⟩=>fin v H2 ⟨Hi2,d,Γ2,s1.trans s2,g2,d2,q⟩⟩
def zR:TA':=fun Γ Q=>Q [] Γ
def zt (ta:TE') (tr:TA'):TA':=fun Γ Q=>ta Γ fun x Γ1=>tr Γ1 fun xs Γ2=>Q (x :: xs) Γ2
theorem zi:PA' X [] zR:=by
 refine ⟨PA.weak zfk ?_,rfl⟩
 rintro σ H Q ⟨W,Hi,Γ,Q',g,h,fin⟩
 exact fin [] H Hi Γ [] (zaG.refl _) g .nil h
theorem zc {e:Expr} {es:List Expr} {te:TE'} {t:TA'} (ha:PE' X e te) (hr:PA' X es t) (hs:zfo e=false:=by rfl):PA' X (e :: es) (zt te t):=by
 refine ⟨PA.weak (zdS ha.h hr.pa (zbO hs)) ?_,by unfold zcA; rw [hs,hr.pl]; rfl⟩
 rintro σ H Q ⟨W,Hi,Γ,Q',g,h,fin⟩
 refine ⟨W,Hi,Γ,_,g,h,?_⟩
 rintro x H1 ⟨Hi1,dx,Γ1,s1,g1,den1,h1⟩
 refine ⟨W,Hi1,Γ1,_,g1,h1,?_⟩; intro vs H2 Hi2 Γ2 ds s2 g2 dl q; exact fin (x :: vs) H2 Hi2 Γ2 (dx :: ds) (s1.trans s2) g2 (.cons (den1.mono s2) dl) q
def zab (t:TA'):TE':=fun Γ Q=>t Γ fun ds Γ1=>ds.length<=sizeLine/\Q (.tup ds) Γ1
theorem zaF {es:List Expr} {t:TA'} {x1} (h:PA' X es t):PE' X (.Tuple es x1 pos) (zab t):=by
 refine ⟨PE.weak (zno h.pa) ?_⟩
 rintro σ H Q ⟨W,Hi,Γ,Q',g,h,fin⟩
 refine ⟨W,Hi,Γ,_,g,h,?_⟩
 rintro vs H1 Hi1 Γ1 ds s1 g1 dl ⟨hl,q⟩
 refine ⟨by rw [zl dl]; exact hl,fun p hp=>?_⟩
 have e:=Ext.new g1.fz hp (.tup vs); exact fin _ _ ⟨_,_,Γ1,s1.trans e.hi,g1.ext e,Den.mkT zu (dl.mono e.hi),q⟩
theorem New.mk' {K:W.Frag} {n:Nat} {W:Wd} {Hi H:Hp} {Γ:Sts} {σ:St} {p:Addr} {u:HO} {o:OD} (g:Good K n W Hi Γ σ H) (hp:H p=none) (own:zce K Hi (upd H p u) p o):New K n W Hi Γ σ (upd H p u) p o:=by
 refine ⟨g.sub.free hp,?_,⟨fun j o' e z=>?_,fun j d xs e=>?_⟩,own⟩
 ·cases q:W.H₀ p with
  | none=>rfl
  | some w =>
   obtain ⟨w',hw⟩:=g.there p w q
   rw [hp] at hw; cases hw
 ·obtain ⟨a,h1,_,_,h4⟩:=g.own j o' e
  rw [z] at h1; cases h1; obtain ⟨w,hw⟩:=h4.there
  rw [hp] at hw; cases hw
 ·obtain ⟨w,hw⟩:=(g.bk j d p xs e).at_.there
  rw [hp] at hw; cases hw
def zak (t:TA'):TO':=fun Γ Q=>t Γ fun ds Γ1=>ds.length<=sizeLine/\Q (.lst ds) Γ1
theorem zeB {es:List Expr} {t:TA'} (h:PA' X es t):PO' X (.List es pos) (zak t):=by
 refine ⟨PE.weak (zkj h.pa) ?_⟩
 rintro σ H Q ⟨W,Hi,Γ,Q',g,h,fin⟩
 refine ⟨W,Hi,Γ,_,g,h,?_⟩
 rintro vs H1 Hi1 Γ1 ds s1 g1 dl ⟨hl,q⟩
 refine ⟨by rw [zl dl]; exact hl,fun p hp=>?_⟩
 exact fin p _ Hi1 Γ1 (.lst ds) s1 (g1.ext (Ext.newO g1.fz hp _ (fun _ z=>by cases z))) (New.mk' g1 hp ⟨vs,zu,dl⟩) q
abbrev RC':=List D->(D->Prop)->Prop
def zrd (K:W.Frag) (r:List V->Hp->VK->Prop) (r':RC'):Prop:=∀ (Hi H:Hp) (vs:List V) (ds:List D) (Q:D->Prop) (Q2:VK),Fz Hi H->zbv K Hi vs ds->r' ds Q->(∀ Hi' H' v d,Ext Hi H Hi' H'->Den K Hi' v d->Q d->Q2 v H')->r vs H Q2
structure Cal (X:Cx) (f:Value) (r':RC'):Prop where
 ex:∃ r,zcP X f r/\zrd X.K r r'
theorem Cal.or {f:Value} {r r':RC'} (h:Cal X f r) (h':Cal X f r'):Cal X f (fun x Q=>r x Q\/r' x Q):=by
 obtain ⟨a,ha,la⟩:=h.ex; obtain ⟨b,hb,lb⟩:=h'.ex
 refine ⟨_,ha.or hb,fun Hi H vs ds Q Q2 s d q fin=>?_⟩
 rcases q with q | q
 ·exact .inl (la Hi H vs ds Q Q2 s d q fin)
 ·exact .inr (lb Hi H vs ds Q Q2 s d q fin)
def za3 (r:RC') (t:TA'):TE':=fun Γ Q=>t Γ fun ds Γ1=>r ds fun d=>Q d Γ1
theorem znf {K:W.Frag} {n:Nat} {r:List V->Hp->VK->Prop} {r':RC'} {t:TA'} {σ:St} {H:Hp} {Q:VK} (l:zrd K r r') (h:tOf K n (za3 r' t) σ H Q):tCB r (zta K n t) σ H Q:=by
 obtain ⟨W,Hi,Γ,Q',g,h,fin⟩:=h; refine ⟨W,Hi,Γ,_,g,h,?_⟩; intro vs H1 Hi1 Γ1 ds s1 g1 dl h1; refine l Hi1 H1 vs ds _ _ g1.fz dl h1 ?_; intro Hi2 H2 v d e den q; exact fin v H2 ⟨Hi2,d,Γ1,s1.trans e.hi,g1.ext e,den,q⟩
variable {x:Str} {p:Pos} {e:Expr} {es:List Expr} {t:TA'} {id T:String}
theorem zO {r':RC'} (hc:Cal X (.builtin id) r') (hm:X.mg x=none) (hv:bootBuiltins x=some (.builtin id)) (ha:PA' X (e :: es) t) (hg:Gl X x:=by rfl) (hn:x≠"__name__":=by decide) (hdb:(x == ("__debug__":Str))=false:=by decide):PE' X (.Call (.Name x p) (e :: es) [] pos) (za3 r' t):=by
 obtain ⟨r,ho,l⟩:=hc.ex; obtain ⟨p1,p2⟩:=zbp ha.pl
 exact ⟨PE.weak (zmp ho hg hm hv ha.pa hn hdb (zbO p1) (zbU p2)) fun σ H Q q=>znf l q⟩
theorem zbB {r':RC'} (hc:Cal X (.type T) r') (hm:X.mg x=none) (hv:bootBuiltins x=some (.type T)) (ha:PA' X (e :: es) t) (hg:Gl X x:=by rfl) (hn:x≠"__name__":=by decide) (hdb:(x == ("__debug__":Str))=false:=by decide):PE' X (.Call (.Name x p) (e :: es) [] pos) (za3 r' t):=by
 obtain ⟨r,ho,l⟩:=hc.ex; obtain ⟨p1,p2⟩:=zbp ha.pl
 exact ⟨PE.weak (zko ho hg hm hv ha.pa hn hdb (zbO p1) (zbU p2)) fun σ H Q q=>znf l q⟩
end
section
variable {X:Cx} {a b c:Expr} {pos:Pos} {ta tb:TE'}
structure Ixs (X:Cx) (r':R2'):Prop where
 ex:∃ r,IxR X r/\zhh X.K r r'
theorem Ixs.or {r r':R2'} (h:Ixs X r) (h':Ixs X r'):Ixs X (fun x y Q=>r x y Q\/r' x y Q):=by
 obtain ⟨a,ha,la⟩:=h.ex; obtain ⟨b,hb,lb⟩:=h'.ex
 refine ⟨_,ha.or hb,fun Hi H x y dx dy Q Q2 s d1 d2 q fin=>?_⟩
 rcases q with q | q
 ·exact .inl (la Hi H x y dx dy Q Q2 s d1 d2 q fin)
 ·exact .inr (lb Hi H x y dx dy Q Q2 s d1 d2 q fin)
theorem zaK {r':R2'} (h:Ixs X r') (ha:PE' X a ta) (hb:PE' X b tb) (hs:zlk b:=by intro _ _; rfl):PE' X (.Subscript a b pos) (zaM r' ta tb):=by
 obtain ⟨r,ho,l⟩:=h.ex
 exact ⟨PE.weak (zsl ho ha.h hb.h hs) fun σ H Q q=>zh9 l q⟩
abbrev TP':=Sts->(Option Int->Sts->Prop)->Prop
def ztw (K:W.Frag) (n:Nat) (t:TP'):TO:=fun σ H Q2=>∃ W Hi Γ Q,Good K n W Hi Γ σ H/\t Γ Q/\∀ i H' Hi' Γ',zaG Hi Hi'->Good K n W Hi' Γ' σ H'->Q i Γ'->Q2 i H'
structure PB' (X:Cx) (e:Option Expr) (t:TP'):Prop where
 h:PO X e (ztw X.K X.N.length t)
def zY:TP':=fun Γ Q=>Q none Γ
def zaZ (t:TE'):TP':=fun Γ Q=>t Γ fun d Γ1=>∃ i,d=.int i/\Q (some i) Γ1
theorem PO.weak {e:Option Expr} {t t2:TO} (h:PO X e t) (w:∀ σ H Q,t2 σ H Q->t σ H Q):PO X e t2:=fun pins s σ H Q I q=>h pins s σ H Q I (w _ _ _ q)
theorem zgw:PB' X none zY:=by
 refine ⟨PO.weak zoo ?_⟩
 rintro σ H Q ⟨W,Hi,Γ,Q',g,h,fin⟩
 exact fin none H Hi Γ (zaG.refl _) g h
theorem zd4 {e:Expr} {te:TE'} (h:PE' X e te):PB' X (some e) (zaZ te):=by
 refine ⟨PO.weak (zon h.h) ?_⟩
 rintro σ H Q ⟨W,Hi,Γ,Q',g,h,fin⟩
 refine ⟨W,Hi,Γ,_,g,h,?_⟩
 rintro v H1 ⟨Hi1,d,Γ1,s1,g1,den,i,rfl,q⟩
 exact ⟨i,den.intI,fin _ H1 Hi1 Γ1 s1 g1 q⟩
abbrev RS':=D->Option Int->Option Int->(D->Prop)->Prop
def zs4 (K:W.Frag) (r:V->Option Int->Option Int->Hp->VK->Prop) (r':RS'):Prop:=∀ (Hi H:Hp) (x:V) (dx:D) (lo hi:Option Int) (Q:D->Prop) (Q2:VK),Fz Hi H->Den K Hi x dx->r' dx lo hi Q->(∀ Hi' H' v d,Ext Hi H Hi' H'->Den K Hi' v d->Q d->Q2 v H')->r x lo hi H Q2
structure Sli (X:Cx) (r':RS'):Prop where
 ex:∃ r,SlR X r/\zs4 X.K r r'
theorem Sli.or {r r':RS'} (h:Sli X r) (h':Sli X r'):Sli X (fun x lo hi Q=>r x lo hi Q\/r' x lo hi Q):=by
 obtain ⟨a,ha,la⟩:=h.ex; obtain ⟨b,hb,lb⟩:=h'.ex
 refine ⟨_,ha.or hb,fun Hi H x dx lo hi Q Q2 s d1 q fin=>?_⟩
 rcases q with q | q
 ·exact .inl (la Hi H x dx lo hi Q Q2 s d1 q fin)
 ·exact .inr (lb Hi H x dx lo hi Q Q2 s d1 q fin)
def zaY (r:RS') (te:TE') (tl th:TP'):TE':=fun Γ Q=>te Γ fun x Γ1=>tl Γ1 fun l Γ2=>th Γ2 fun u Γ3=>r x l u fun d=>Q d Γ3
theorem zc5 {e:Expr} {lo hi:Option Expr} {p2:Pos} {te:TE'} {tl th:TP'} {r':RS'} (h:Sli X r') (he:PE' X e te) (hl:PB' X lo tl) (hu:PB' X hi th):PE' X (.Subscript e (.Slice lo hi none p2) pos) (zaY r' te tl th):=by
 obtain ⟨r,ho,l⟩:=h.ex; refine ⟨PE.weak (zmk ho he.h hl.h hu.h) ?_⟩
 rintro σ H Q ⟨W,Hi,Γ,Q',g,h,fin⟩
 refine ⟨W,Hi,Γ,_,g,h,?_⟩
 rintro x H1 ⟨Hi1,dx,Γ1,s1,g1,den1,h1⟩
 refine ⟨W,Hi1,Γ1,_,g1,h1,?_⟩; intro i H2 Hi2 Γ2 s2 g2 h2; refine ⟨W,Hi2,Γ2,_,g2,h2,?_⟩; intro j H3 Hi3 Γ3 s3 g3 h3; refine l Hi3 H3 x dx i j _ _ g3.fz (den1.mono (s2.trans s3)) h3 ?_; intro Hi4 H4 v d e den q; exact fin v H4 ⟨Hi4,d,Γ3,s1.trans (s2.trans (s3.trans e.hi)),g3.ext e,den,q⟩
abbrev RM':=D->List D->(D->Prop)->Prop
def zs5 (K:W.Frag) (T:String) (r:V->List V->Hp->VK->Prop) (r':RM'):Prop:=∀ (Hi H:Hp) (x:V) (vs:List V) (dx:D) (ds:List D) (Q:D->Prop) (Q2:VK),Fz Hi H->Den K Hi x dx->zbv K Hi vs ds->r' dx ds Q->(∀ Hi' H' v d,Ext Hi H Hi' H'->Den K Hi' v d->Q d->Q2 v H')->r x vs H Q2
def tyD (T:String):D->Prop
 | .str _=>T="str"
 | .int _=>T="int"
 | .lst _=>T="list"
 | _=>False
theorem zpG {K:W.Frag} {Hi H:Hp} {x:V} {dx:D} (s:zaG Hi H) (den:Den K Hi x dx) (h:tyD T dx):tyV K T x H:=by
 cases den with
 | str l=>exact h
 | int i=>exact h
 | lst hq l r =>
  refine .inl ⟨h,_,zai s hq⟩
 | _=>exact h.elim
structure Met (X:Cx) (T:String) (id:String) (r':RM'):Prop where
 ex:∃ r,MtR X id r/\zs5 X.K T r r'
def zbe (T:String) (r:RM') (to:TE') (t:TA'):TE':=fun Γ Q=>to Γ fun x Γ1=>tyD T x/\t Γ1 fun ds Γ2=>r x ds fun d=>Q d Γ2
theorem zdr {o e:Expr} {es:List Expr} {to:TE'} {t:TA'} {name:Str} {apos cpos:Pos} {T id:String} {r':RM'} (h:Met X T id r') (pa:PlainAttrs T) (slot:PySem.Slot T name id) (hty:typeOf (.builtin id)=pure (.type "method_descriptor")) (ho:PE' X o to) (ha:PA' X (e :: es) t)
  (hbase:attributeBase o name X.env (eval o X.env)=eval o X.env:=by rfl) (hlen:(e :: es).length<30:=by decide)
  (hline:(apos.endLine == cpos.line)=true:=by rfl) :
  PE' X (.Call (.Attribute o name apos) (e :: es) [] cpos) (zbe T r' to t):=by
 obtain ⟨r,hm,l⟩:=h.ex; obtain ⟨p1,p2⟩:=zbp ha.pl
 have hfew:((backTo cpos (starEach (e :: es) X.env)).all (fun x=>!x.1) && (backToKw cpos (keywordEach [] X.env)).all (fun x=>x.1.isSome)
   && decide ((e :: es).length+([]:List Keyword).length+(if ([]:List Keyword).isEmpty then 0 else 1)<30))=true:=by
  have h1:(backTo cpos (starEach (e :: es) X.env)).all (fun x=>!x.1)=true:=by
   rw [yW]; intro y hy
   have:=zbU (pos:=cpos) (env:=X.env) ha.pl
   rw [List.any_eq_false] at this
   simpa using this y hy
  rw [h1,yp (by simpa using hlen)]
  rfl
 refine ⟨PE.weak (zoF pa slot hty hm ho.h ha.pa hbase hfew hline (zbO p1) (zbU p2)) ?_⟩
 rintro σ H Q ⟨W,Hi,Γ,Q',g,h,fin⟩
 refine ⟨W,Hi,Γ,_,g,h,?_⟩
 rintro x H1 ⟨Hi1,dx,Γ1,s1,g1,den1,ty,h1⟩
 refine ⟨zpG g1.sub den1 ty,W,Hi1,Γ1,_,g1,h1,?_⟩; intro vs H2 Hi2 Γ2 ds s2 g2 dl h2; refine l Hi2 H2 x vs dx ds _ _ g2.fz (den1.mono s2) dl h2 ?_; intro Hi3 H3 v d e den q; exact fin v H3 ⟨Hi3,d,Γ2,s1.trans (s2.trans e.hi),g2.ext e,den,q⟩
def zw:TS':=fun N Γ=>N.nx Γ
def zX (t u:TS'):TS':=fun N Γ=>t { N with nx:=u N } Γ
theorem zay:PSs' X [] zw:=by
 refine ⟨PSs.weak zoj ?_⟩
 rintro N2 σ H ⟨W,Hi,Γ,N,g,h,l⟩
 exact l.nx σ H Hi Γ (zaG.refl _) g h
theorem zj {s:Stmt} {zdP:List Stmt} {t u:TS'} (h1:PS' X s t) (h2:PSs' X zdP u):PSs' X (s :: zdP) (zX t u):=by
 refine ⟨PSs.weak (zfR h1.h h2.h) ?_⟩
 rintro N2 σ H ⟨W,Hi,Γ,N,g,h,l⟩
 refine ⟨W,Hi,Γ,_,g,h,?_,l.bk,l.ct,l.rt⟩; intro σ1 H1 Hi1 Γ1 s1 g1 q; exact ⟨W,Hi1,Γ1,N,g1,q,l.mono s1⟩
theorem zk {s:Stmt} {t:TS'} (h1:PS' X s t):PSs' X [s] t:=⟨zka h1.h⟩
def zQ (te:TE'):TS':=fun N Γ=>te Γ fun d Γ1=>N.rt (.val d) Γ1
def zD (te:TO'):TS':=fun N Γ=>te Γ fun o Γ1=>N.rt (.own o) Γ1
theorem zP {e:Expr} {te:TE'} (he:PE' X e te):PS' X (.Return (some e) pos) (zQ te):=by
 refine ⟨PS.weak (zkc he.h) ?_⟩
 rintro N2 σ H ⟨W,Hi,Γ,N,g,h,l⟩
 refine ⟨W,Hi,Γ,_,g,h,?_⟩
 rintro v H1 ⟨Hi1,d,Γ1,s1,g1,den,q⟩
 exact l.rt v σ H1 Hi1 Γ1 (.val d) s1 g1 den q
theorem zis {e:Expr} {te:TO'} (he:PO' X e te):PS' X (.Return (some e) pos) (zD te):=by
 refine ⟨PS.weak (zkc he.h) ?_⟩
 rintro N2 σ H ⟨W,Hi,Γ,N,g,h,l⟩
 refine ⟨W,Hi,Γ,_,g,h,?_⟩; intro a H1 Hi1 Γ1 o s1 g1 nw q; exact l.rt _ σ H1 Hi1 Γ1 (.own o) s1 g1 ⟨a,rfl,nw.hi,nw.h0,nw.own⟩ q
def zC (n i:Nat):TS':=fun N Γ=>i<n/\∃ o,Γ[i]?=some (.own o)/\N.rt (.own o) Γ
theorem zir (i:Nat) {x:Str} {p:Pos} (hN:X.N[i]?=some x:=by rfl) (hv:Vis X.env.scope x:=by first | exact Or.inl rfl | exact Or.inr (Or.inl rfl) | exact Or.inr (Or.inr rfl)) (hd:(x == ("__debug__":Str))=false:=by decide)
  (hcd:(x == ("__classdict__":Str))=false:=by decide):PS' X (.Return (some (.Name x p)) pos) (zC X.N.length i):=by
 refine ⟨PS.weak (zkc (zcB (i:=i) hN hv hd hcd)) ?_⟩
 rintro N2 σ H ⟨W,Hi,Γ,N,g,⟨hi,o,e,q⟩,l⟩
 obtain ⟨a,h1,h2,h3,h4⟩:=g.own i o e; unfold adr at h1; rw [yR hi] at h1; exact ⟨.ref a,zff h1,l.rt _ σ H Hi Γ (.own o) (zaG.refl _) g ⟨a,rfl,h2,h3 hi,h4⟩ q⟩
def zU (c:TT') (t u:TS'):TS':=fun N Γ=>c Γ fun b Γ1=>if b=true then t N Γ1 else u N Γ1
theorem za1 {c:Expr} {sa sb:List Stmt} {tc:TT'} {t u:TS'} (hc:PT' X c tc) (ha:PSs' X sa t) (hb:PSs' X sb u):PS' X (.If c sa sb pos) (zU tc t u):=by
 refine ⟨PS.weak (zsj hc.h ha.h hb.h) ?_⟩
 rintro N2 σ H ⟨W,Hi,Γ,N,g,h,l⟩
 refine ⟨W,Hi,Γ,_,g,h,?_⟩; intro k H1 Hi1 Γ1 s1 g1 q
 cases k with
 | true=>exact ⟨W,Hi1,Γ1,N,g1,q,l.mono s1⟩
 | false=>exact ⟨W,Hi1,Γ1,N,g1,q,l.mono s1⟩
def zL (te:TE'):TS':=fun N Γ=>te Γ fun _ Γ1=>N.nx Γ1
def zr (i:Nat):TG':=fun d Γ Q=>Q (Γ.set i (.val d))
theorem zaA (i:Nat) {x:Str} (hN:X.N.Nodup) (hi:X.N[i]?=some x:=by rfl) (hx:Loc X.env.scope x:=by first | exact Or.inl rfl | exact Or.inr rfl) (hf:X.fn x=true\/X.env.scope.names.lookup x=some .local:=by first | exact .inl rfl | exact .inr rfl | assumption):PG' X (.Name x pos) (zr i):=by
 refine ⟨PG.weak (zox (i:=i) hN hi hx hf) ?_⟩
 rintro v σ H Q ⟨W,Hi,Γ,d,Q',g,den,q,fin⟩
 exact fin _ H Hi _ (zaG.refl _) (g.set (yG.mp hi).1 den) q
def zV (te:TE') (g:TG'):TS':=fun N Γ=>te Γ fun d Γ1=>g d Γ1 N.nx
theorem zax (i:Nat) {x:Str} {e:Expr} {te:TE'} {pos':Pos} (hN:X.N.Nodup) (he:PE' X e te) (hi:X.N[i]?=some x:=by rfl) (hx:Loc X.env.scope x:=by first | exact Or.inl rfl | exact Or.inr rfl) (hs:swapsWith e (some (.Name x pos')) pos.line X.env=pure false:=by rfl)
  (hf:X.fn x=true\/X.env.scope.names.lookup x=some .local:=by first | exact .inl rfl | exact .inr rfl | assumption):PS' X (.Assign [.Name x pos'] e pos) (zV te (zr i)):=by
 refine ⟨PS.weak (zkb (i:=i) hN hi hx he.h hs hf) ?_⟩
 rintro N2 σ H ⟨W,Hi,Γ,N,g,h,l⟩
 refine ⟨W,Hi,Γ,_,g,h,?_⟩
 rintro v H1 ⟨Hi1,d,Γ1,s1,g1,den,q⟩
 exact l.nx _ H1 Hi1 _ s1 (g1.set (yG.mp hi).1 den) q
def zG (te:TO') (i:Nat):TS':=fun N Γ=>te Γ fun o Γ1=>N.nx (Γ1.set i (.own o))
theorem zcY (i:Nat) {x:Str} {e:Expr} {te:TO'} {pos':Pos} (hN:X.N.Nodup) (he:PO' X e te) (hi:X.N[i]?=some x:=by rfl) (hx:Loc X.env.scope x:=by first | exact Or.inl rfl | exact Or.inr rfl) (hs:swapsWith e (some (.Name x pos')) pos.line X.env=pure false:=by rfl)
  (hf:X.fn x=true\/X.env.scope.names.lookup x=some .local:=by first | exact .inl rfl | exact .inr rfl | assumption):PS' X (.Assign [.Name x pos'] e pos) (zG te i):=by
 refine ⟨PS.weak (zkb (i:=i) hN hi hx he.h hs hf) ?_⟩
 rintro N2 σ H ⟨W,Hi,Γ,N,g,h,l⟩
 refine ⟨W,Hi,Γ,_,g,h,?_⟩; intro a H1 Hi1 Γ1 o s1 g1 nw q; exact l.nx _ H1 Hi1 _ s1 (g1.setO (yG.mp hi).1 nw.hi nw.h0 nw.ne nw.own) q
def zd2 (g:TG') (tb:TS') (N:Ends'):List D->Sts->Prop
 | [],Γ=>N.nx Γ
 | d :: ds,Γ=>g d Γ fun Γ2=>tb { N with nx:=zd2 g tb N ds,ct:=zd2 g tb N ds,bk:=N.nx } Γ2
def zag (ti:TI') (g:TG') (tb:TS'):TS':=fun N Γ=>ti Γ fun ds Γ1=>zd2 g tb N ds Γ1
theorem zcm {tg iter:Expr} {body:List Stmt} {ti:TI'} {g:TG'} {tb:TS'} (hi:PI' X tg iter ti) (hg:PG' X tg g) (hb:PSs' X body tb) (hp:PassesOwn (model X.prog X.w) X.A X.env X.xe:=by exact PassesOwn.never) (hc:X.calm=true:=by rfl)
  (hs:∀ x,foldedSetIterable iter X.env x=pure x:=by intro _; rfl):PS' X (.For tg iter body [] pos) (zag ti g tb):=by
 refine ⟨PS.weak (znm hp hc hi.h hg.h hb.h hs) ?_⟩
 rintro N2 σ H ⟨W,Hi,Γ,N,gd,h,l⟩
 refine ⟨W,Hi,Γ,_,gd,h,?_⟩; intro J H1 Hi1 Γ1 ds s1 g1 itd q
 refine ⟨fun i m σ' H'=>m=ds.length-i/\i<=ds.length/\∃ Hi' Γ',zaG Hi1 Hi'/\Good X.K X.N.length W Hi' Γ' σ' H'/\zd2 g tb N (ds.drop i) Γ',⟨ds.length,by simp,yf _,Hi1,Γ1,zaG.refl _,g1,by simpa using q⟩,?_⟩
 rintro i m σ' H' ⟨rfl,hi',Hi',Γ',s2,g2,q2⟩
 have wk:=itd Hi' H' s2 g2.fz
 by_cases hlt:i<ds.length
 ·have hd:ds.drop i=ds[i] :: ds.drop (i+1):=YK hlt
  rw [hd] at q2; obtain ⟨go,yl⟩:=wk.1 i ds[i] (yB hlt)
  refine .inr ⟨go,fun σ3 H3=>∃ Hi3 Γ3,zaG Hi' Hi3/\Good X.K X.N.length W Hi3 Γ3 σ3 H3/\zd2 g tb N (ds.drop (i+1)) Γ3,fun σ3 H3 ⟨Hi3,Γ3,s3,g3,q3⟩=>⟨ds.length-(i+1),by omega,rfl,hlt,Hi3,Γ3,s2.trans s3,g3,q3⟩,fun x H'' y=>?_⟩
  obtain ⟨Hi'',ex,den⟩:=yl x H'' y; refine ⟨W,Hi'',Γ',ds[i],_,g2.ext ex,den,q2,?_⟩; intro σ4 H4 Hi4 Γ4 s4 g4 q4
  have sx:zaG Hi' Hi4:=ex.hi.trans s4
  refine ⟨W,Hi4,Γ4,_,g4,q4,?_⟩
  refine ⟨fun σ5 H5 Hi5 Γ5 s5 g5 q5=>⟨Hi5,Γ5,sx.trans s5,g5,q5⟩,fun σ5 H5 Hi5 Γ5 s5 g5 q5=>l.nx σ5 H5 Hi5 Γ5 (s1.trans (s2.trans (sx.trans s5))) g5 q5,fun σ5 H5 Hi5 Γ5 s5 g5 q5=>⟨Hi5,Γ5,sx.trans s5,g5,q5⟩,fun v σ5 H5 Hi5 Γ5 r s5 g5 ro q5=>l.rt v σ5 H5 Hi5 Γ5 r (s1.trans (s2.trans (sx.trans s5))) g5 ro q5⟩
 ·have e:i=ds.length:=by omega
  subst e; rw [YQ (yF _)] at q2; exact .inl ⟨wk.2,l.nx σ' H' Hi' Γ' (s1.trans s2) g2 q2⟩
def zjL (c:TT') (tb:TS'):TS':=fun N Γ=>∃ Wv:Nat->Sts->Prop,(∃ m,Wv m Γ)/\∀ m Γ,Wv m Γ->c Γ fun b Γ1=>if b=true then tb { N with nx:=fun Γ2=>∃ m',m'<m/\Wv m' Γ2,ct:=fun Γ2=>∃ m',m'<m/\Wv m' Γ2,bk:=N.nx } Γ1 else N.nx Γ1
theorem zez {c:Expr} {body:List Stmt} {tc:TT'} {tb:TS'} (hc:PT' X c tc) (hb:PSs' X body tb) (hp:PassesOwn (model X.prog X.w) X.A X.env X.xe:=by exact PassesOwn.never):PS' X (.While c body [] pos) (zjL tc tb):=by
 refine ⟨PS.weak (zma hp hc.h hb.h) ?_⟩
 rintro N2 σ H ⟨W,Hi,Γ,N,gd,⟨Wv,⟨m0,w0⟩,turn⟩,l⟩
 refine ⟨fun m σ' H'=>∃ Hi' Γ',zaG Hi Hi'/\Good X.K X.N.length W Hi' Γ' σ' H'/\Wv m Γ',⟨m0,Hi,Γ,zaG.refl _,gd,w0⟩,?_⟩
 rintro m σ' H' ⟨Hi',Γ',s1,g1,w1⟩
 refine ⟨W,Hi',Γ',_,g1,turn m Γ' w1,?_⟩; intro k H1 Hi1 Γ1 s2 g2 q
 cases k with
 | false=>exact l.nx σ' H1 Hi1 Γ1 (s1.trans s2) g2 q
 | true =>
  refine ⟨fun σ3 H3=>∃ m',m'<m/\∃ Hi3 Γ3,zaG Hi Hi3/\Good X.K X.N.length W Hi3 Γ3 σ3 H3/\Wv m' Γ3,fun σ3 H3 z=>z,W,Hi1,Γ1,_,g2,q,?_⟩
  refine ⟨fun σ5 H5 Hi5 Γ5 s5 g5 ⟨m',hm,q5⟩=>⟨m',hm,Hi5,Γ5,s1.trans (s2.trans s5),g5,q5⟩,fun σ5 H5 Hi5 Γ5 s5 g5 q5=>l.nx σ5 H5 Hi5 Γ5 (s1.trans (s2.trans s5)) g5 q5,fun σ5 H5 Hi5 Γ5 s5 g5 ⟨m',hm,q5⟩=>⟨m',hm,Hi5,Γ5,s1.trans (s2.trans s5),g5,q5⟩,fun v σ5 H5 Hi5 Γ5 r s5 g5 ro q5=>l.rt v σ5 H5 Hi5 Γ5 r (s1.trans (s2.trans s5)) g5 ro q5⟩
theorem zmW {K:W.Frag} {Hi:Hp} {a:Addr} {vs:List V} {ds:List D} (h:SqL K Hi a vs) (r:zbv K Hi vs ds):ItD K Hi (Itl K a) ds:=by
 intro Hi' H' s1 s2
 have hq:SqL K H' a vs:=zai (s1.trans s2.sub) h
 refine ⟨fun i d e=>?_,vs,hq,by rw [zl r]; exact yF _⟩
 obtain ⟨v,e1,e2⟩:=zaT r e; refine ⟨⟨vs,v,hq,e1⟩,?_⟩
 rintro x H'' ⟨rfl,y⟩
 have:=y vs hq
 rw [e1] at this; cases this; exact ⟨Hi',Ext.refl s2,e2.mono s1⟩
theorem zo9 {K:W.Frag} {Hi:Hp} {a:Addr} {vs:List V} {ds:List D} (h:SqT K Hi a vs) (r:zbv K Hi vs ds):ItD K Hi (Itt K a) ds:=by
 intro Hi' H' s1 s2
 have hq:SqT K H' a vs:=zaz (s1.trans s2.sub) h
 refine ⟨fun i d e=>?_,vs,hq,by rw [zl r]; exact yF _⟩
 obtain ⟨v,e1,e2⟩:=zaT r e; refine ⟨⟨vs,v,hq,e1⟩,?_⟩
 rintro x H'' ⟨rfl,y⟩
 have:=y vs hq
 rw [e1] at this; cases this; exact ⟨Hi',Ext.refl s2,e2.mono s1⟩
theorem zpa {K:W.Frag} {Hi:Hp} (l:List Nat):ItD K Hi (Its l) (l.map fun c=>.str [c]):=by
 intro Hi' H' s1 s2
 refine ⟨fun i d e=>?_,by rw [yE]; rfl⟩
 rw [yJ] at e
 cases hc:l[i]? with
 | none=>rw [hc] at e; cases e
 | some c =>
  rw [hc] at e; cases e; refine ⟨(yG.mp hc).1,?_⟩
  rintro x H'' ⟨rfl,c',e',rfl⟩
  rw [hc] at e'; cases e'; exact ⟨Hi',Ext.refl s2,.str [c]⟩
theorem zpc {K:W.Frag} {Hi:Hp} (lo:Int) (n:Nat):ItD K Hi (Itr lo n) ((List.range n).map fun k=>.int (lo+(k:Nat))):=by
 intro Hi' H' s1 s2
 refine ⟨fun i d e=>?_,by rw [yE,List.length_range]; exact yF _⟩
 rw [yJ] at e
 cases hc:(List.range n)[i]? with
 | none=>rw [hc] at e; cases e
 | some c =>
  rw [hc] at e; cases e
  have hi:i<n:=by
   have:=(yG.mp hc).1
   rwa [List.length_range] at this
  have ec:c=i:=by
   rw [List.getElem?_range hi] at hc; exact (Option.some.inj hc).symm
  subst ec; refine ⟨hi,?_⟩
  rintro x H'' ⟨rfl,rfl⟩
  exact ⟨Hi',Ext.refl s2,.int _⟩
def zpS:D->Option (List D)
 | .lst ds=>some ds
 | .tup ds=>some ds
 | .str l=>some (l.map fun c=>.str [c])
 | _=>none
def zap (t:TE'):TI':=fun Γ Q=>t Γ fun d Γ1=>∃ ds,zpS d=some ds/\Q ds Γ1
theorem zos {l tg:Expr} {tl:TE} (hl:PE X l tl):PI X tg l (fun σ H R=>tl σ H fun x H1=>(∃ a,x=.ref a/\(∃ xs,SqL X.K H1 a xs)/\R (Itl X.K a) H1)\/(∃ a,x=.ref a/\(∃ xs,SqT X.K H1 a xs)/\R (Itt X.K a) H1)\/(∃ z,x=.str z/\R (Its z.cps.toList) H1)):=by
 intro pins s σ H R I h
 refine thn (hl pins s σ H _ I h) fun v s1 ⟨x,H1,I1,r1,q1⟩=>?_
 have fin:∀ b ∈ [s1.heap.objs.size],zge X pins H1 b:=fun b hb=>by
  have e:b=s1.heap.objs.size:=by simpa using hb
  subst e; exact I1.fpOk (yF _) (I1.hok.fresh (yF _))
 rcases q1 with ⟨a,rfl,⟨xs,hq⟩,q⟩ | ⟨a,rfl,⟨xs,hq⟩,q⟩ | ⟨z,rfl,q⟩
 ·cases r1
  obtain ⟨its,rv,p,hz⟩:=I1.list hq; refine wpAny_pyIter_list p.isList ?_
  exact ⟨s1.heap.objs.size,[s1.heap.objs.size],_,_,H1,rfl,I1.kept (t':=s1.toks) fun b o e=>yC _ e,zjI a _,⟨_,yI _ rfl,rfl,rfl⟩,fin,q⟩
 ·cases r1
  obtain ⟨its,rv,p,hz⟩:=I1.tuple hq
  refine wpAny_pyIter_tuple (show s1.heap.IsTuple a its.toArray from p) ?_
  exact ⟨s1.heap.objs.size,[s1.heap.objs.size],_,_,H1,rfl,I1.kept (t':=s1.toks) fun b o e=>yC _ e,ziW a _,⟨_,yI _ rfl,rfl,rfl⟩,fin,q⟩
 ·obtain ⟨t,rfl⟩:=r1
  cases ha:z.cps.all (·<128)
  ·refine wpAny_pyIter_wide ha ?_
   exact ⟨s1.heap.objs.size,[s1.heap.objs.size],_,_,H1,rfl,I1.kept (t':=s1.toks) fun b o e=>yC _ e,zh7 z t _ (.inr rfl),⟨_,yI _ rfl,rfl,rfl⟩,fin,q⟩
  ·refine wpAny_pyIter_ascii ha ?_
   exact ⟨s1.heap.objs.size,[s1.heap.objs.size],_,_,H1,rfl,I1.kept (t':=s1.toks) fun b o e=>yC _ e,zh7 z t _ (.inl rfl),⟨_,yI _ rfl,rfl,rfl⟩,fin,q⟩
theorem zbG {l tg:Expr} {t:TE'} (hl:PE' X l t):PI' X tg l (zap t):=by
 refine ⟨PI.weak (zos hl.h) ?_⟩
 rintro σ H R ⟨W,Hi,Γ,Q',g,h,fin⟩
 refine ⟨W,Hi,Γ,_,g,h,?_⟩
 rintro v H1 ⟨Hi1,d,Γ1,s1,g1,den,ds,e,q⟩
 cases d with
 | lst es =>
  cases e; obtain ⟨a,vs,rfl,h1,h2⟩:=den.lstI; exact .inl ⟨a,rfl,⟨vs,zai g1.sub h1⟩,fin _ H1 Hi1 Γ1 _ s1 g1 (zmW h1 h2) q⟩
 | tup es =>
  cases e; obtain ⟨a,vs,rfl,h1,h2⟩:=den.tupI; exact .inr (.inl ⟨a,rfl,⟨vs,zaz g1.sub h1⟩,fin _ H1 Hi1 Γ1 _ s1 g1 (zo9 h1 h2) q⟩)
 | str l =>
  cases e; refine .inr (.inr ⟨_,den.strI,?_⟩); rw [zaE]; exact fin _ H1 Hi1 Γ1 _ s1 g1 (zpa l) q
 | _=>cases e
def zI (t:TA'):TI':=fun Γ Q=>t Γ fun ds Γ1=>∃ j:Int,ds=[.int j]/\-(2 ^ 62)<=j/\j<2 ^ 62/\Q ((List.range j.toNat).map fun k=>.int (0+(k:Nat))) Γ1
theorem zcK {K:W.Frag} {H:Hp} {vs:List V} {d:D} (h:zbv K H vs [d]):∃ v,vs=[v]/\Den K H v d:=by
 cases h with
 | cons r t=>cases t; exact ⟨_,rfl,r⟩
theorem zjv {K:W.Frag} {H:Hp} {vs:List V} {d e:D} (h:zbv K H vs [d,e]):∃ v w,vs=[v,w]/\Den K H v d/\Den K H w e:=by
 cases h with
 | cons r t =>
  obtain ⟨w,rfl,q⟩:=zcK t; exact ⟨_,w,rfl,r,q⟩
theorem zfj {a tg:Expr} {t:TA'} {p pos:Pos} (hm:X.mg "range"=none) (ha:PA' X [a] t) (hg:Gl X "range":=by rfl):PI' X tg (.Call (.Name "range" p) [a] [] pos) (zI t):=by
 refine ⟨PI.weak (zki hg hm ha.pa (zbO (zbp ha.pl).1)) ?_⟩
 rintro σ H R ⟨W,Hi,Γ,Q',g,h,fin⟩
 refine ⟨W,Hi,Γ,_,g,h,?_⟩
 rintro vs H1 Hi1 Γ1 ds s1 g1 dl ⟨j,rfl,b1,b2,q⟩
 obtain ⟨v,rfl,den⟩:=zcK dl; rw [den.intI]; exact ⟨j,rfl,b1,b2,fin _ H1 Hi1 Γ1 _ s1 g1 (zpc 0 _) q⟩
def zlx (src:List (Option Nat)) (Γ:Sts):Sts:=src.map fun o=>match o with
 | none=>.emp
 | some i=>match Γ[i]? with
  | some (.val d)=>.val d
  | _=>.emp
def voS:Slot->Slot
 | .val d=>.val d
 | _=>.emp
def vo (Γ:Sts):Sts:=Γ.map voS
def zd7 (g:TG') (tc:TT') (te:TE') (Q:List D->Prop):List D->List D->Sts->Prop
 | [],acc,_=>Q acc
 | d :: ds,acc,Γ=>g d Γ fun Γ2=>tc Γ2 fun b Γ3=>if b=true then te Γ3 fun y Γ4=>zd7 g tc te Q ds (acc ++ [y]) (vo Γ4) else zd7 g tc te Q ds acc (vo Γ3)
def zA (ti:TI') (src:List (Option Nat)) (g:TG') (tc:TT') (te:TE'):TO':=fun Γ Q=>ti Γ fun ds Γ1=>ds.length<=sizeLine/\zd7 g tc te (fun acc=>Q (.lst acc) Γ1) ds [] (zlx src Γ1)
structure PTs' (X:Cx) (ifs:List Expr) (t:TT'):Prop where
 h:PTs X ifs (zpz X.K X.N.length t)
def zaX:TT':=fun Γ Q=>Q true Γ
theorem zb3:PTs' X [] zaX:=by
 refine ⟨?_⟩; intro pins s σ H Q I h; obtain ⟨W,Hi,Γ,Q',g,h,fin⟩:=h; exact zoh pins s σ H Q I (fin true H Hi Γ (zaG.refl _) g h)
theorem zl8 {c:Expr} {t:TT'} (h:PT' X c t):PTs' X [c] t:=⟨zog h.h⟩
theorem zdh {elt tg iter:Expr} {ifs:List Expr} {sc fsc:Scope} {ti:TI'} {g:TG'} {tc:TT'} {te:TE'} {N N':List Str} {src:List (Option Nat)} (B:Blk N N' src fsc sc) (hi:PI' X tg iter ti)
  (hg:∀ cl C s H fp pn,PG' (blk X N' sc cl C s H fp pn) tg g) (ht:∀ cl C s H fp pn,PTs' (blk X N' sc cl C s H fp pn) ifs tc) (he:∀ cl C s H fp pn,PE' (blk X N' sc cl C s H fp pn) elt te)
  (hx:X.xe=(fun _ _=>False):=by rfl) (hc:X.calm=true:=by rfl) (hN:X.N=N:=by rfl) (hs:X.env.scope=fsc:=by rfl)
  (hf:∀ x,foldedSetIterable iter X.env x=pure x:=by intro _; rfl):PO' X (.ListComp elt [⟨tg,iter,ifs,0⟩] sc pos) (zA ti src g tc te):=by
 refine ⟨PE.weak (zoC (g:=gOf X.K N'.length g) (tc:=zpz X.K N'.length tc) (te:=tOf X.K N'.length te) B hi.h (fun a b c d e f=>(hg a b c d e f).h) (fun a b c d e f=>(ht a b c d e f).h) (fun a b c d e f=>(he a b c d e f).h) hx hc hN hs hf) ?_⟩
 rintro σ H Q2 ⟨W,Hi,Γ,Q,gd,h,fin⟩
 refine ⟨W,Hi,Γ,_,gd,h,?_⟩
 rintro J H1 Hi1 Γ1 ds s1 g1 itd ⟨hlen,q⟩
 intro A hA
 -- the state between two turns
 have hn':src.length=N'.length:=B.len
 refine zg2 (n:=ds.length) (fun i σ' H'=>∃ Hi' acc vs Γ',zaG Hi1 Hi'/\Fz Hi' H'/\(∀ b o,H1 b=some o->H' b=some o)/\(∀ b o,H1 b=some o->Hi' b=Hi1 b)/\Hi' A=none/\H' A=some (.lst vs)/\zbv X.K Hi' vs acc/\vs.length<=i/\σ'.length=N'.length /\
   (∀ (j:Nat) s,Γ'[j]?=some s->s=.emp\/∃ d,s=.val d/\∃ v,σ'[j]?=some (some v)/\Den X.K Hi' v d)/\zd7 g tc te (fun acc=>Q (.lst acc) Γ1) (ds.drop i) acc Γ') ?_ ?_ ?_
 ·refine ⟨Hi1,[],[],zlx src Γ1,zaG.refl _,(Ext.newO g1.fz hA _ (fun _ z=>by cases z)).fz,fun b o e=>zaO hA _ b o e,fun b o e=>rfl,g1.sub.free hA,zu,.nil,yf _,?_,fun j s e=>?_,by simpa using q⟩
  ·unfold zlQ; rw [yE,hn']
  ·unfold zlx at e
   rw [yJ] at e
   cases hj:src[j]? with
   | none=>rw [hj] at e; cases e
   | some o =>
    rw [hj] at e
    cases o with
    | none=>cases e; exact .inl rfl
    | some i =>
     have e':(match Γ1[i]? with | some (.val d)=>Slot.val d | _=>.emp)=s:=Option.some.inj e
     cases hΓ:Γ1[i]? with
     | none=>rw [hΓ] at e'; exact .inl e'.symm
     | some sl =>
      rw [hΓ] at e'
      cases sl with
      | val d =>
       refine .inr ⟨d,e'.symm,?_⟩; obtain ⟨v,h1,h2⟩:=g1.val i d hΓ; refine ⟨v,?_,h2⟩; unfold zlQ; rw [yJ,hj]
       show some ((some i).bind fun i=>(σ[i]?).join)=some (some v)
       show some ((σ[i]?).join)=some (some v)
       rw [h1]; rfl
      | emp=>exact .inl e'.symm
      | own o=>exact .inl e'.symm
      | bk _ _ _=>exact .inl e'.symm
 ·rintro i σ' H' hlt ⟨Hi',acc,vs,Γ',s2,s3,k1,k2,hA1,hA2,dl,hv,hl,hsl,q⟩
  have hd:ds.drop i=ds[i] :: ds.drop (i+1):=YK hlt
  rw [hd] at q; obtain ⟨go,yl⟩:=(itd Hi' H' s2 s3).1 i ds[i] (yB hlt)
  refine ⟨go,fun x H'' y=>?_⟩
  obtain ⟨Hi'',ex,den⟩:=yl x H'' y
  have gb:Good X.K N'.length ⟨H'',Hi'',[]⟩ Hi'' Γ' σ' H'':=by
   refine ⟨hl,ex.fz,fun b o e _=>e,fun b o e=>⟨o,e⟩,fun b o e=>rfl,fun j d e=>?_,fun j o e=>?_,fun j k o o' b e=>?_,fun j d b xs e=>?_⟩
   ·rcases hsl j _ e with z | ⟨d',z,v,h1,h2⟩
    ·cases z
    ·cases z; exact ⟨v,h1,h2.mono ex.hi⟩
   ·rcases hsl j _ e with z | ⟨d',z,_⟩ <;> cases z
   ·rcases hsl j _ e with z | ⟨d',z,_⟩ <;> cases z
   ·rcases hsl j _ e with z | ⟨d',z,_⟩ <;> cases z
  refine ⟨⟨H'',Hi'',[]⟩,Hi'',Γ',ds[i],_,gb,den,q,?_⟩; intro σ3 H3 Hi3 Γ3 s4 g3 q3; refine ⟨⟨H'',Hi'',[]⟩,Hi3,Γ3,_,g3,q3,?_⟩; intro b H4 Hi4 Γ4 s5 g4 q4
  -- what the state is behind a turn
  have back:∀ {Γ5:Sts} {Hi5 H5:Hp},zaG Hi4 Hi5->Good X.K N'.length ⟨H'',Hi'',[]⟩ Hi5 Γ5 σ3 H5 ->
    zaG Hi1 Hi5/\Fz Hi5 H5/\(∀ b o,H1 b=some o->H5 b=some o)/\(∀ b o,H1 b=some o->Hi5 b=Hi1 b)/\Hi5 A=none/\H5 A=some (.lst vs)/\zaG Hi' Hi5:=fun {Γ5 Hi5 H5} s6 g5=>by
   have sx:zaG Hi' Hi5:=ex.hi.trans (s4.trans (s5.trans s6))
   have hA3:H'' A=some (.lst vs):=ex.h _ _ hA2
   refine ⟨s2.trans sx,g5.fz,fun b o e=>g5.keep b o (ex.h _ _ (k1 b o e)) (by simp),fun b o e=>?_,?_,g5.keep A _ hA3 (by simp),sx⟩
   ·rw [g5.fro b o (ex.h _ _ (k1 b o e))]
    show Hi'' b=Hi1 b
    rw [ex.fro b o (k1 b o e),k2 b o e]
   ·rw [g5.fro A _ hA3]
    show Hi'' A=none
    rw [ex.fro A _ hA2,hA1]
  have sl:∀ {Γ5:Sts} {Hi5 H5:Hp},Good X.K N'.length ⟨H'',Hi'',[]⟩ Hi5 Γ5 σ3 H5->∀ (j:Nat) s,(vo Γ5)[j]?=some s->s=.emp\/∃ d,s=.val d/\∃ v,σ3[j]?=some (some v)/\Den X.K Hi5 v d:=fun {Γ5 Hi5 H5} g5 j s e=>by
   unfold vo at e; rw [yJ] at e
   cases hj:Γ5[j]? with
   | none=>rw [hj] at e; cases e
   | some sl =>
    rw [hj] at e
    cases sl with
    | val d =>
     cases e; exact .inr ⟨d,rfl,g5.val j d hj⟩
    | emp=>cases e; exact .inl rfl
    | own o=>cases e; exact .inl rfl
    | bk _ _ _=>cases e; exact .inl rfl
  cases b with
  | false =>
   simp only [YL,if_false] at q4 ⊢; obtain ⟨b1,b2,b3,b4,b5,b6,b7⟩:=back (zaG.refl _) g4
   exact ⟨Hi4,acc,vs,vo Γ4,b1,b2,b3,b4,b5,b6,dl.mono b7,by omega,g4.len,sl g4,q4⟩
  | true =>
   simp only [if_true] at q4 ⊢; refine ⟨⟨H'',Hi'',[]⟩,Hi4,Γ4,_,g4,q4,?_⟩
   rintro y' H5 ⟨Hi5,dy,Γ5,s6,g5,den5,q5⟩
   obtain ⟨b1,b2,b3,b4,b5,b6,b7⟩:=back s6 g5
   refine ⟨vs,b6,by omega,Hi5,acc ++ [dy],vs ++ [y'],vo Γ5,b1,?_,?_,b4,b5,zu,paired_app (dl.mono b7) (.cons den5 .nil),by rw [yP]; simp; omega,g5.len,sl g5,q5⟩
   ·refine ⟨fun b o e=>?_,fun b xs e=>?_⟩
    ·rw [zN (fun z=>by rw [z,b5] at e; cases e)]
     exact b2.sub b o e
    ·by_cases hb:b=A
     ·subst hb; rw [zu] at e; cases e
     ·rw [zN hb] at e; exact b2.tups b xs e
   ·intro b o e
    rw [zN (zaQ e hA)]; exact b3 b o e
 ·rintro σ' H' ⟨Hi',acc,vs,Γ',s2,s3,k1,k2,hA1,hA2,dl,hv,hl,hsl,q⟩
  refine ⟨(itd Hi' H' s2 s3).2,?_⟩; rw [YQ (yF _)] at q
  have ex:Ext Hi1 H1 Hi' H':=⟨s2,k1,s3,k2⟩
  refine fin A H' Hi' Γ1 (.lst acc) (s1.trans s2) (g1.ext ex) ⟨hA1,?_,⟨fun j o' e z=>?_,fun j d xs e=>?_⟩,vs,hA2,dl⟩ q
  ·cases hq:W.H₀ A with
   | none=>rfl
   | some w =>
    obtain ⟨w',hw⟩:=g1.there A w hq
    rw [hA] at hw; cases hw
  ·obtain ⟨a,h1,_,_,h4⟩:=g1.own j o' e
   rw [z] at h1; cases h1; obtain ⟨w,hw⟩:=h4.there
   rw [hA] at hw; cases hw
  ·obtain ⟨w,hw⟩:=(g1.bk j d A xs e).at_.there
   rw [hA] at hw; cases hw
abbrev Sp':=List D->(Res->Prop)->Prop
def zlM (K:W.Frag) (sp:Sp'):Sp:=fun vs H Q2 _=>∃ Hi ds Q,Fz Hi H/\zbv K Hi vs ds/\sp ds Q/\∀ Hi' H' v r,Ext Hi H Hi' H'->zrc K H Hi' H' v r->Q r->Q2 v H'
def zv (sp:Sp') (t:TA'):TE':=fun Γ Q=>t Γ fun ds Γ1=>sp ds fun r=>Q r.toD Γ1
def zq (sp:Sp') (t:TA'):TO':=fun Γ Q=>t Γ fun ds Γ1=>sp ds fun r=>∃ o,r=.own o/\Q o Γ1
variable {k:Nat} {f:Addr} {fd:FuncData} {ps:List Str} {sp:Sp'} {x:Str} {p:Pos} {e:Expr} {es:List Expr} {t:TA'}
theorem zil {K:W.Frag} {n:Nat} {W:Wd} {Hi H Hi' H':Hp} {Γ:Sts} {σ:St} {a:Addr} {o:OD} (g:Good K n W Hi Γ σ H) (ex:Ext Hi H Hi' H') (h1:Hi' a=none) (h2:H a=none) (h3:zce K Hi' H' a o):New K n W Hi' Γ σ H' a o:=by
 refine ⟨h1,?_,⟨fun j o' e z=>?_,fun j d xs e=>?_⟩,h3⟩
 ·cases q:W.H₀ a with
  | none=>rfl
  | some w =>
   obtain ⟨w',hw⟩:=g.there a w q
   rw [h2] at hw; cases hw
 ·obtain ⟨b,q1,_,_,q4⟩:=g.own j o' e
  rw [z] at q1; cases q1; obtain ⟨w,hw⟩:=q4.there
  rw [h2] at hw; cases hw
 ·obtain ⟨w,hw⟩:=(g.bk j d a xs e).at_.there
  rw [h2] at hw; cases hw
theorem zmq (F:FnOk X.prog X.w X.K X.mg X.base CX0 k f fd ps (zlM X.K sp)) (hr:Room k X.A) (hm:X.mg x=some (.ref f)) (hk:W.keepIn X.K (.ref f)=true) (hb:zeZ X.K fd ps [])
  (ha:PA' X (e :: es) t) (hg:Gl X x:=by rfl) (hdb:(x == ("__debug__":Str))=false:=by decide) :
  PE' X (.Call (.Name x p) (e :: es) [] pos) (zv sp t):=by
 refine ⟨PE.weak (zoE (E:=E0) (dvs:=[]) F hr hg hm hk hb .nil zsn ha.pa hdb (zbO (zbp ha.pl).1) (zbU (zbp ha.pl).2)) ?_⟩
 rintro σ H Q ⟨W,Hi,Γ,Q',g,h,fin⟩
 refine ⟨W,Hi,Γ,_,g,h,?_⟩; intro vs H1 Hi1 Γ1 ds s1 g1 dl q; rw [YJ]; refine ⟨Hi1,ds,_,g1.fz,dl,q,?_⟩; intro Hi2 H2 v r ex ro q2
 cases r with
 | val d=>exact fin v H2 ⟨Hi2,d,Γ1,s1.trans ex.hi,g1.ext ex,ro,q2⟩
 | own o =>
  obtain ⟨a,rfl,h1,h2,h3⟩:=ro; have nw:=zil g1 ex h1 h2 h3; obtain ⟨u,hu⟩:=h3.there; exact fin _ H2 ⟨upd Hi2 a u,_,Γ1,s1.trans (ex.hi.trans (zaO h1 u)),(g1.ext ex).freezeA nw.hi nw.h0 nw.ne hu,h3.den h1 hu,q2⟩
 | bk d o =>
  obtain ⟨b,dv,hol,h1,h2,h3⟩:=ro; have nw:=zil g1 ex h1 h2 h3; obtain ⟨u,hu⟩:=h3.there; exact fin _ H2 ⟨upd Hi2 b u,_,Γ1,s1.trans (ex.hi.trans (zaO h1 u)),(g1.ext ex).freezeA nw.hi nw.h0 nw.ne hu,hol b _ v o (h3.den h1 hu) (dv.mono (zaO h1 u)),q2⟩
end
def zgm (N:List Str) (ds:List D):Sts:=ds.map .val ++ List.replicate (N.length-ds.length) .emp
section
variable {P:Program} {w:World} {K:W.Frag} {mg:Str->Option Value} {base:Heap}
theorem Fun.ok' {x qual:Str} {st:Stmt} {f:Addr} {fd:FuncData} {N ps:List Str} {k:Nat} {sp:Sp'} (F:Fun K x qual st f fd) (S:FnScope N ps (zm st)) (len:∀ ds Q,sp ds Q->ds.length=ps.length)
  (hbody:∀ (cdv:Value) (A:Around) (outer:List Env) (s:Shared) (H:Hp) (E:XK),Room k (A.deeper (PyProof.Rows.envOfC qual (zm st) s.heap.objs.size f cdv))->∀ ds Q,sp ds Q ->
   ∃ t,PSs' (zlw CX0 P w K mg base N qual (zm st) f cdv A outer s H E).nox (zbW st) t/\t { nx:=fun _=>Q (.val .non),rt:=fun r _=>Q r } (zgm N ds)):FnOk P w K mg base CX0 (k+1) f fd ps (zlM K sp):=by
 refine F.ok S (fun vs H Q E h=>?_) (fun cdv A outer s H vs Q E hr h=>?_)
 ·obtain ⟨Hi,ds,Q',_,dl,h,_⟩:=h
  rw [zl dl]; exact len ds Q' h
 obtain ⟨Hi,ds,Q',sb,dl,h,fin⟩:=h; obtain ⟨t,h1,h2⟩:=hbody cdv A outer s H E hr ds Q' h
 have hlen:ds.length=ps.length:=len ds Q' h
 have hpl:ps.length<=N.length:=by have:=ye List.length S.pre; rw [Yd] at this; omega
 have hvl:=zl dl; refine ⟨_,h1.h,⟨H,Hi,[]⟩,Hi,zgm N ds,_,?_,h2,?_⟩
 ·refine ⟨?_,sb,fun b o e _=>e,fun b o e=>⟨o,e⟩,fun b o e=>rfl,fun j d e=>?_,fun j o e=>?_,fun j k o o' b e=>?_,fun j d b xs e=>?_⟩
  ·unfold L2.start
   show _=N.length
   rw [yP,yE,List.length_replicate]; omega
  all_goals
   unfold zgm at e
   by_cases hj:j<ds.length
   ·rw [List.getElem?_append_left (by simpa using hj),yJ,yB hj] at e
    try cases e
    try
     obtain ⟨v,e1,e2⟩:=zaT dl (yB hj); refine ⟨v,?_,e2⟩; unfold L2.start
     rw [List.getElem?_append_left (by rw [yE]; omega),yJ,e1]
     rfl
   ·rw [List.getElem?_append_right (by simpa using hj),List.getElem?_replicate] at e
    split at e <;> cases e
 ·refine ⟨fun σ' H' Hi' Γ' s1 g1 q=>?_,fun _ _ _ _ _ _ q=>q.elim,fun _ _ _ _ _ _ q=>q.elim,fun v σ' H' Hi' Γ' r s1 g1 ro q=>?_⟩
  ·exact fin Hi' H' .non (.val .non) ⟨s1,fun b o e=>g1.keep b o e (by simp),g1.fz,fun b o e=>g1.fro b o e⟩ .non q
  ·exact fin Hi' H' v r ⟨s1,fun b o e=>g1.keep b o e (by simp),g1.fz,fun b o e=>g1.fro b o e⟩ ro q
end
end PL
namespace L2
open PySem PySem.Spec PyProof.Rows
section
variable {X:Cx}
theorem zna {vs:List Value} {bs:List Bool} (r:zaL (bs.map V.bl) vs) {i:Nat} {v:Value} (h:vs[i]?=some v):v=.bool (bs.getD i false):=by
 obtain ⟨b,hb⟩:∃ b,bs[i]?=some b:=by
  have hl:=r.length; rw [yE] at hl
  have hi:i<bs.length:=by rw [hl]; exact (yG.mp h).1
  exact ⟨bs[i],yB hi⟩
 obtain ⟨u,e1,e2⟩:=zaL.get (i:=i) (x:=.bl b) r (by rw [yJ,hb]; rfl)
 rw [h] at e1; cases e1; cases e2; rw [List.getD_eq_getElem?_getD,hb]; rfl
theorem zlh (bs:List Bool):((List.range bs.length).all fun i=>bs.getD i false)=bs.all id:=by
 rw [Bool.eq_iff_iff,yW,yW]; constructor
 ·intro h b hb
  obtain ⟨i,hi,e⟩:=List.getElem_of_mem hb
  have:=h i (List.mem_range.mpr hi)
  rw [List.getD_eq_getElem?_getD,yB hi,e] at this; exact this
 ·intro h i hi
  have hi':=List.mem_range.mp hi; rw [List.getD_eq_getElem?_getD,yB hi']; exact h _ (Ye hi')
theorem zjx {pins:List (Addr × Obj)} {σ:St} {H:Hp} {s:Shared} {a:Addr} {bs:List Bool} (hc:X.calm=true) (I:Inv X pins σ H s) (hq:SqL X.K H a (bs.map V.bl)) {E:Value->Shared->Prop} (R:Bool->Bool->Prop) (f:(Nat->Bool)->List Nat->Bool) {Q:Value->Shared->Prop}
  (fin:∀ h' tk,Inv X pins σ H { s with heap:=h',toks:=tk }->Q (.bool (f (fun i=>bs.getD i false) (List.range bs.length))) { s with heap:=h',toks:=tk }) :
  wpAny (model X.prog X.w) X.A.in1 (pyIter (.ref a)) (fun it s₂=>∃ I fp wr n P St tr,it=.ref I/\Walks X.prog X.w X.A.in1 I fp wr n P St/\St 0 s₂.heap/\TruthOf X.prog X.w X.A.in1 P tr /\
   ∀ h' tk,(∀ b o,b ∉ wr->s₂.heap.get? b=some o->h'.get? b=some o)->Q (.bool (f tr (List.range n))) { s₂ with heap:=h',toks:=tk }) E s:=by
 obtain ⟨its,rv,p,hz⟩:=I.list hq
 have hlen:its.length=bs.length:=by have:=rv.length; rw [yE] at this; exact this.symm
 have hne:a≠s.heap.objs.size:=by
  obtain ⟨o,ho,_⟩:=p.isList; exact ya (yQ ho)
 refine wpAny_pyIter_list p.isList ?_
 refine ⟨s.heap.objs.size,_,_,_,_,_,fun i=>bs.getD i false,rfl,Walks.list (show X.A.in1.handled=none from I.ok.hd hc) s.heap.objs.size a hne its.toArray,⟨⟨_,yI _ rfl,rfl,rfl⟩,p.isList.at fun o e=>yC _ e⟩,?_,?_⟩
 ·intro i v s' Q' E' hP hQ
  have hv:its[i]?=some v:=by simpa using hP
  rw [zna rv hv]; exact YX hQ
 ·intro h' tk kp
  have z:=fin h' tk (I.kept (t':=tk) fun b o e=>kp b o (by simp; exact ya (yQ e)) (yC _ e))
  have e:its.toArray.size=bs.length:=by simpa using hlen
  rw [e]; exact z
theorem ze8 (hc:X.calm=true):zcP X (.builtin "all") (fun xs H Q=>∃ (a:Addr) (bs:List Bool),xs=[.ref a]/\SqL X.K H a (bs.map V.bl)/\Q (.bl (bs.all id)) H):=by
 intro pins s σ H xs us Q I r h; obtain ⟨a,bs,rfl,hq,q⟩:=h; obtain ⟨u,rfl,rx⟩:=zct r; cases rx
 refine PySem.call_all_walk (zjx hc I hq (fun _ _=>True) (fun tr l=>l.all tr) fun h' tk I'=>⟨.bl _,H,I',rfl,?_⟩)
 rw [zlh]; exact q
theorem zj3 (r:Addr) (a b:Int) (t u v:Tok) (i:Int) (t':Tok):Meets (Builtin.«range.__contains__» ⟨[.ref r,.int i t'],[]⟩) (fun _ R s=>s.heap.get? r=some { cls:=.type "range",dict:=none,data:=.fields #[.int a t,.int b u,.int 1 v],slots:=#[] } /\
  R (.ok (.ret (.bool (Builtin.Range.rangePlace? a b 1 i).isSome))) s) :=
 .of_wp fun prog w A R s h=>by obtain ⟨hp,g,d,tk,os⟩:=s; obtain ⟨hl,h⟩:=h; wp_walk; exact ⟨_,rfl,h⟩
theorem zjd (a b i:Int):(Builtin.Range.rangePlace? a b 1 i).isSome=decide (a<=i/\i<b):=by
 unfold Builtin.Range.rangePlace?
 have h1:(1:Int) > 0:=by decide
 have h2:(i-a) % 1=0:=Int.emod_one _
 simp only [h1,if_true,h2,beq_self_eq_true,Bool.and_true]
 by_cases h:a<=i/\i<b
 ·have e:(decide (a<=i) && decide (i<b))=true:=by simp [h.1,h.2]
  rw [yR e,yp h]; rfl
 ·have e:¬ (decide (a<=i) && decide (i<b))=true:=by
   intro z; simp only [yg,ym] at z; exact h z
  rw [yM e,yS h]; rfl
def ztM (neg:Bool):R2:=fun x y H Q=>∃ i p lo hi,x=.int i/\y=.ref p/\Rd H p (.rng lo hi)/\Q (.bl (if neg then !decide (lo<=i/\i<hi) else decide (lo<=i/\i<hi))) H
theorem zgA:OpR X (compareOp .NotIn) (ztM true):=by
 intro pins s σ H x y v u Q I rx ry h; obtain ⟨i,p,lo,hi,rfl,rfl,hp,q⟩:=h; obtain ⟨t,rfl⟩:=rx; cases ry; obtain ⟨t1,t2,t3,e⟩:=hp.ok I.hok; refine PySem.SeqRoads2.notIn_meets ⟨_,e,rfl⟩ F.slot_range_contains F.entry_range_contains (F.args_range_contains_2 _ _) (zj3 p lo hi t1 t2 t3 i t) ⟨e,_,rfl,⟨.bl _,H,I,rfl,?_⟩⟩; rw [zjd]; exact q
def zrf (K:W.Frag) (H:Hp):V->String->Prop
 | .non,t=>t="NoneType"
 | .bl _,t=>t="bool"
 | .int _,t=>t="int"
 | .str _,t=>t="str"
 | .ref a,t=>(t="list"/\∃ xs,SqL K H a xs)\/(t="tuple"/\∃ xs,SqT K H a xs)\/(t="dict"/\((∃ kvs,Rd H a (.dK kvs))\/∃ kvs,Rd H a (.dT kvs)))
 | _,_=>False
end
end L2
namespace PL
open PySem L2
section
variable {X:Cx} {K:W.Frag}
theorem zeL {g:Int->Int->V} (g':Int->Int->D) (hg:∀ i j Hi,Den K Hi (g i j) (g' i j)):zhh K (rI0 g) (fun x y Q=>∃ i j,x=.int i/\y=.int j/\Q (g' i j)):=by
 rintro Hi H x y dx dy Q Q2 s d1 d2 ⟨i,j,rfl,rfl,q⟩ fin
 exact ⟨i,j,d1.intI,d2.intI,fin Hi H _ _ (Ext.refl s) (hg i j Hi) q⟩
theorem ziA {C:Int->Int->Prop} {g:Int->Int->V} (g':Int->Int->D) (hg:∀ i j Hi,Den K Hi (g i j) (g' i j)):zhh K (rI C g) (fun x y Q=>∃ i j,x=.int i/\y=.int j/\C i j/\Q (g' i j)):=by
 rintro Hi H x y dx dy Q Q2 s d1 d2 ⟨i,j,rfl,rfl,c,q⟩ fin
 exact ⟨i,j,d1.intI,d2.intI,c,fin Hi H _ _ (Ext.refl s) (hg i j Hi) q⟩
def znk (g:Int->Int->D):R2':=fun x y Q=>∃ i j,x=.int i/\y=.int j/\Q (g i j)
def rI' (C:Int->Int->Prop) (g:Int->Int->D):R2':=fun x y Q=>∃ i j,x=.int i/\y=.int j/\C i j/\Q (g i j)
theorem zsB:Op2 X (binaryOp .Add) (znk fun i j=>.int (i+j)):=⟨_,zqC,zeL _ fun i j _=>.int _⟩
theorem zqF:Op2 X (binaryOp .Sub) (znk fun i j=>.int (i-j)):=⟨_,zqv,zeL _ fun i j _=>.int _⟩
theorem zsv:Op2 X (binaryOp .Mult) (rI' znQ fun i j=>.int (i * j)):=⟨_,zqx,ziA _ fun i j _=>.int _⟩
theorem zcF:Op2 X (binaryOp .FloorDiv) (rI' znR fun i j=>.int (i / j)):=⟨_,zoI,ziA _ fun i j _=>.int _⟩
theorem zd5:Op2 X (binaryOp .Mod) (rI' (fun _ j=>0<j) fun i j=>.int (i % j)):=⟨_,zqy,ziA _ fun i j _=>.int _⟩
theorem zrE:Op2 X (compareOp .Lt) (znk fun i j=>.bl (decide (i<j))):=⟨_,zsq,zeL _ fun i j _=>.bl _⟩
theorem zqH:Op2 X (compareOp .LtE) (znk fun i j=>.bl (decide (i<=j))):=⟨_,zsr,zeL _ fun i j _=>.bl _⟩
theorem zsA:Op2 X (compareOp .Gt) (znk fun i j=>.bl (decide (j<i))):=⟨_,zss,zeL _ fun i j _=>.bl _⟩
def zhv:R2':=fun x y Q=>∃ l m,x=.str l/\y=.str m/\l.length+m.length<=sizeLine/\Q (.str (l ++ m))
theorem zqJ:Op2 X (binaryOp .Add) zhv:=⟨_,zje,by
 rintro Hi H x y dx dy Q Q2 s d1 d2 ⟨l,m,rfl,rfl,hl,q⟩ fin
 refine ⟨_,_,d1.strI,d2.strI,by rw [zbC,zbC]; exact hl,?_⟩
 rw [zpP]; exact fin Hi H _ _ (Ext.refl s) (.str _) q⟩
def eqS:D->D->Option Bool
 | .non,.non=>some true
 | .non,.int _=>some false
 | .non,.bl _=>some false
 | .non,.str _=>some false
 | .int _,.non=>some false
 | .bl _,.non=>some false
 | .str _,.non=>some false
 | .int i,.int j=>some (decide (i=j))
 | .bl i,.bl j=>some (decide (i=j))
 | .str i,.str j=>some (decide (i=j))
 | .int _,.str _=>some false
 | .str _,.int _=>some false
 | .bl _,.str _=>some false
 | .str _,.bl _=>some false
 | _,_=>none
inductive Scl (K:W.Frag) (Hi:Hp) (x:V):D->Prop where
 | n (h:x=.non):Scl K Hi x .non
 | b (b:Bool) (h:x=.bl b):Scl K Hi x (.bl b)
 | i (i:Int) (h:x=.int i):Scl K Hi x (.int i)
 | s (l:List Nat) (h:x=.str (st l)):Scl K Hi x (.str l)
theorem zdy {dx dy:D} {b:Bool} (h:eqS dx dy=some b):dx=.non\/(∃ b,dx=.bl b)\/(∃ i,dx=.int i)\/∃ l,dx=.str l:=by
 cases dx with
 | non=>exact .inl rfl
 | bl b=>exact .inr (.inl ⟨b,rfl⟩)
 | int i=>exact .inr (.inr (.inl ⟨i,rfl⟩))
 | str l=>exact .inr (.inr (.inr ⟨l,rfl⟩))
 | _=>cases dy <;> exact nomatch h
theorem zkU (dx dy:D) {b:Bool} (h:eqS dx dy=some b):∃ c,eqS dy dx=some c:=by
 rcases zdy h with rfl | ⟨i,rfl⟩ | ⟨i,rfl⟩ | ⟨i,rfl⟩ <;> cases dy <;> first | exact ⟨_,rfl⟩ | exact nomatch h
theorem Den.scl {Hi:Hp} {x:V} {d:D} (d1:Den K Hi x d) (h:d=.non\/(∃ b,d=.bl b)\/(∃ i,d=.int i)\/∃ l,d=.str l):Scl K Hi x d:=by
 rcases h with rfl | ⟨i,rfl⟩ | ⟨i,rfl⟩ | ⟨i,rfl⟩
 ·exact .n d1.nonI
 ·exact .b _ d1.blI
 ·exact .i _ d1.intI
 ·exact .s _ d1.strI
theorem znL {Hi:Hp} {x y:V} {dx dy:D} {b:Bool} (d1:Den K Hi x dx) (d2:Den K Hi y dy) (h:eqS dx dy=some b):zn8 x y=true/\decide (x=y)=b:=by
  have s1:=d1.scl (zdy h); have s2:=d2.scl (zdy (zkU _ _ h).choose_spec)
  cases s1 <;> rename_i e1 <;> subst e1 <;> cases s2 <;> rename_i e2 <;> subst e2 <;> first
    | (exact yO (show (none:Option Bool)=some b from h) (fun z=>nomatch z))
    | (refine ⟨rfl,?_⟩
       have h':=Option.some.inj h
       subst h'
       first
         | rfl
         | (exact decide_eq_decide.mpr ⟨fun z=>V.int.inj z,fun z=>ye V.int z⟩)
         | (exact decide_eq_decide.mpr ⟨fun z=>V.bl.inj z,fun z=>ye V.bl z⟩)
         | (exact decide_eq_decide.mpr ⟨fun z=>st_inj (V.str.inj z),fun z=>ye (fun l=>V.str (st l)) z⟩)
         | (exact yS (fun z=>nomatch z)))
def zl3 (neg:Bool):R2':=fun x y Q=>∃ c l,x=.str [c]/\y=.str l/\Q (.bl (if neg then !decide (c ∈ l) else decide (c ∈ l)))
theorem zsz:Op2 X (compareOp .In) (zl3 false):=⟨_,zkp,by
 rintro Hi H x y dx dy Q Q2 s d1 d2 ⟨c,l,rfl,rfl,q⟩ fin
 refine ⟨_,_,d1.strI,d2.strI,?_⟩; rw [znI]; exact fin Hi H _ _ (Ext.refl s) (.bl _) q⟩
theorem zmu:Op2 X (compareOp .NotIn) (zl3 true):=⟨_,zgy,by
 rintro Hi H x y dx dy Q Q2 s d1 d2 ⟨c,l,rfl,rfl,q⟩ fin
 refine ⟨_,_,d1.strI,d2.strI,?_⟩; rw [znI]; exact fin Hi H _ _ (Ext.refl s) (.bl _) q⟩
def zl4 (neg:Bool):R2':=fun x y Q=>∃ i lo hi,x=.int i/\y=.rng lo hi/\Q (.bl (if neg then !decide (lo<=i/\i<hi) else decide (lo<=i/\i<hi)))
theorem zmv:Op2 X (compareOp .NotIn) (zl4 true):=⟨_,zgA,by
 rintro Hi H x y dx dy Q Q2 s d1 d2 ⟨i,lo,hi,rfl,rfl,q⟩ fin
 cases d2 with
 | rng h=>exact ⟨i,_,lo,hi,d1.intI,rfl,zdQ s.sub h,fin Hi H _ _ (Ext.refl s) (.bl _) q⟩⟩
def zse (neg:Bool):R2':=fun x y Q=>y=.non/\∃ b:Bool,(b=true↔x=.non)/\Q (.bl (if neg then !b else b))
theorem zsx:Op2 X (compareOp .Is) (zse false):=⟨_,zqA,by
 rintro Hi H x y dx dy Q Q2 s d1 d2 ⟨rfl,b,e,q⟩ fin
 refine ⟨d2.nonI,?_⟩
 have z:decide (x=.non)=b:=by
  rw [Bool.eq_iff_iff,e,ym]; exact d1.non_iff
 rw [z]; exact fin Hi H _ _ (Ext.refl s) (.bl _) q⟩
def zln:R2':=fun x y Q=>∃ i,y=.int i/\((∃ ds d,x=.lst ds/\atI ds i=some d/\Q d)\/(∃ ds d,x=.tup ds/\atI ds i=some d/\Q d)\/∃ l c,x=.str l/\l.length<=sizeLine/\atI l i=some c/\Q (.str [c]))
theorem zlg {Hi:Hp} {vs:List V} {ds:List D} {i:Int} {d:D} (r:zbv K Hi vs ds) (h:atI ds i=some d):∃ v,atI vs i=some v/\Den K Hi v d:=by
 unfold atI at h ⊢
 rw [zl r]
 cases e:ixN ds.length i with
 | none=>rw [e] at h; cases h
 | some j =>
  rw [e] at h
  obtain ⟨v,h1,h2⟩:=zaT r (show ds[j]?=some d from h)
  exact ⟨v,h1,h2⟩
theorem zsH:Ixs X zln:=⟨_,zqX,by
 rintro Hi H x y dx dy Q Q2 s d1 d2 ⟨i,rfl,h⟩ fin
 rcases h with ⟨ds,d,rfl,e,q⟩ | ⟨ds,d,rfl,e,q⟩ | ⟨l,c,rfl,hl,e,q⟩
 ·obtain ⟨a,vs,rfl,h1,h2⟩:=d1.lstI
  obtain ⟨v,h3,h4⟩:=zlg h2 e; exact .inl ⟨a,vs,i,v,rfl,d2.intI,zai s.sub h1,h3,fin Hi H _ _ (Ext.refl s) h4 q⟩
 ·obtain ⟨a,vs,rfl,h1,h2⟩:=d1.tupI
  obtain ⟨v,h3,h4⟩:=zlg h2 e; exact .inr (.inl ⟨a,vs,i,v,rfl,d2.intI,zaz s.sub h1,h3,fin Hi H _ _ (Ext.refl s) h4 q⟩)
 ·refine .inr (.inr ⟨_,i,c,d1.strI,d2.intI,by rw [zbC]; exact hl,by rw [zaE]; exact e,fin Hi H _ _ (Ext.refl s) (.str [c]) q⟩)⟩
def zeg {α:Type} (xs:List α) (lo hi:Option Int):List α:=(xs.drop (HT.sIx xs.length 0 lo)).take (HT.sIx xs.length xs.length hi-HT.sIx xs.length 0 lo)
def zi7:RS':=fun x lo hi Q=>∃ l,x=.str l/\l.length<=sizeLine/\((lo=none/\∃ n,hi=some n/\0<=n/\Q (.str (l.take n.toNat)))\/(hi=none/\∃ n,lo=some n/\0<=n/\Q (.str (l.drop n.toNat))))
theorem zr3:Sli X zi7:=⟨_,zpR,by
 rintro Hi H x dx lo hi Q Q2 s d1 ⟨l,rfl,hl,h⟩ fin
 refine ⟨st l,d1.strI,by rw [zbC]; exact hl,?_⟩
 rcases h with ⟨rfl,n,rfl,hn,q⟩ | ⟨rfl,n,rfl,hn,q⟩
 ·obtain ⟨m,rfl⟩:=Int.eq_ofNat_of_zero_le hn
  rw [zlP]; exact fin Hi H _ _ (Ext.refl s) (.str _) q
 ·obtain ⟨m,rfl⟩:=Int.eq_ofNat_of_zero_le hn
  rw [zi3]; exact fin Hi H _ _ (Ext.refl s) (.str _) q⟩
def zgu:RS':=fun x lo hi Q=>∃ ds,x=.tup ds/\Q (.tup (zeg ds lo hi))
def zi8:RS':=fun x lo hi Q=>∃ ds,x=.lst ds/\Q (.lst (zeg ds lo hi))
theorem zk8 {Hi:Hp} {vs:List V} {ds:List D} {lo hi:Option Int} (r:zbv K Hi vs ds):zbv K Hi (zk9 vs lo hi) (zeg ds lo hi):=by
 unfold zk9 zeg; rw [zl r]; exact zdi _ (zeE _ r)
theorem zpU:Sli X zi8:=⟨_,zn6,by
 rintro Hi H x dx lo hi Q Q2 s d1 ⟨ds,rfl,q⟩ fin
 obtain ⟨a,vs,rfl,h1,h2⟩:=d1.lstI
 refine ⟨a,vs,rfl,zai s.sub h1,fun p hp=>?_⟩
 have e:=Ext.new s hp (.lst (zk9 vs lo hi)); exact fin _ _ _ _ e (Den.mkL (SqL.of zu) (zk8 (h2.mono e.hi))) q⟩
def ze5:RC':=fun ds Q=>∃ d,ds=[d]/\((∃ l,d=.str l/\l.length<=sizeLine/\Q (.int (l.length:Nat)))\/(∃ es,d=.lst es/\Q (.int (es.length:Nat)))\/∃ es,d=.tup es/\Q (.int (es.length:Nat)))
theorem zsY:Cal X (.builtin "len") ze5:=⟨_,zg8.or zg9,by
 rintro Hi H vs ds Q Q2 s dl ⟨d,rfl,h⟩ fin
 obtain ⟨v,rfl,den⟩:=zcK dl
 rcases h with ⟨l,rfl,hl,q⟩ | ⟨es,rfl,q⟩ | ⟨es,rfl,q⟩
 ·refine .inl ⟨_,by rw [den.strI],by rw [zbC]; exact hl,?_⟩
  rw [zbC]; exact fin Hi H _ _ (Ext.refl s) (.int _) q
 ·obtain ⟨a,us,rfl,h1,h2⟩:=den.lstI
  refine .inr ⟨a,us,rfl,.inl (zai s.sub h1),?_⟩; rw [zl h2]; exact fin Hi H _ _ (Ext.refl s) (.int _) q
 ·obtain ⟨a,us,rfl,h1,h2⟩:=den.tupI
  refine .inr ⟨a,us,rfl,.inr (zaz s.sub h1),?_⟩; rw [zl h2]; exact fin Hi H _ _ (Ext.refl s) (.int _) q⟩
def zp7:RC':=fun ds Q=>∃ l n,ds=[.str l]/\PySem.intText? (st l)=some n/\l.length<=640/\Q (.int n)
theorem zsZ:Cal X (.type "int") zp7:=⟨_,zha,by
 rintro Hi H vs ds Q Q2 s dl ⟨l,n,rfl,e,hl,q⟩ fin
 obtain ⟨v,rfl,den⟩:=zcK dl
 exact ⟨_,n,by rw [den.strI],e,by rw [zbC]; exact hl,fin Hi H _ _ (Ext.refl s) (.int _) q⟩⟩
def zkx (i:Int):List Nat:=(Str.ofString (toString i)).cps.toList
def zod:RC':=fun ds Q=>∃ i,ds=[.int i]/\i.natAbs.log2<1920/\Q (.str (zkx i))
theorem zsX:Cal X (.type "str") zod:=⟨_,zg5,by
 rintro Hi H vs ds Q Q2 s dl ⟨i,rfl,hl,q⟩ fin
 obtain ⟨v,rfl,den⟩:=zcK dl
 refine ⟨i,by rw [den.intI],hl,?_⟩
 refine fin Hi H _ (.str (zkx i)) (Ext.refl s) ?_ q
 have e:(V.str (toString i))=.str (st (zkx i)):=by
  unfold zkx; rw [<- zn1]
 rw [e]; exact .str _⟩
def zth:RC':=fun ds Q=>∃ bs:List Bool,ds=[.lst (bs.map .bl)]/\Q (.bl (bs.all id))
theorem zgZ {Hi:Hp}:∀ {vs:List V} {bs:List Bool},zbv K Hi vs (bs.map .bl)->vs=bs.map .bl
 | _,[],h=>by cases h; rfl
 | _,b :: bs,h=>by
  cases h with
  | cons r t=>rw [r.blI,zgZ t]; rfl
theorem zpt (hc:X.calm=true):Cal X (.builtin "all") zth:=⟨_,ze8 hc,by
 rintro Hi H vs ds Q Q2 s dl ⟨bs,rfl,q⟩ fin
 obtain ⟨v,rfl,den⟩:=zcK dl; obtain ⟨a,us,rfl,h1,h2⟩:=den.lstI; rw [zgZ h2] at h1; exact ⟨a,bs,rfl,zai s.sub h1,fin Hi H _ _ (Ext.refl s) (.bl _) q⟩⟩
def zj4:RC':=fun ds Q=>∃ d es,ds=[d]/\(d=.lst es\/d=.tup es)/\Q (.tup es)
theorem zgc:Cal X (.type "tuple") zj4:=⟨_,zgb,by
 rintro Hi H vs ds Q Q2 s dl ⟨d,es,rfl,h,q⟩ fin
 obtain ⟨v,rfl,den⟩:=zcK dl
 rcases h with rfl | rfl
 ·obtain ⟨a,us,rfl,h1,h2⟩:=den.lstI
  refine ⟨a,us,rfl,.inl ⟨zai s.sub h1,fun l hl=>?_⟩⟩
  have e:=Ext.new s hl (.tup us); exact fin _ _ _ _ e (Den.mkT zu (h2.mono e.hi)) q
 ·obtain ⟨a,us,rfl,h1,h2⟩:=den.tupI
  exact ⟨a,us,rfl,.inr ⟨zaz s.sub h1,fin Hi H _ _ (Ext.refl s) den q⟩⟩⟩
def zhT:D->Option String
 | .non=>some "NoneType"
 | .bl _=>some "bool"
 | .int _=>some "int"
 | .str _=>some "str"
 | .lst _=>some "list"
 | .tup _=>some "tuple"
 | .dic _=>some "dict"
 | _=>none
theorem zmT {Hi H:Hp} {x:V} {d:D} {t:String} (s:zaG Hi H) (den:Den K Hi x d) (h:zhT d=some t):zrf K H x t:=by
 cases den with
 | non=>exact (Option.some.inj h).symm
 | bl b=>exact (Option.some.inj h).symm
 | int i=>exact (Option.some.inj h).symm
 | str l=>exact (Option.some.inj h).symm
 | ty n=>cases h
 | adr b=>cases h
 | rng h'=>cases h
 | tup hq l r=>exact .inr (.inl ⟨(Option.some.inj h).symm,_,SqT.of (s _ _ hq)⟩)
 | lst hq l r=>exact .inl ⟨(Option.some.inj h).symm,_,zai s hq⟩
 | dicK hq l r r2=>exact .inr (.inr ⟨(Option.some.inj h).symm,.inl ⟨_,zdQ s hq⟩⟩)
 | dicT hq l r r2=>cases h
 | cls C=>cases h
 | obj hq l r r2=>cases h
 | excN hq=>cases h
 | exc hq h2 l r r2=>cases h
def zho:RM':=fun x ds Q=>∃ l y,x=.str l/\ds=[.str y]/\l.length<=sizeLine/\Q (.str (Txt.rstripChars (st l) (st y)).cps.toList)
theorem zmE:Met X "str" "str.rstrip" zho:=⟨_,zkD,by
 rintro Hi H x vs dx ds Q Q2 s d1 dl ⟨l,y,rfl,rfl,hl,q⟩ fin
 obtain ⟨v,rfl,den⟩:=zcK dl
 refine ⟨_,_,d1.strI,by rw [den.strI],by rw [zbC]; exact hl,?_⟩
 rw [zn1 (Txt.rstripChars (st l) (st y))]; exact fin Hi H _ _ (Ext.refl s) (.str _) q⟩
end
section
variable {X:Cx} {a b c:Expr} {pos:Pos} {ta tb tc:TE'}
def zo (r r':R2') (ta tb tc:TE'):TE':=fun Γ Q=>ta Γ fun x Γ1=>tb Γ1 fun y Γ2=>r x y fun z=>∃ k,z=.bl k/\(if k=true then tc Γ2 fun w Γ3=>r' y w fun d=>Q d Γ3 else Q (.bl false) Γ2)
theorem zgi {K:W.Frag} {n:Nat} {r s:R2} {r' s':R2'} {σ:St} {H:Hp} {Q:VK} (l:zhh K r r') (l2:zhh K s s') (h:tOf K n (zo r' s' ta tb tc) σ H Q):zjO r s (tOf K n ta) (tOf K n tb) (tOf K n tc) σ H Q:=by
 obtain ⟨W,Hi,Γ,Q',g,h,fin⟩:=h; refine ⟨W,Hi,Γ,_,g,h,?_⟩
 rintro x H1 ⟨Hi1,dx,Γ1,s1,g1,den1,h1⟩
 refine ⟨W,Hi1,Γ1,_,g1,h1,?_⟩
 rintro y H2 ⟨Hi2,dy,Γ2,s2,g2,den2,h2⟩
 refine l Hi2 H2 x y dx dy _ _ g2.fz (den1.mono s2) den2 h2 ?_
 rintro Hi3 H3 v d e den ⟨k,rfl,q⟩
 refine ⟨k,den.blI,?_⟩
 cases k with
 | false=>exact fin _ H3 ⟨Hi3,_,Γ2,s1.trans (s2.trans e.hi),g2.ext e,.bl false,q⟩
 | true =>
  refine ⟨W,Hi3,Γ2,_,g2.ext e,q,?_⟩
  rintro w H4 ⟨Hi4,dw,Γ4,s4,g4,den4,q4⟩
  refine l2 Hi4 H4 y w dy dw _ _ g4.fz (den2.mono (e.hi.trans s4)) den4 q4 ?_; intro Hi5 H5 v5 d5 e5 den5 q5; exact fin _ H5 ⟨Hi5,d5,Γ4,s1.trans (s2.trans (e.hi.trans (s4.trans e5.hi))),g4.ext e5,den5,q5⟩
theorem zkn {op op':CmpOp} {r r':R2'} (ho:Op2 X (compareOp op) r) (ho':Op2 X (compareOp op') r') (ha:PE' X a ta) (hb:PE' X b tb) (hc:PE' X c tc)
  (hm:lastMarks [op,op'] [b,c]=false:=by with_unfolding_all rfl):PE' X (.Compare a [op,op'] [b,c] pos) (zo r r' ta tb tc):=by
 obtain ⟨q,h1,l1⟩:=ho.ex; obtain ⟨q',h2,l2⟩:=ho'.ex
 exact ⟨PE.weak (zmo h1 h2 ha.h hb.h hc.h hm) fun σ H Q z=>zgi l1 l2 z⟩
theorem zj9 {op op':CmpOp} {r r':R2'} (ho:Op2 X (compareOp op) r) (ho':Op2 X (compareOp op') r') (ha:PE' X a ta) (hb:PE' X b tb) (hc:PE' X c tc)
  (hm:lastMarks [op,op'] [b,c]=false:=by with_unfolding_all rfl):PT' X (.Compare a [op,op'] [b,c] pos) (tB' (zo r r' ta tb tc)):=by
 obtain ⟨q,h1,l1⟩:=ho.ex; obtain ⟨q',h2,l2⟩:=ho'.ex
 exact ⟨PT.weak (zl9 h1 h2 ha.h hb.h hc.h hm) fun σ H Q z=>zgi l1 l2 (zn0 z)⟩
def zfP:R2':=fun x y Q=>(∃ i j,x=.int i/\y=.int j/\Q (.int (i+j)))\/zhv x y Q
theorem zsC:Op2 X (binaryOp .Add) zfP:=zsB.or zqJ
def zfM:R2':=fun x y Q=>zl3 true x y Q\/zl4 true x y Q
theorem zoO:Op2 X (compareOp .NotIn) zfM:=zmu.or zmv
end
structure Df (K:W.Frag) (mg:Str->Option Value) (x:Str) (st:Stmt) (ps:List Str):Prop where
 ex:∃ f fd,Fun K x x st f fd/\zeZ K fd ps []/\mg x=some (.ref f)
structure Fn (P:Program) (w:World) (K:W.Frag) (mg:Str->Option Value) (base:Heap) (k:Nat) (x:Str) (ps:List Str) (sp:Sp'):Prop where
 ex:∃ f fd,FnOk P w K mg base CX0 k f fd ps (zlM K sp)/\zeZ K fd ps []/\W.keepIn K (.ref f)=true/\mg x=some (.ref f)/\∃ oc od osl,K.lookup f=some ⟨oc,od,.func fd,osl⟩
section
variable {P:Program} {w:World} {K:W.Frag} {mg:Str->Option Value} {base:Heap} {k:Nat} {x:Str} {ps:List Str} {sp:Sp'}
theorem Df.ok {st:Stmt} {N:List Str} (d:Df K mg x st ps) (S:FnScope N ps (zm st)) (len:∀ ds Q,sp ds Q->ds.length=ps.length)
  (hbody:∀ (f:Addr) (cdv:Value) (A:Around) (outer:List Env) (s:Shared) (H:Hp) (E:XK),Room k (A.deeper (PyProof.Rows.envOfC x (zm st) s.heap.objs.size f cdv))->∀ ds Q,sp ds Q ->
   ∃ t,PSs' (zlw CX0 P w K mg base N x (zm st) f cdv A outer s H E).nox (zbW st) t/\t { nx:=fun _=>Q (.val .non),rt:=fun r _=>Q r } (zgm N ds)):Fn P w K mg base (k+1) x ps sp:=by
 obtain ⟨f,fd,F,b,m⟩:=d.ex; obtain ⟨oc,od,kV,doc,pm,an,cdv,ct,osl,e,lk,_⟩:=F.ex; exact ⟨f,fd,PL.Fun.ok' F S len (hbody f),b,F.kp,m,oc,od,osl,lk⟩
end
section
variable {X:Cx} {k:Nat} {x:Str} {ps:List Str} {sp:Sp'} {p pos:Pos} {e:Expr} {es:List Expr} {t:TA'}
theorem zaC (h:Fn X.prog X.w X.K X.mg X.base k x ps sp) (hr:Room k X.A) (ha:PA' X (e :: es) t) (hg:Gl X x:=by rfl) (hdb:(x == ("__debug__":Str))=false:=by decide) :
  PE' X (.Call (.Name x p) (e :: es) [] pos) (zv sp t):=by
 obtain ⟨f,fd,F,b,kp,m,_⟩:=h.ex; exact zmq F hr m kp b ha hg hdb
end
section
variable {X:Cx} {pos:Pos}
def zj5:RS':=fun x lo hi Q=>zi7 x lo hi Q\/zi8 x lo hi Q
theorem ztF:Sli X zj5:=zr3.or zpU
end
@[simp] theorem ex2 {α β:Type} {x:α} {y:β} {P:α->β->Prop}:(∃ a b,(x=a/\y=b)/\P a b)↔P x y:=⟨fun ⟨_,_,⟨e1,e2⟩,h⟩=>e1 ▸ e2 ▸ h,fun h=>⟨x,y,⟨rfl,rfl⟩,h⟩⟩
@[simp] theorem zrT (d:D):(Res.val d).toD=d:=rfl
@[simp] theorem zrU (o:OD):(Res.own o).toD=o.toD:=rfl
@[simp] theorem zs9 (d:D->D) (o:OD):(Res.bk d o).toD=d o.toD:=rfl
@[simp] theorem ztl (l:List D):(OD.lst l).toD=.lst l:=rfl
@[simp] theorem ztn (l:List (D × D)):(OD.dic l).toD=.dic l:=rfl
@[simp] theorem ztm (l:List (D × D)):(OD.dit l).toD=.dit l:=rfl
@[simp] theorem zpO (N:List Str) (ds:List D):zgm N ds=ds.map .val ++ List.replicate (N.length-ds.length) .emp:=rfl
@[simp] theorem zrN (d:D):voS (.val d)=.val d:=rfl
@[simp] theorem zrP:voS .emp=.emp:=rfl
@[simp] theorem zrO (o:OD):voS (.own o)=.emp:=rfl
@[simp] theorem zs8:vo []=[]:=rfl
@[simp] theorem zrM (s:Slot) (Γ:Sts):vo (s :: Γ)=voS s :: vo Γ:=rfl
@[simp] theorem zrn (ds:List D):zpS (.lst ds)=some ds:=rfl
@[simp] theorem zrk (ds:List D):zpS (.tup ds)=some ds:=rfl
@[simp] theorem zrl (l:List Nat):zpS (.str l)=some (l.map fun c=>.str [c]):=rfl
@[simp] theorem zs0 (Γ:Sts):zlx [] Γ=[]:=rfl
@[simp] theorem zrJ (src:List (Option Nat)) (Γ:Sts):zlx (none :: src) Γ=.emp :: zlx src Γ:=rfl
@[simp] theorem zrI (i:Nat) (src:List (Option Nat)) (Γ:Sts):zlx (some i :: src) Γ=(match Γ[i]? with | some (.val d)=>.val d | _=>.emp) :: zlx src Γ:=rfl
@[simp] theorem zq7 (g:TG') (tc:TT') (te:TE') (Q:List D->Prop) (acc:List D) (Γ:Sts):zd7 g tc te Q [] acc Γ↔Q acc:=Iff.rfl
@[simp] theorem zrG (g:TG') (tb:TS') (N:Ends') (Γ:Sts):zd2 g tb N [] Γ↔N.nx Γ:=Iff.rfl
section
variable {Q:D->Prop}
@[simp] theorem ztg (g:Int->Int->D) (i j:Int):znk g (.int i) (.int j) Q↔Q (g i j):=by simp [znk]
@[simp] theorem ztN (C:Int->Int->Prop) (g:Int->Int->D) (i j:Int):rI' C g (.int i) (.int j) Q↔C i j/\Q (g i j):=by simp [rI']
@[simp] theorem zrD (i j:Int):zfP (.int i) (.int j) Q↔Q (.int (i+j)):=by simp [zfP,zhv]
@[simp] theorem zrC (l m:List Nat):zfP (.str l) (.str m) Q↔l.length+m.length<=sizeLine/\Q (.str (l ++ m)):=by simp [zfP,zhv]
@[simp] theorem zsP (i j:Int):eqS (.int i) (.int j)=some (decide (i=j)):=rfl
@[simp] theorem zsN (i j:List Nat):eqS (.str i) (.str j)=some (decide (i=j)):=rfl
@[simp] theorem ztp (i j:Bool):eqS (.bl i) (.bl j)=some (decide (i=j)):=rfl
@[simp] theorem zsO:eqS .non .non=some true:=rfl
@[simp] theorem zpi (i:List Nat):eqS .non (.str i)=some false:=rfl
@[simp] theorem zpj (i:Int):eqS .non (.int i)=some false:=rfl
@[simp] theorem zph (i:List Nat):eqS (.str i) .non=some false:=rfl
@[simp] theorem zpk (i:Int):eqS (.int i) .non=some false:=rfl
@[simp] theorem zsf (c:Nat) (l:List Nat):zl3 false (.str [c]) (.str l) Q↔Q (.bl (decide (c ∈ l))):=by simp [zl3]
@[simp] theorem zsd (ds:List D) (i:Int):zln (.lst ds) (.int i) Q↔∃ d,atI ds i=some d/\Q d:=by simp [zln]
@[simp] theorem zsb (ds:List D) (i:Int):zln (.tup ds) (.int i) Q↔∃ d,atI ds i=some d/\Q d:=by simp [zln]
@[simp] theorem zsc (l:List Nat) (i:Int):zln (.str l) (.int i) Q↔l.length<=sizeLine/\∃ c,atI l i=some c/\Q (.str [c]):=by simp [zln]
@[simp] theorem ztc (l:List Nat) (n:Int):zj5 (.str l) none (some n) Q↔l.length<=sizeLine/\0<=n/\Q (.str (l.take n.toNat)):=by simp [zj5,zi7,zi8]
@[simp] theorem zrp (l:List Nat) (n:Int):zj5 (.str l) (some n) none Q↔l.length<=sizeLine/\0<=n/\Q (.str (l.drop n.toNat)):=by simp [zj5,zi7,zi8]
@[simp] theorem zr7 (ds:List D) (lo hi:Option Int):zj5 (.lst ds) lo hi Q↔Q (.lst (zeg ds lo hi)):=by simp [zj5,zi7,zi8]
@[simp] theorem zrv (l:List Nat):ze5 [.str l] Q↔l.length<=sizeLine/\Q (.int (l.length:Nat)):=by simp [ze5]
@[simp] theorem zrw (l:List D):ze5 [.lst l] Q↔Q (.int (l.length:Nat)):=by simp [ze5]
@[simp] theorem zru (l:List D):ze5 [.tup l] Q↔Q (.int (l.length:Nat)):=by simp [ze5]
@[simp] theorem zr6 (i:Int):zod [.int i] Q↔i.natAbs.log2<1920/\Q (.str (zkx i)):=by simp [zod]
@[simp] theorem zro (ds:List D):zj4 [.lst ds] Q↔Q (.tup ds):=by simp [zj4]
@[simp] theorem zpA (l y:List Nat):zho (.str l) [.str y] Q↔l.length<=sizeLine/\Q (.str (Txt.rstripChars (st l) (st y)).cps.toList):=by simp [zho]
@[simp] theorem zrQ (l:List Nat):tyD "str" (.str l)↔True:=by simp [tyD]
theorem zht {ds:List D} {bs:List Bool} (e:ds=bs.map .bl):zth [.lst ds] Q↔Q (.bl (bs.all id)):=by
 subst e; constructor
 ·rintro ⟨cs,e,q⟩
  have e':bs.map D.bl=cs.map D.bl:=by simpa using e
  have:bs=cs:=(List.map_inj_right (fun a b h=>D.bl.inj h)).mp e'
  rw [this]; exact q
 ·intro q
  exact ⟨bs,rfl,q⟩
end
@[simp] theorem zjD (K:W.Frag):W.kitOne K (.type "NoneType") (.type "str")=some false:=by rfl
@[simp] theorem znE (K:W.Frag):W.kitOne K (.type "bool") (.type "str")=some false:=by rfl
@[simp] theorem zo1 (K:W.Frag):W.kitOne K (.type "int") (.type "str")=some false:=by rfl
@[simp] theorem zoZ (K:W.Frag):W.kitOne K (.type "str") (.type "str")=some true:=by rfl
@[simp] theorem znx (K:W.Frag):W.kitOne K (.type "list") (.type "str")=some false:=by rfl
@[simp] theorem zmG (K:W.Frag):W.kitOne K (.type "tuple") (.type "str")=some false:=by rfl
@[simp] theorem znC (K:W.Frag):W.kitOne K (.type "dict") (.type "str")=some false:=by rfl
@[simp] theorem zjn (K:W.Frag):W.kitOne K (.type "NoneType") (.type "bool")=some false:=by rfl
@[simp] theorem zmS (K:W.Frag):W.kitOne K (.type "bool") (.type "bool")=some true:=by rfl
@[simp] theorem znB (K:W.Frag):W.kitOne K (.type "int") (.type "bool")=some false:=by rfl
@[simp] theorem znw (K:W.Frag):W.kitOne K (.type "str") (.type "bool")=some false:=by rfl
@[simp] theorem zmL (K:W.Frag):W.kitOne K (.type "list") (.type "bool")=some false:=by rfl
@[simp] theorem zlr (K:W.Frag):W.kitOne K (.type "tuple") (.type "bool")=some false:=by rfl
@[simp] theorem zmP (K:W.Frag):W.kitOne K (.type "dict") (.type "bool")=some false:=by rfl
@[simp] theorem zjE (K:W.Frag):W.kitOne K (.type "NoneType") (.type "int")=some false:=by rfl
@[simp] theorem znF (K:W.Frag):W.kitOne K (.type "bool") (.type "int")=some true:=by rfl
@[simp] theorem zo2 (K:W.Frag):W.kitOne K (.type "int") (.type "int")=some true:=by rfl
@[simp] theorem zo0 (K:W.Frag):W.kitOne K (.type "str") (.type "int")=some false:=by rfl
@[simp] theorem zny (K:W.Frag):W.kitOne K (.type "list") (.type "int")=some false:=by rfl
@[simp] theorem zmH (K:W.Frag):W.kitOne K (.type "tuple") (.type "int")=some false:=by rfl
@[simp] theorem znD (K:W.Frag):W.kitOne K (.type "dict") (.type "int")=some false:=by rfl
@[simp] theorem zjl (K:W.Frag):W.kitOne K (.type "NoneType") (.type "list")=some false:=by rfl
@[simp] theorem zmQ (K:W.Frag):W.kitOne K (.type "bool") (.type "list")=some false:=by rfl
@[simp] theorem znz (K:W.Frag):W.kitOne K (.type "int") (.type "list")=some false:=by rfl
@[simp] theorem znu (K:W.Frag):W.kitOne K (.type "str") (.type "list")=some false:=by rfl
@[simp] theorem zmJ (K:W.Frag):W.kitOne K (.type "list") (.type "list")=some true:=by rfl
@[simp] theorem zlp (K:W.Frag):W.kitOne K (.type "tuple") (.type "list")=some false:=by rfl
@[simp] theorem zmN (K:W.Frag):W.kitOne K (.type "dict") (.type "list")=some false:=by rfl
@[simp] theorem ziB (K:W.Frag):W.kitOne K (.type "NoneType") (.type "tuple")=some false:=by rfl
@[simp] theorem zlv (K:W.Frag):W.kitOne K (.type "bool") (.type "tuple")=some false:=by rfl
@[simp] theorem zmM (K:W.Frag):W.kitOne K (.type "int") (.type "tuple")=some false:=by rfl
@[simp] theorem zmI (K:W.Frag):W.kitOne K (.type "str") (.type "tuple")=some false:=by rfl
@[simp] theorem zls (K:W.Frag):W.kitOne K (.type "list") (.type "tuple")=some false:=by rfl
@[simp] theorem zkK (K:W.Frag):W.kitOne K (.type "tuple") (.type "tuple")=some true:=by rfl
@[simp] theorem zlu (K:W.Frag):W.kitOne K (.type "dict") (.type "tuple")=some false:=by rfl
@[simp] theorem zjm (K:W.Frag):W.kitOne K (.type "NoneType") (.type "dict")=some false:=by rfl
@[simp] theorem zmR (K:W.Frag):W.kitOne K (.type "bool") (.type "dict")=some false:=by rfl
@[simp] theorem znA (K:W.Frag):W.kitOne K (.type "int") (.type "dict")=some false:=by rfl
@[simp] theorem znv (K:W.Frag):W.kitOne K (.type "str") (.type "dict")=some false:=by rfl
@[simp] theorem zmK (K:W.Frag):W.kitOne K (.type "list") (.type "dict")=some false:=by rfl
@[simp] theorem zlq (K:W.Frag):W.kitOne K (.type "tuple") (.type "dict")=some false:=by rfl
@[simp] theorem zmO (K:W.Frag):W.kitOne K (.type "dict") (.type "dict")=some true:=by rfl
section
variable {Q:D->Prop}
end
class ME (t:TE'):Prop where
 mono:∀ Γ Q Q',(∀ d Γ',Q d Γ'->Q' d Γ')->t Γ Q->t Γ Q'
class MT (t:TT'):Prop where
 mono:∀ Γ Q Q',(∀ d Γ',Q d Γ'->Q' d Γ')->t Γ Q->t Γ Q'
class MA (t:TA'):Prop where
 mono:∀ Γ Q Q',(∀ d Γ',Q d Γ'->Q' d Γ')->t Γ Q->t Γ Q'
class MO (t:TO'):Prop where
 mono:∀ Γ Q Q',(∀ d Γ',Q d Γ'->Q' d Γ')->t Γ Q->t Γ Q'
class MP (t:TP'):Prop where
 mono:∀ Γ Q Q',(∀ d Γ',Q d Γ'->Q' d Γ')->t Γ Q->t Γ Q'
class MI (t:TI'):Prop where
 mono:∀ Γ Q Q',(∀ d Γ',Q d Γ'->Q' d Γ')->t Γ Q->t Γ Q'
class MG (g:TG'):Prop where
 mono:∀ d Γ Q Q',(∀ Γ',Q Γ'->Q' Γ')->g d Γ Q->g d Γ Q'
class MR2 (r:R2'):Prop where
 mono:∀ x y Q Q',(∀ d,Q d->Q' d)->r x y Q->r x y Q'
class MRC (r:RC'):Prop where
 mono:∀ x Q Q',(∀ d,Q d->Q' d)->r x Q->r x Q'
class MRS (r:RS'):Prop where
 mono:∀ x y z Q Q',(∀ d,Q d->Q' d)->r x y z Q->r x y z Q'
class MSp (sp:Sp'):Prop where
 mono:∀ x Q Q',(∀ d,Q d->Q' d)->sp x Q->sp x Q'
structure Ends'.le (N N':Ends'):Prop where
 nx:∀ Γ,N.nx Γ->N'.nx Γ
 rt:∀ r Γ,N.rt r Γ->N'.rt r Γ
 bk:∀ Γ,N.bk Γ->N'.bk Γ
 ct:∀ Γ,N.ct Γ->N'.ct Γ
class MS (t:TS'):Prop where
 mono:∀ N N' Γ,N.le N'->t N Γ->t N' Γ
instance {i:Nat}:ME (zB i):=⟨fun _ _ _ h ⟨d,e,q⟩=>⟨d,e,h _ _ q⟩⟩
instance {d:D}:ME (tC' d):=⟨fun _ _ _ h q=>h _ _ q⟩
instance {t:TO'} [MO t]:ME (zam t):=⟨fun Γ _ _ h q=>MO.mono (t:=t) Γ _ _ (fun _ _ z=>h _ _ z) q⟩
instance {r:R2'} {a b:TE'} [MR2 r] [ME a] [ME b]:ME (zaM r a b):=⟨fun Γ _ _ h q=>ME.mono (t:=a) Γ _ _ (fun _ _ z=>ME.mono (t:=b) _ _ _ (fun _ _ z=>MR2.mono (r:=r) _ _ _ _ (fun _ z=>h _ _ z) z) z) q⟩
instance {t:TE'} [ME t]:MT (tB' t):=⟨fun Γ _ _ h q=>ME.mono (t:=t) Γ _ _ (fun _ _ ⟨b,e,z⟩=>⟨b,e,h _ _ z⟩) q⟩
instance {t u:TT'} [MT t] [MT u]:MT (zao t u):=⟨fun Γ _ _ h q=>MT.mono (t:=t) Γ _ _ (fun b _ z=>by
 cases b with
 | true=>exact MT.mono (t:=u) _ _ _ h z
 | false=>exact h _ _ z) q⟩
instance {t:TT'} [MT t]:MT (zac t):=⟨fun Γ _ _ h q=>MT.mono (t:=t) Γ _ _ (fun b _ z=>h _ _ z) q⟩
instance:MT zaX:=⟨fun _ _ _ h q=>h _ _ q⟩
instance:MA zR:=⟨fun _ _ _ h q=>h _ _ q⟩
instance {a:TE'} {r:TA'} [ME a] [MA r]:MA (zt a r):=⟨fun Γ _ _ h q=>ME.mono (t:=a) Γ _ _ (fun _ _ z=>MA.mono (t:=r) _ _ _ (fun _ _ z=>h _ _ z) z) q⟩
instance {t:TA'} [MA t]:ME (zab t):=⟨fun Γ _ _ h q=>MA.mono (t:=t) Γ _ _ (fun _ _ ⟨a,z⟩=>⟨a,h _ _ z⟩) q⟩
instance {r:RC'} {t:TA'} [MRC r] [MA t]:ME (za3 r t):=⟨fun Γ _ _ h q=>MA.mono (t:=t) Γ _ _ (fun _ _ z=>MRC.mono (r:=r) _ _ _ (fun _ z=>h _ _ z) z) q⟩
instance:MP zY:=⟨fun _ _ _ h q=>h _ _ q⟩
instance {t:TE'} [ME t]:MP (zaZ t):=⟨fun Γ _ _ h q=>ME.mono (t:=t) Γ _ _ (fun _ _ ⟨i,e,z⟩=>⟨i,e,h _ _ z⟩) q⟩
instance {r:RS'} {e:TE'} {l u:TP'} [MRS r] [ME e] [MP l] [MP u]:ME (zaY r e l u):=⟨fun Γ _ _ h q=>ME.mono (t:=e) Γ _ _ (fun _ _ z=>MP.mono (t:=l) _ _ _ (fun _ _ z=>MP.mono (t:=u) _ _ _ (fun _ _ z=>MRS.mono (r:=r) _ _ _ _ _ (fun _ z=>h _ _ z) z) z) z) q⟩
instance {sp:Sp'} {t:TA'} [MSp sp] [MA t]:ME (zv sp t):=⟨fun Γ _ _ h q=>MA.mono (t:=t) Γ _ _ (fun _ _ z=>MSp.mono (sp:=sp) _ _ _ (fun _ z=>h _ _ z) z) q⟩
instance {i:Nat}:MG (zr i):=⟨fun _ _ _ _ h q=>h _ q⟩
theorem Ends'.le.nxt {N N':Ends'} (h:N.le N') {P P':Sts->Prop} (hp:∀ Γ,P Γ->P' Γ):Ends'.le { N with nx:=P } { N' with nx:=P' }:=⟨hp,h.rt,h.bk,h.ct⟩
instance:MS zw:=⟨fun _ _ _ h q=>h.nx _ q⟩
instance {t u:TS'} [MS t] [MS u]:MS (zX t u):=⟨fun N N' Γ h q=>MS.mono (t:=t) _ _ _ (h.nxt fun Γ' z=>MS.mono (t:=u) N N' Γ' h z) q⟩
instance {t:TE'} [ME t]:MS (zQ t):=⟨fun N N' Γ h q=>ME.mono (t:=t) _ _ _ (fun _ _ z=>h.rt _ _ z) q⟩
instance {c:TT'} {t u:TS'} [MT c] [MS t] [MS u]:MS (zU c t u):=⟨fun N N' Γ h q=>MT.mono (t:=c) _ _ _ (fun b Γ1 z=>by
 cases b with
 | true=>exact MS.mono (t:=t) N N' Γ1 h z
 | false=>exact MS.mono (t:=u) N N' Γ1 h z) q⟩
instance {t:TE'} {g:TG'} [ME t] [MG g]:MS (zV t g):=⟨fun N N' Γ h q=>ME.mono (t:=t) _ _ _ (fun _ _ z=>MG.mono (g:=g) _ _ _ _ (fun _ z=>h.nx _ z) z) q⟩
theorem zeT {g:TG'} {tb:TS'} [MG g] [MS tb] {N N':Ends'} (h:N.le N'):∀ (ds:List D) (Γ:Sts),zd2 g tb N ds Γ->zd2 g tb N' ds Γ
 | [],Γ,q=>h.nx Γ q
 | d :: ds,Γ,q=>MG.mono (g:=g) _ _ _ _ (fun Γ2 z=>MS.mono (t:=tb) { N with nx:=zd2 g tb N ds,ct:=zd2 g tb N ds,bk:=N.nx } { N' with nx:=zd2 g tb N' ds,ct:=zd2 g tb N' ds,bk:=N'.nx } _ ⟨fun Γ3 z=>zeT h ds Γ3 z,h.rt,h.nx,fun Γ3 z=>zeT h ds Γ3 z⟩ z) q
instance {ti:TI'} {g:TG'} {tb:TS'} [MI ti] [MG g] [MS tb]:MS (zag ti g tb):=⟨fun N N' Γ h q=>MI.mono (t:=ti) _ _ _ (fun ds Γ1 z=>zeT h ds Γ1 z) q⟩
theorem zhY {g:TG'} {tb:TS'} [MG g] [MS tb] {N:Ends'} (I:List D->Sts->Prop) (h0:∀ Γ,I [] Γ->N.nx Γ) (hs:∀ d ds Γ,I (d :: ds) Γ->g d Γ fun Γ2=>tb { N with nx:=I ds,ct:=I ds,bk:=N.nx } Γ2) :
  ∀ (ds:List D) (Γ:Sts),I ds Γ->zd2 g tb N ds Γ
 | [],Γ,h=>h0 Γ h
 | d :: ds,Γ,h=>MG.mono (g:=g) _ _ _ _ (fun Γ2 z=>MS.mono (t:=tb) { N with nx:=I ds,ct:=I ds,bk:=N.nx } { N with nx:=zd2 g tb N ds,ct:=zd2 g tb N ds,bk:=N.nx } _ ⟨fun Γ3 z=>zhY I h0 hs ds Γ3 z,fun _ _ z=>z,fun _ z=>z,fun Γ3 z=>zhY I h0 hs ds Γ3 z⟩ z) (hs d ds Γ h)
theorem zfp {g:TG'} {tb:TS'} [MG g] [MS tb] {N:Ends'} {ds:List D} {Γ:Sts} (I:Nat->Sts->Prop) (h:I 0 Γ) (hs:∀ (i:Nat) d Γ,ds[i]?=some d->I i Γ->g d Γ fun Γ2=>tb { N with nx:=I (i+1),ct:=I (i+1),bk:=N.nx } Γ2) (h0:∀ Γ,I ds.length Γ->N.nx Γ):zd2 g tb N ds Γ:=by
 refine zhY (fun es Γ=>∃ i,es=ds.drop i/\i<=ds.length/\I i Γ) ?_ ?_ ds Γ ⟨0,rfl,yf _,h⟩
 ·rintro Γ ⟨i,e,hi,q⟩
  have:i=ds.length:=by
   have:=ye List.length e
   rw [List.length_drop] at this
   simp at this
   omega
  subst this; exact h0 Γ q
 ·rintro d es Γ ⟨i,e,hi,q⟩
  have hlt:i<ds.length:=by
   have:=ye List.length e
   rw [List.length_drop] at this
   simp at this
   omega
  rw [YK hlt] at e
  injection e with e1 e2
  subst e1
  have go:∀ Γ',I (i+1) Γ'->∃ j,es=ds.drop j/\j<=ds.length/\I j Γ':=fun Γ' z=>⟨i+1,e2,hlt,z⟩
  exact MG.mono (g:=g) _ _ _ _ (fun Γ2 z=>MS.mono (t:=tb) { N with nx:=I (i+1),ct:=I (i+1),bk:=N.nx } _ _ ⟨go,fun _ _ z=>z,fun _ z=>z,go⟩ z) (hs i _ Γ (yB hlt) q)
theorem zeh {c:TT'} {tb:TS'} [MT c] [MS tb] {N:Ends'} {Γ:Sts} (I:Sts->Prop) (μ:Sts->Nat) (h:I Γ) (hs:∀ Γ,I Γ->c Γ fun b Γ1=>if b=true then tb { N with nx:=fun Γ2=>I Γ2/\μ Γ2<μ Γ,ct:=fun Γ2=>I Γ2/\μ Γ2<μ Γ,bk:=N.nx } Γ1 else N.nx Γ1):zjL c tb N Γ:=by
 refine ⟨fun m Γ=>m=μ Γ/\I Γ,⟨_,rfl,h⟩,?_⟩
 rintro m Γ ⟨rfl,p⟩
 refine MT.mono (t:=c) _ _ _ (fun b Γ1 z=>?_) (hs Γ p)
 cases b with
 | true=>exact MS.mono (t:=tb) { N with nx:=fun Γ2=>I Γ2/\μ Γ2<μ Γ,ct:=fun Γ2=>I Γ2/\μ Γ2<μ Γ,bk:=N.nx } _ _ ⟨fun Γ2 ⟨a,b⟩=>⟨_,b,rfl,a⟩,fun _ _ z=>z,fun _ z=>z,fun Γ2 ⟨a,b⟩=>⟨_,b,rfl,a⟩⟩ z
 | false=>exact z
theorem zcN {g:TG'} {tc:TT'} {te:TE'} [MG g] [MT tc] [ME te] {Q:List D->Prop} {ds:List D} {Γ:Sts} (I:Nat->List D->Sts->Prop) (h:I 0 [] Γ)
  (hs:∀ (i:Nat) d acc Γ,ds[i]?=some d->I i acc Γ->g d Γ fun Γ2=>tc Γ2 fun b Γ3=>if b=true then te Γ3 fun y Γ4=>I (i+1) (acc ++ [y]) (vo Γ4) else I (i+1) acc (vo Γ3)) (h0:∀ acc Γ,I ds.length acc Γ->Q acc):zd7 g tc te Q ds [] Γ:=by
 have key:∀ (n i:Nat) (acc:List D) (Γ:Sts),n=ds.length-i->i<=ds.length->I i acc Γ->zd7 g tc te Q (ds.drop i) acc Γ:=by
  intro n
  induction n with
  | zero =>
   intro i acc Γ hn hi q
   have:i=ds.length:=by omega
   subst this; rw [YQ (yF _)]; exact h0 acc Γ q
  | succ n ih =>
   intro i acc Γ hn hi q
   have hlt:i<ds.length:=by omega
   rw [YK hlt]
   refine MG.mono (g:=g) _ _ _ _ (fun Γ2 z=>MT.mono (t:=tc) _ _ _ (fun b Γ3 z=>?_) z) (hs i _ acc Γ (yB hlt) q)
   cases b with
   | true=>exact ME.mono (t:=te) _ _ _ (fun y Γ4 z=>ih (i+1) _ _ (by omega) hlt z) z
   | false=>exact ih (i+1) _ _ (by omega) hlt z
 exact key _ 0 [] Γ rfl (yf _) h
instance {g:Int->Int->D}:MR2 (znk g):=⟨fun _ _ _ _ h ⟨i,j,a,b,q⟩=>⟨i,j,a,b,h _ q⟩⟩
instance {C:Int->Int->Prop} {g:Int->Int->D}:MR2 (rI' C g):=⟨fun _ _ _ _ h ⟨i,j,a,b,c,q⟩=>⟨i,j,a,b,c,h _ q⟩⟩
instance:MR2 zhv:=⟨fun _ _ _ _ h ⟨i,j,a,b,c,q⟩=>⟨i,j,a,b,c,h _ q⟩⟩
instance:MR2 zfP:=⟨fun _ _ _ _ h q=>by
 rcases q with ⟨i,j,a,b,q⟩ | q
 ·exact .inl ⟨i,j,a,b,h _ q⟩
 ·exact .inr (MR2.mono (r:=zhv) _ _ _ _ h q)⟩
instance {neg:Bool}:MR2 (zl3 neg):=⟨fun _ _ _ _ h ⟨c,l,a,b,q⟩=>⟨c,l,a,b,h _ q⟩⟩
instance {neg:Bool}:MR2 (zl4 neg):=⟨fun _ _ _ _ h ⟨i,c,l,a,b,q⟩=>⟨i,c,l,a,b,h _ q⟩⟩
instance:MR2 zfM:=⟨fun _ _ _ _ h q=>by
 rcases q with q | q
 ·exact .inl (MR2.mono (r:=zl3 true) _ _ _ _ h q)
 ·exact .inr (MR2.mono (r:=zl4 true) _ _ _ _ h q)⟩
instance:MR2 zln:=⟨fun _ _ _ _ h ⟨i,e,q⟩=>⟨i,e,by
 rcases q with ⟨ds,d,a,b,q⟩ | ⟨ds,d,a,b,q⟩ | ⟨l,c,a,b,e,q⟩
 ·exact .inl ⟨ds,d,a,b,h _ q⟩
 ·exact .inr (.inl ⟨ds,d,a,b,h _ q⟩)
 ·exact .inr (.inr ⟨l,c,a,b,e,h _ q⟩)⟩⟩
instance:MRS zj5:=⟨fun _ _ _ _ _ h q=>by
 rcases q with ⟨l,a,b,q⟩ | ⟨l,a,q⟩
 ·refine .inl ⟨l,a,b,?_⟩
  rcases q with ⟨c,n,d,e,q⟩ | ⟨c,n,d,e,q⟩
  ·exact .inl ⟨c,n,d,e,h _ q⟩
  ·exact .inr ⟨c,n,d,e,h _ q⟩
 ·exact .inr ⟨l,a,h _ q⟩⟩
instance:MRC ze5:=⟨fun _ _ _ h ⟨d,e,q⟩=>⟨d,e,by
 rcases q with ⟨l,a,b,q⟩ | ⟨l,a,q⟩ | ⟨l,a,q⟩
 ·exact .inl ⟨l,a,b,h _ q⟩
 ·exact .inr (.inl ⟨l,a,h _ q⟩)
 ·exact .inr (.inr ⟨l,a,h _ q⟩)⟩⟩
def zhj:Sp':=fun ds Q=>∃ ns:List Int,ds=[.lst (ns.map .int)]/\ns.length<=63/\Q (.val (.bl true))
theorem ziN {K:W.Frag} {H:Hp}:∀ ns:List Int,zbv K H (ns.map V.int) (ns.map D.int)
 | []=>.nil
 | n :: ns=>.cons (.int n) (ziN ns)
theorem zlN (K:W.Frag) (H:Hp) (a:Addr) (ns:List Int) (hl:ns.length<=63) (hO:zrK H) (hS:SqL K H a (ns.map V.int)):zlM K zhj [.ref a] H (fun v _=>v=.bl true) (fun _ _ _=>False):=by
 refine ⟨H,[.lst (ns.map .int)],fun r=>r=.val (.bl true),⟨zaG.refl _,fun b xs q=>q⟩,.cons (Den.mkL hS (ziN ns)) .nil,⟨ns,rfl,hl,rfl⟩,?_⟩
 rintro Hi' H' v r ex ro rfl
 exact Den.blI ro
theorem zqO {P:Program} {w:World} {K:W.Frag} {mg:Str->Option Value} {k:Nat} {fa:Addr} {oc:Value} {od:Option Addr} {fd:FuncData} {sl:Array (Option Value)} {ps:List Str}
  (hfa:mg "law"=some (.ref fa)) (lk:K.lookup fa=some ⟨oc,od,.func fd,sl⟩) (base:Heap) (G:Fn P w K mg base k "law" ps zhj):FnOk P w K mg base CX0 k fa fd ps (zlM K zhj):=by
 obtain ⟨f,fd',F,_,_,m,oc',od',sl',lk'⟩:=G.ex; rw [hfa] at m; cases m; rw [lk] at lk'; cases lk'; exact F
theorem walk_law {l:W.OpenLaw} {k:Nat} {q:Program} {loose:List Str} {XP:(Str->Option Value)->Heap->Prop} {YP:World->Heap->Prop} {d:DefRec} {K:Params->W.Frag} {x:Str} (hn:l.most=some 63) (hdf:d.params.defaults=[]) (hr:Room k callerA)
  (hY:∀ (w:World) (h:Heap),YP w h->(K w.params).In h)
  (F:∀ (w:World) (mg:Str->Option Value) (fa:Addr) (h:Heap),(K w.params).In h->h.Ns mainGlobals mg->mg d.name=some (.ref fa) ->
   ∃ fd:FuncData,(∀ (s:Shared) (u:Value),BindsTo s fd ⟨[u],[]⟩ [(x,u)])/\∀ base:Heap,(K w.params).In base->base.Ns mainGlobals mg->FnOk l.prog w (K w.params) mg base CX0 k fa fd [x] (zlM (K w.params) zhj)) :
  W.WalkO q loose XP YP l.row.toRowW d [] (fun f vs=>PySem.call f vs) :=
 L2.walk_of (n:=63) (k:=k) (x:=x) (CX:=fun _=>CX0) (sp:=fun w=>zlM (K w.params) zhj) hn (by decide) hdf hr hY F (fun _ _ a ns hl hO hS=>zlN _ _ a ns hl hO hS) fun _ _ _ _ _ z=>z
end PL
namespace L2
open PySem PySem.Spec PyProof.Rows
section
variable {X:Cx}
theorem zoL:OpR X (binaryOp .Add) (fun x y H Q=>∃ a b xs ys,x=.ref a/\y=.ref b/\SqT X.K H a xs/\SqT X.K H b ys/\xs.length+ys.length<=sizeLine/\(xs=[]->Q (.ref b) H)/\(xs≠[]->ys=[]->Q (.ref a) H) /\
  (xs≠[]->ys≠[]->∀ p,H p=none->Q (.ref p) (upd H p (.tup (xs ++ ys))))):=by
 intro pins s σ H x y v u Q I rx ry h; obtain ⟨a,b,xs,ys,rfl,rfl,ha,hb,hz,q0,q1,q2⟩:=h
 by_cases hx:xs=[]
 ·cases rx
  cases ry; obtain ⟨its,r1,p1,_⟩:=I.tuple ha; obtain ⟨its2,r2,p2,_⟩:=I.tuple hb
  obtain ⟨⟨cls,dd,data,sl⟩,ho,hc,n,hd⟩:=id p1
  obtain ⟨⟨cls2,dd2,data2,sl2⟩,ho2,hc2,n2,hd2⟩:=id p2
  simp only at hc hd hc2 hd2
  subst hc hd hc2 hd2
  have hi:its=[]:=r1.nil_iff.mpr hx
  refine concat_meets ⟨_,ho,rfl⟩ ⟨_,ho2,rfl⟩ noFill_tuple_add seq_tuple_add PySem.F.slot_tuple_add PySem.F.entry_tuple_add (PySem.F.args_tuple_add_2 _ _)
   (tuple_addW0 a b its.toArray its2.toArray n n2 dd dd2 sl sl2 (by simp [hi])) ⟨ho,ho2,?_⟩
  exact ⟨.ref b,H,I,rfl,q0 hx⟩
 ·exact zoJ pins s σ H _ _ v u Q I rx ry ⟨a,b,xs,ys,rfl,rfl,ha,hb,hx,hz,q1 hx,q2 hx⟩
end
end L2
namespace HT
open PySem PyProof.Rows
section
variable {prog:Program} {w:World} {A:Around} {E:Value->Shared->Prop} {s:Shared}
theorem getItem_tuple_whole {t sl:Addr} {items:Array Value} {vl vu:Value} {lo hi:Option Int} {Q:Value->Shared->Prop} (ht:IsTup s.heap t items) (hs:s.heap.IsSliceOf sl vl vu .none) (pl:IsPart vl lo) (pu:IsPart vu hi)
  (hw:sIx items.size 0 lo=0/\sIx items.size items.size hi=items.size) (h:Q (.ref t) s):wpAny (model prog w) A (getItem (.ref t) (.ref sl)) Q E s:=by
 obtain ⟨os,hos,hcs,hds⟩:=id hs
 have hTs:s.TypeIs (.ref sl) "slice":=⟨os,hos,hcs⟩
 unfold getItem
 try with_reducible refine YS ?_
 first | refine yA (yD ?_) | skip
 refine yA (wpAny_sequenceKey ht.typeIs (by decide) ?_)
 refine yA (wpAny_callSpecial?_slot (name:=Str.ofString "__getitem__") ht.typeIs Yb
  (yx Yb ht.typeIs entry_tuple_getitem ?_ (args_tuple_getitem _ _)))
 show wpAny _ _ (Builtin.Tuple.tupleItemsOf (.ref t) >>= _) _ _ s
 refine yA (tupleItemsOf_ ht ?_); refine yA (wpAny_typeOf hTs ?_)
 rw [yR (by decide)]
 refine yA (zcq hs pl pu ?_)
 have hyes:((((sIx items.size 0 lo:Nat):Int) == 0 && (1:Int) == 1 && (sIx items.size items.size hi-sIx items.size 0 lo) == items.size)=true):=by
  rw [hw.1,hw.2]; simp
 show wpAny _ _ (if (((sIx items.size 0 lo:Nat):Int) == 0 && (1:Int) == 1 && (sIx items.size items.size hi-sIx items.size 0 lo) == items.size)=true then _ else _) _ _ s
 rw [yR hyes]; refine yA (m:=Builtin.Tuple.tupleIsExact (.ref t)) ?_; unfold Builtin.Tuple.tupleIsExact; refine yA (wpAny_typeOf ht.typeIs ?_); refine yD ?_
 rw [yR (by decide)]
 exact yA (wpAny_rule (yD ⟨_,rfl,yD h⟩))
end
end HT
namespace L2
open PySem PySem.Spec PyProof.Rows
section
variable {X:Cx}
theorem zn5:SlR X (fun x lo hi H Q=>∃ a xs,x=.ref a/\SqT X.K H a xs/\((HT.sIx xs.length 0 lo=0/\HT.sIx xs.length xs.length hi=xs.length)->Q (.ref a) H) /\
  (¬ (HT.sIx xs.length 0 lo=0/\HT.sIx xs.length xs.length hi=xs.length)->∀ p,H p=none->Q (.ref p) (upd H p (.tup (zk9 xs lo hi))))):=by
 intro pins s σ H x v vl vu lo hi sl Q I rx hs pl pu h; obtain ⟨a,xs,rfl,hx,q1,q2⟩:=h
 by_cases hw:HT.sIx xs.length 0 lo=0/\HT.sIx xs.length xs.length hi=xs.length
 ·cases rx
  obtain ⟨its,r,ht,hz⟩:=I.tuple hx
  have hlen:its.toArray.size=xs.length:=by rw [yK]; exact r.length.symm
  refine ⟨"tuple",_,PyProof.Rows.slot_tuple_getitem.lookup,ht.typeIs,?_⟩
  exact HT.getItem_tuple_whole ht hs pl pu (by rw [hlen]; exact hw) ⟨.ref a,H,I,rfl,q1 hw⟩
 ·exact zpQ pins s σ H _ v vl vu lo hi sl Q I rx hs pl pu ⟨a,xs,rfl,hx,hw,q2 hw⟩
end
end L2
namespace PL
open PySem L2
section
variable {X:Cx} {K:W.Frag}
def zhu:R2':=fun x y Q=>∃ xs ys,x=.tup xs/\y=.tup ys/\xs.length+ys.length<=sizeLine/\Q (.tup (xs ++ ys))
theorem zqI:Op2 X (binaryOp .Add) zhu:=⟨_,zoL,by
 rintro Hi H x y dx dy Q Q2 s d1 d2 ⟨xs,ys,rfl,rfl,hl,q⟩ fin
 obtain ⟨a,vs,rfl,h1,h2⟩:=d1.tupI; obtain ⟨b,us,rfl,h3,h4⟩:=d2.tupI
 refine ⟨a,b,vs,us,rfl,rfl,zaz s.sub h1,zaz s.sub h3,by rw [zl h2,zl h4]; exact hl,fun e=>?_,fun _ e=>?_,fun _ _ p hp=>?_⟩
 ·subst e
  cases h2; exact fin Hi H _ _ (Ext.refl s) d2 q
 ·subst e
  cases h4; rw [YJ] at q; exact fin Hi H _ _ (Ext.refl s) d1 q
 ·have e:=Ext.new s hp (.tup (vs ++ us))
  exact fin _ _ _ _ e (Den.mkT zu (paired_app (h2.mono e.hi) (h4.mono e.hi))) q⟩
theorem zr2:Sli X zgu:=⟨_,zn5,by
 rintro Hi H x dx lo hi Q Q2 s d1 ⟨ds,rfl,q⟩ fin
 obtain ⟨a,vs,rfl,h1,h2⟩:=d1.tupI; have hl:=zl h2
 refine ⟨a,vs,rfl,zaz s.sub h1,fun hw=>?_,fun _ p hp=>?_⟩
 ·have e:zeg ds lo hi=ds:=by
   unfold zeg; rw [<- hl,hw.1,hw.2,List.drop_zero,Nat.sub_zero,hl,List.take_length]
  rw [e] at q; exact fin Hi H _ _ (Ext.refl s) d1 q
 ·have e:=Ext.new s hp (.tup (zk9 vs lo hi))
  exact fin _ _ _ _ e (Den.mkT zu (zk8 (h2.mono e.hi))) q⟩
def eqL (f:D->D->Option Bool):List D->List D->Option Bool
 | x :: xs,y :: ys=>match f x y,eqL f xs ys with
  | some a,some b=>some (a && b)
  | _,_=>none
 | [],[]=>some true
 | _,_=>some false
def eqD:Nat->D->D->Option Bool
 | n+1,.tup xs,.tup ys=>eqL (eqD n) xs ys
 | n+1,.lst xs,.lst ys=>if xs.length=ys.length then eqL (eqD n) xs ys else some false
 | _,x,y=>eqS x y
theorem zpl {x y:V} {dx dy:D} {b:Bool} {Hi:Hp} (d1:Den K Hi x dx) (d2:Den K Hi y dy) (h:eqS dx dy=some b):zeU x=true/\zeU y=true/\eqV x y=b:=by
  have s1:=d1.scl (zdy h); have s2:=d2.scl (zdy (zkU _ _ h).choose_spec)
  cases s1 <;> rename_i e1 <;> subst e1 <;> cases s2 <;> rename_i e2 <;> subst e2 <;> first
    | (exact yO (show (none:Option Bool)=some b from h) (fun z=>nomatch z))
    | (refine ⟨rfl,rfl,?_⟩
       have h':=Option.some.inj h
       subst h'
       first
         | rfl
         | (show ((_:Int) == _)=decide _; rw [Bool.beq_eq_decide_eq])
         | (show ((_:Bool) == _)=decide _; rw [Bool.beq_eq_decide_eq])
         | (show ((_:Str) == _)=decide _
            rw [Bool.beq_eq_decide_eq]
            exact decide_eq_decide.mpr ⟨fun z=>st_inj z,fun z=>ye st z⟩))
theorem zed {x:V} {dx dy:D} {b:Bool} {Hi:Hp} (d1:Den K Hi x dx) (d2:Den K Hi x dy) (h:eqS dx dy=some b):b=true:=by
 obtain ⟨f1,f2,e⟩:=zpl d1 d2 h; rw [<- e]
 cases x <;> first | rfl | (exact yO (show false=true from f1) yL) | (show ((_:_) == _)=true; exact beq_self_eq_true _)
theorem zdz {f:D->D->Option Bool} {Hi:Hp} (hf:∀ v x y b,Den K Hi v x->Den K Hi v y->f x y=some b->b=true):∀ {vs:List V} {xs ys:List D} {b:Bool},zbv K Hi vs xs->zbv K Hi vs ys->eqL f xs ys=some b->b=true
 | [],_,_,b,.nil,.nil,h=>(Option.some.inj h).symm
 | v :: vs,x :: xs,y :: ys,b,.cons r1 t1,.cons r2 t2,h=>by
  unfold eqL at h
  cases e1:f x y with
  | none=>rw [e1] at h; cases h
  | some a =>
   cases e2:eqL f xs ys with
   | none=>rw [e1,e2] at h; cases h
   | some c =>
    rw [e1,e2] at h; rw [<- Option.some.inj h,hf v x y a r1 r2 e1,zdz hf t1 t2 e2]; rfl
theorem zee (x y:D):eqD 0 x y=eqS x y:=by cases x <;> cases y <;> rfl
section
variable {pins:List (Addr × Obj)} {σ:St} {H Hi:Hp} {s:Shared}
theorem ziJ (I:L2.Inv X pins σ H s) (sub:zaG Hi H):∀ (n:Nat) (v:V) (x y:D) (b:Bool),Den X.K Hi v x->Den X.K Hi v y->eqD n x y=some b->b=true:=by
 intro n
 induction n with
 | zero =>
  intro v x y b d1 d2 h; rw [zee] at h; exact zed d1 d2 h
 | succ n ih =>
  intro v x y b d1 d2 h
  cases x with
  | tup xs =>
   cases y with
   | tup ys =>
    obtain ⟨a,vs,rfl,h1,h2⟩:=d1.tupI; obtain ⟨a',us,e,h3,h4⟩:=d2.tupI; cases e; have e:=I.tuple_inj (zaz sub h1) (zaz sub h3); subst e; exact zdz ih h2 h4 h
   | _=>exact zed d1 d2 h
  | lst xs =>
   cases y with
   | lst ys =>
    obtain ⟨a,vs,rfl,h1,h2⟩:=d1.lstI; obtain ⟨a',us,e,h3,h4⟩:=d2.lstI; cases e; have e:=I.list_inj (zai sub h1) (zai sub h3); subst e
    have hl:xs.length=ys.length:=by rw [<- zl h2,<- zl h4]
    unfold eqD at h; rw [yR hl] at h; exact zdz ih h2 h4 h
   | _=>exact zed d1 d2 h
  | _=>exact zed d1 d2 h
theorem zcJ {f:D->D->Option Bool}:∀ {xs ys:List D} {b:Bool},eqL f xs ys=some b->∃ e:Nat->Bool,(∀ (j:Nat) x y,xs[j]?=some x->ys[j]?=some y->f x y=some (e j))/\b=((List.range (min xs.length ys.length)).all e && xs.length == ys.length)
 | [],[],b,h=>⟨fun _=>true,fun j x y h1 _=>by simp at h1,by simpa [eqL] using h.symm⟩
 | [],y :: ys,b,h=>⟨fun _=>true,fun j x y h1 _=>by simp at h1,by simpa [eqL] using h.symm⟩
 | x :: xs,[],b,h=>⟨fun _=>true,fun j x y _ h2=>by simp at h2,by simpa [eqL] using h.symm⟩
 | x :: xs,y :: ys,b,h=>by
  unfold eqL at h
  cases e1:f x y with
  | none=>rw [e1] at h; cases h
  | some a =>
   cases e2:eqL f xs ys with
   | none=>rw [e1,e2] at h; cases h
   | some c =>
    rw [e1,e2] at h; obtain ⟨e,h1,h2⟩:=zcJ e2
    refine ⟨fun j=>match j with | 0=>a | j+1=>e j,fun j x' y' hx hy=>?_,?_⟩
    ·cases j with
     | zero=>simp at hx hy; subst hx; subst hy; exact e1
     | succ j=>exact h1 j x' y' (by simpa using hx) (by simpa using hy)
    ·rw [<- Option.some.inj h,h2]
     have hm:min (x :: xs).length (y :: ys).length=min xs.length ys.length+1:=by simp [Nat.succ_min_succ]
     rw [hm,List.range_succ_eq_map,List.all_cons,List.all_map]
     show (a && ((List.range (min xs.length ys.length)).all e && xs.length == ys.length))=((a && (List.range (min xs.length ys.length)).all e) && (x :: xs).length == (y :: ys).length)
     rw [Bool.and_assoc]
     congr 2
     simp
theorem zqZ (I:L2.Inv X pins σ H s) (sub:zaG Hi H):∀ (n:Nat) (A:Around) (x y:V) (u v:Value) (dx dy:D) (b:Bool),A.units+n<cLine->Den X.K Hi x dx->Den X.K Hi y dy->za8 x u->za8 y v->eqD n dx dy=some b->SeqAt.EqAt A s u v b:=by
 intro n
 induction n with
 | zero =>
  intro A x y u v dx dy b hu d1 d2 rx ry h; rw [zee] at h; obtain ⟨f1,f2,e⟩:=zpl d1 d2 h; rw [<- e]; exact zkW rx ry f1 f2
 | succ n ih =>
  intro A x y u v dx dy b hu d1 d2 rx ry h
  have zn8:eqS dx dy=some b->SeqAt.EqAt A s u v b:=fun h=>by
   obtain ⟨f1,f2,e⟩:=zpl d1 d2 h; rw [<- e]; exact zkW rx ry f1 f2
  have items:∀ {vs ws:List V} {its jts:List Value} {xs ys:List D} {e:Nat->Bool},zbv X.K Hi vs xs->zbv X.K Hi ws ys->zaL vs its->zaL ws jts->(∀ (j:Nat) x y,xs[j]?=some x->ys[j]?=some y->eqD n x y=some (e j)) ->
    ∀ j (h1:j<its.toArray.size) (h2:j<jts.toArray.size),SeqAt.EqAt A.in1 s its.toArray[j] jts.toArray[j] (e j):=fun {vs ws its jts xs ys e} r1 r2 v1 v2 he j h1 h2=>by
   have l1:j<vs.length:=by rw [v1.length]; simpa using h1
   have l2:j<ws.length:=by rw [v2.length]; simpa using h2
   obtain ⟨dx',e1,q1⟩:=zco r1 (yB l1); obtain ⟨dy',e2,q2⟩:=zco r2 (yB l2); obtain ⟨u1,e3,q3⟩:=v1.get (yB l1); obtain ⟨u2,e4,q4⟩:=v2.get (yB l2)
   have z1:its.toArray[j]=u1:=by
    have:=yG.mp e3
    obtain ⟨_,z⟩:=this
    simpa using z
   have z2:jts.toArray[j]=u2:=by
    have:=yG.mp e4
    obtain ⟨_,z⟩:=this
    simpa using z
   rw [z1,z2]
   exact ih A.in1 _ _ u1 u2 dx' dy' (e j) (by show A.units+1+n<cLine; omega) q1 q2 q3 q4 (he j dx' dy' e1 e2)
  cases dx with
  | tup xs =>
   cases dy with
   | tup ys =>
    obtain ⟨a,vs,rfl,h1,h2⟩:=d1.tupI; obtain ⟨c,ws,rfl,h3,h4⟩:=d2.tupI; cases rx; cases ry
    by_cases hac:a=c
    ·subst hac
     have e:=I.tuple_inj (zaz sub h1) (zaz sub h3); subst e; rw [zdz (ziJ I sub n) h2 h4 h]; exact SeqAt.EqAt.same _
    ·obtain ⟨its,r1,p1,_⟩:=I.tuple (zaz sub h1)
     obtain ⟨jts,r2,p2,_⟩:=I.tuple (zaz sub h3); obtain ⟨e,he,hb⟩:=zcJ h
     have lx:xs.length=its.length:=by rw [<- zl h2,r1.length]
     have ly:ys.length=jts.length:=by rw [<- zl h4,r2.length]
     have hb':b=((List.range (min its.toArray.size jts.toArray.size)).all e && its.toArray.size == jts.toArray.size):=by
      rw [hb,lx,ly]; simp
     rw [hb']
     exact SeqAt.EqAt.of_refs hac (SeqAt.RcAt.tuples (show s.heap.IsTuple a its.toArray from p1) (show s.heap.IsTuple c jts.toArray from p2) (by omega) (items h2 h4 r1 r2 he))
   | _=>exact zn8 h
  | lst xs =>
   cases dy with
   | lst ys =>
    obtain ⟨a,vs,rfl,h1,h2⟩:=d1.lstI; obtain ⟨c,ws,rfl,h3,h4⟩:=d2.lstI; cases rx; cases ry; unfold eqD at h
    by_cases hac:a=c
    ·subst hac
     have e:=I.list_inj (zai sub h1) (zai sub h3); subst e
     have hl:xs.length=ys.length:=by rw [<- zl h2,<- zl h4]
     rw [yR hl] at h; rw [zdz (ziJ I sub n) h2 h4 h]; exact SeqAt.EqAt.same _
    ·obtain ⟨its,r1,p1,_⟩:=I.list (zai sub h1)
     obtain ⟨jts,r2,p2,_⟩:=I.list (zai sub h3)
     have lx:xs.length=its.length:=by rw [<- zl h2,r1.length]
     have ly:ys.length=jts.length:=by rw [<- zl h4,r2.length]
     by_cases hl:xs.length=ys.length
     ·rw [yR hl] at h
      obtain ⟨e,he,hb⟩:=zcJ h
      have hs:its.toArray.size=jts.toArray.size:=by simp; omega
      have hb':b=((List.range its.toArray.size).all e):=by
       rw [hb,lx,ly]
       have z:(its.length == jts.length)=true:=by simp; omega
       have z2:min its.length jts.length=its.length:=by omega
       rw [z,z2,Bool.and_true]; simp
      rw [hb']
      exact SeqAt.EqAt.of_refs hac (SeqAt.RcAt.lists p1.isList p2.isList hs (by omega) (items h2 h4 r1 r2 he))
     ·rw [yM hl] at h
      cases h
      exact SeqAt.EqAt.of_refs hac (SeqAt.RcAt.lists_lengths p1.isList p2.isList (by simp; omega) (by omega))
   | _=>exact zn8 h
  | _=>exact zn8 h
end
section
variable {pins:List (Addr × Obj)} {σ:St} {H Hi:Hp} {s:Shared}
theorem ziG (I:L2.Inv X pins σ H s) (sub:zaG Hi H) {n:Nat} {A:Around} (hu:A.units+1+n<cLine) {vs ws:List V} {its jts:List Value} {xs ys:List D} {e:Nat->Bool} (r1:zbv X.K Hi vs xs) (r2:zbv X.K Hi ws ys) (v1:zaL vs its) (v2:zaL ws jts) (he:∀ (j:Nat) x y,xs[j]?=some x->ys[j]?=some y->eqD n x y=some (e j)) :
  ∀ j (h1:j<its.toArray.size) (h2:j<jts.toArray.size),SeqAt.EqAt A.in1 s its.toArray[j] jts.toArray[j] (e j):=fun j h1 h2=>by
 have l1:j<vs.length:=by rw [v1.length]; simpa using h1
 have l2:j<ws.length:=by rw [v2.length]; simpa using h2
 obtain ⟨dx',e1,q1⟩:=zco r1 (yB l1); obtain ⟨dy',e2,q2⟩:=zco r2 (yB l2); obtain ⟨u1,e3,q3⟩:=v1.get (yB l1); obtain ⟨u2,e4,q4⟩:=v2.get (yB l2)
 have z1:its.toArray[j]=u1:=by
  obtain ⟨_,z⟩:=yG.mp e3
  simpa using z
 have z2:jts.toArray[j]=u2:=by
  obtain ⟨_,z⟩:=yG.mp e4
  simpa using z
 rw [z1,z2]
 exact zqZ I sub n A.in1 _ _ u1 u2 dx' dy' (e j) (by show A.units+1+n<cLine; omega) q1 q2 q3 q4 (he j dx' dy' e1 e2)
theorem ztb (I:L2.Inv X pins σ H s) (sub:zaG Hi H) {n:Nat} {A:Around} {x y:V} {u v:Value} {dx dy:D} {b:Bool} (hu:A.units+n<cLine) (d1:Den X.K Hi x dx) (d2:Den X.K Hi y dy) (rx:za8 x u) (ry:za8 y v) (h:eqD n dx dy=some b) (hn:eqS dx dy=none) :
  SeqAt.RcAt A s u v b/\SeqAt.RcNeAt A s u v (!b):=by
 cases n with
 | zero=>rw [zee,hn] at h; cases h
 | succ n =>
  cases dx with
  | tup xs =>
   cases dy with
   | tup ys =>
    obtain ⟨a,vs,rfl,h1,h2⟩:=d1.tupI; obtain ⟨c,ws,rfl,h3,h4⟩:=d2.tupI; cases rx; cases ry; obtain ⟨its,r1,p1,_⟩:=I.tuple (zaz sub h1); obtain ⟨jts,r2,p2,_⟩:=I.tuple (zaz sub h3); obtain ⟨e,he,hb⟩:=zcJ h
    have lx:xs.length=its.length:=by rw [<- zl h2,r1.length]
    have ly:ys.length=jts.length:=by rw [<- zl h4,r2.length]
    have hb':b=((List.range (min its.toArray.size jts.toArray.size)).all e && its.toArray.size == jts.toArray.size):=by
     rw [hb,lx,ly]; simp
    have hi:=ziG (A:=A) I sub (by omega) h2 h4 r1 r2 he
    rw [hb']
    exact ⟨SeqAt.RcAt.tuples (show s.heap.IsTuple a its.toArray from p1) (show s.heap.IsTuple c jts.toArray from p2) (by omega) hi,SeqAt.RcNeAt.tuples (show s.heap.IsTuple a its.toArray from p1) (show s.heap.IsTuple c jts.toArray from p2) (by omega) hi⟩
   | _=>exact yO (hn.symm.trans h) (fun z=>nomatch z)
  | lst xs =>
   cases dy with
   | lst ys =>
    obtain ⟨a,vs,rfl,h1,h2⟩:=d1.lstI; obtain ⟨c,ws,rfl,h3,h4⟩:=d2.lstI; cases rx; cases ry; unfold eqD at h; obtain ⟨its,r1,p1,_⟩:=I.list (zai sub h1); obtain ⟨jts,r2,p2,_⟩:=I.list (zai sub h3)
    have lx:xs.length=its.length:=by rw [<- zl h2,r1.length]
    have ly:ys.length=jts.length:=by rw [<- zl h4,r2.length]
    by_cases hl:xs.length=ys.length
    ·rw [yR hl] at h
     obtain ⟨e,he,hb⟩:=zcJ h
     have hs:its.toArray.size=jts.toArray.size:=by simp; omega
     have hb':b=((List.range its.toArray.size).all e):=by
      rw [hb,lx,ly]
      have z:(its.length == jts.length)=true:=by simp; omega
      have z2:min its.length jts.length=its.length:=by omega
      rw [z,z2,Bool.and_true]; simp
     have hi:=ziG (A:=A) I sub (by omega) h2 h4 r1 r2 he
     rw [hb']
     exact ⟨SeqAt.RcAt.lists p1.isList p2.isList hs (by omega) hi,SeqAt.RcNeAt.lists p1.isList p2.isList hs (by omega) hi⟩
    ·rw [yM hl] at h
     cases h
     exact ⟨SeqAt.RcAt.lists_lengths p1.isList p2.isList (by simp; omega) (by omega),SeqAt.RcNeAt.lists_lengths p1.isList p2.isList (by simp; omega) (by omega)⟩
   | _=>exact yO (hn.symm.trans h) (fun z=>nomatch z)
  | _=>exact yO (hn.symm.trans h) (fun z=>nomatch z)
end
def zlo:R2':=fun x y Q=>∃ b,eqD 100 x y=some b/\Q (.bl b)
def zlZ:R2':=fun x y Q=>∃ b,eqD 100 x y=some b/\Q (.bl (!b))
theorem ziI {n:Nat} {x y:D} {b c:Bool} (h:eqD n x y=some b) (e:eqS x y=some c):b=c:=by
 cases n with
 | zero=>rw [zee,e] at h; exact (Option.some.inj h).symm
 | succ n =>
  have z:eqD (n+1) x y=eqS x y:=by
   cases x <;> first | rfl | (cases y <;> first | rfl | (exact yO (show (none:Option Bool)=some c from e) (fun z=>nomatch z)))
  rw [z,e] at h; exact (Option.some.inj h).symm
theorem zdt (hu:X.A.units+100<cLine):Op2 X (compareOp .Eq) zlo:=by
 refine ⟨fun x y H Q=>∃ Hi dx dy b,zaG Hi H/\Den X.K Hi x dx/\Den X.K Hi y dy/\eqD 100 dx dy=some b/\Q (.bl b) H,?_,?_⟩
 ·intro pins s σ H x y v u Q I rx ry h
  obtain ⟨Hi,dx,dy,b,sub,d1,d2,e,q⟩:=h
  cases hn:eqS dx dy with
  | some c =>
   obtain ⟨h1,h2⟩:=znL d1 d2 hn; refine zst pins s σ H x y v u Q I rx ry ⟨h1,?_⟩; rw [h2,<- ziI e hn]; exact q
  | none=>exact (ztb I sub hu d1 d2 rx ry e hn).1 X.prog X.w X.xe _ ⟨.bl b,H,I,rfl,q⟩
 ·rintro Hi H x y dx dy Q Q2 s d1 d2 ⟨b,e,q⟩ fin
  exact ⟨Hi,dx,dy,b,s.sub,d1,d2,e,fin Hi H _ _ (Ext.refl s) (.bl b) q⟩
theorem zkv (hu:X.A.units+100<cLine):Op2 X (compareOp .NotEq) zlZ:=by
 refine ⟨fun x y H Q=>∃ Hi dx dy b,zaG Hi H/\Den X.K Hi x dx/\Den X.K Hi y dy/\eqD 100 dx dy=some b/\Q (.bl (!b)) H,?_,?_⟩
 ·intro pins s σ H x y v u Q I rx ry h
  obtain ⟨Hi,dx,dy,b,sub,d1,d2,e,q⟩:=h
  cases hn:eqS dx dy with
  | some c =>
   obtain ⟨h1,h2⟩:=znL d1 d2 hn; refine zsp pins s σ H x y v u Q I rx ry ⟨h1,?_⟩; rw [h2,<- ziI e hn]; exact q
  | none=>exact (ztb I sub hu d1 d2 rx ry e hn).2 X.prog X.w X.xe _ ⟨.bl (!b),H,I,rfl,q⟩
 ·rintro Hi H x y dx dy Q Q2 s d1 d2 ⟨b,e,q⟩ fin
  exact ⟨Hi,dx,dy,b,s.sub,d1,d2,e,fin Hi H _ _ (Ext.refl s) (.bl (!b)) q⟩
instance:MR2 zlo:=⟨fun _ _ _ _ h ⟨b,e,q⟩=>⟨b,e,h _ q⟩⟩
@[simp] theorem zsQ (n:Nat) (i j:Int):eqD n (.int i) (.int j)=some (decide (i=j)):=by cases n <;> rfl
@[simp] theorem zpm (n:Nat) (i j:List Nat):eqD n (.str i) (.str j)=some (decide (i=j)):=by cases n <;> rfl
@[simp] theorem zrB {Q:D->Prop} (i j:Int):zlo (.int i) (.int j) Q↔Q (.bl (decide (i=j))):=by simp [zlo]
@[simp] theorem zl5 {Q:D->Prop} (i j:List Nat):zlo (.str i) (.str j) Q↔Q (.bl (decide (i=j))):=by simp [zlo]
@[simp] theorem zrt {Q:D->Prop} (i j:Int):zlZ (.int i) (.int j) Q↔Q (.bl (!decide (i=j))):=by simp [zlZ]
@[simp] theorem zin {Q:D->Prop} (i j:List Nat):zlZ (.str i) (.str j) Q↔Q (.bl (!decide (i=j))):=by simp [zlZ]
def plc (p:List (List Nat)):D:=.tup (p.map .str)
theorem ziH (f:D->D->Option Bool) (hf:∀ i j:List Nat,f (.str i) (.str j)=some (decide (i=j))):∀ p q:List (List Nat),eqL f (p.map .str) (q.map .str)=some (decide (p=q))
 | [],[]=>rfl
 | [],_ :: _=>by simp [eqL]
 | _ :: _,[]=>by simp [eqL]
 | a :: p,b :: q=>by
  simp only [yZ,eqL,hf,ziH f hf p q]
  by_cases h1:a=b <;> by_cases h2:p=q <;> simp [h1,h2]
theorem zkV (n:Nat) (p q:List (List Nat)):eqD (n+1) (plc p) (plc q)=some (decide (p=q)):=ziH _ (fun i j=>zpm n i j) p q
@[simp] theorem zrA {Q:D->Prop} (p q:List (List Nat)):zlo (plc p) (plc q) Q↔Q (.bl (decide (p=q))):=by
 unfold zlo; rw [zkV]; simp
@[simp] theorem zrs {Q:D->Prop} (p q:List (List Nat)):zlZ (plc p) (plc q) Q↔Q (.bl (!decide (p=q))):=by
 unfold zlZ; rw [zkV]; simp
end
section
variable {K:W.Frag} {n:Nat} {W:Wd} {Hi Hi' H H':Hp} {Γ:Sts} {σ:St} {a:Addr} {o:OD}
theorem zhg {i:Nat} (h:i<n) (e:adr n W σ i=some a):σ[i]?=some (some (.ref a)):=by
 unfold adr at e; rw [yR h] at e; exact zff e
end
section
variable {X:Cx}
def zan (i:Nat) (te:TE'):TS':=fun N Γ=>(∃ ds0,Γ[i]?=some (.own (.lst ds0)))/\te Γ fun d Γ1=>∃ ds,Γ1[i]?=some (.own (.lst ds))/\ds.length<sizeLine/\N.nx (Γ1.set i (.own (.lst (ds ++ [d]))))
theorem zcZ (i:Nat) {x:Str} {e:Expr} {te:TE'} {pos p apos cpos:Pos} (he:PE' X e te) (hN:X.N[i]?=some x:=by rfl) (hv:Vis X.env.scope x:=by first | exact Or.inl rfl | exact Or.inr (Or.inl rfl) | exact Or.inr (Or.inr rfl)) (hd:(x == ("__debug__":Str))=false:=by decide)
  (hcd:(x == ("__classdict__":Str))=false:=by decide) (hst:zfo e=false:=by rfl)
  (hbase:attributeBase (.Name x p) "append" X.env (eval (.Name x p) X.env)=eval (.Name x p) X.env:=by rfl) (hline:(apos.endLine == cpos.line)=true:=by rfl)
  (hs:swapsWith (.Call (.Attribute (.Name x p) "append" apos) [e] [] cpos) none pos.line X.env=pure false:=by rfl) :
  PS' X (.Expr (.Call (.Attribute (.Name x p) "append" apos) [e] [] cpos) pos) (zan i te):=by
 have pl:zcA [e]=true:=by unfold zcA; rw [hst]; rfl
 have hfew:((backTo cpos (starEach [e] X.env)).all (fun x=>!x.1) && (backToKw cpos (keywordEach [] X.env)).all (fun x=>x.1.isSome)
   && decide ([e].length+([]:List Keyword).length+(if ([]:List Keyword).isEmpty then 0 else 1)<30))=true:=by
  rw [zbO hst]; rfl
 have base:=zke (zoF PySem.F.plainAttrs_list PySem.F.slot_list_append PySem.F.type_list_append (zdu (X:=X)) (zcB (i:=i) (pos:=p) hN hv hd hcd) (zdS he.h zfk (zbO hst)) hbase hfew hline (zbO hst) rfl) hs; refine ⟨PS.weak base ?_⟩
 rintro N2 σ H ⟨W,Hi,Γ,N,g,⟨⟨ds0,e0⟩,q⟩,l⟩
 have hi:i<X.N.length:=(yG.mp hN).1
 obtain ⟨a,h1,h2,h3,vs0,h4,h5⟩:=g.own i _ e0; refine ⟨.ref a,zhg hi h1,.inl ⟨rfl,vs0,SqL.of h4⟩,W,Hi,Γ,_,g,q,?_⟩
 rintro v H1 ⟨Hi1,d,Γ1,s1,g1,den,ds,e1,hl,q1⟩
 obtain ⟨a',k1,k2,k3,vs,k4,k5⟩:=g1.own i _ e1; rw [h1] at k1; cases k1
 refine ⟨a,vs,v,rfl,rfl,k4,by rw [zl k5]; exact hl,?_⟩
 exact l.nx σ _ Hi1 _ s1 (g1.put (o:=.lst (ds ++ [d])) e1 h1 ⟨vs ++ [v],zu,paired_app k5 (.cons den .nil)⟩) q1
instance {i:Nat} {te:TE'} [ME te]:MS (zan i te):=⟨fun N N' Γ h ⟨a,q⟩=>⟨a,ME.mono (t:=te) _ _ _ (fun _ _ ⟨ds,e,l,z⟩=>⟨ds,e,l,h.nx _ z⟩) q⟩⟩
end
inductive Imm:D->Prop where
 | non:Imm .non
 | bl (b:Bool):Imm (.bl b)
 | int (i:Int):Imm (.int i)
 | str (l:List Nat):Imm (.str l)
 | ty (n:String):Imm (.ty n)
 | cls (C:Addr):Imm (.cls C)
 | tup {ds:List D} (h:∀ d,d ∈ ds->Imm d):Imm (.tup ds)
theorem Imm.plc (p:List (List Nat)):Imm (plc p):=.tup fun d hd=>by
 obtain ⟨l,_,rfl⟩:=yU.mp hd; exact .str l
theorem Imm.den {K:W.Frag} {H H':Hp} {v:V} {d:D} (im:Imm d) (h:Den K H v d) (e:∀ a xs,(H a=some (.tup xs)->H' a=some (.tup xs))/\∀ o,H a=some (.frz o (.tup xs))->H' a=some (.frz o (.tup xs))):Den K H' v d:=by
 induction h with
 | non=>exact .non
 | bl b=>exact .bl b
 | int i=>exact .int i
 | str l=>exact .str l
 | ty n=>exact .ty n
 | cls C=>exact .cls C
 | tup h l r ih =>
  cases im with
  | tup hi =>
   exact .tup ((e _ _).1 h) l fun j v d h1 h2=>ih j v d h1 h2 (hi d (yV h2))
 | _=>cases im
def za9:Slot->Slot
 | .own o=>.val o.toD
 | .val d=>.val d
 | .bk d _ xs=>.val (d xs.toD)
 | _=>.emp
section
variable {K:W.Frag} {n:Nat} {W:Wd} {Hi Hi' H H':Hp} {Γ:Sts} {σ:St} {a:Addr} {o:OD}
def zdY (n:Nat) (W:Wd) (Γ:Sts) (σ:St) (b:Addr):Prop:=(∃ (i:Nat) (o:OD),i<n/\Γ[i]?=some (.own o)/\adr n W σ i=some b)\/∃ (i:Nat) (d:D->D) (xs:OD),Γ[i]?=some (.bk d b xs)
open Classical in
noncomputable def zbV (n:Nat) (W:Wd) (Γ:Sts) (σ:St) (Hi H:Hp):Hp:=fun b=>if zdY n W Γ σ b then H b else Hi b
open Classical in
noncomputable def zcr (n:Nat) (W:Wd) (Γ:Sts) (σ:St) (Hb:Hp):Hp:=fun b=>if zdY n W Γ σ b then none else Hb b
theorem zdY.hi (g:Good K n W Hi Γ σ H) {b:Addr} (h:zdY n W Γ σ b):Hi b=none/\∃ u,H b=some u/\(∀ xs,u≠.tup xs)/\∀ o xs,u≠.frz o xs:=by
 have key:∃ o,Hi b=none/\zce K Hi H b o:=by
  rcases h with ⟨i,o,hi,e,ad⟩ | ⟨i,d,xs,e⟩
  ·obtain ⟨a,h1,h2,h3,h4⟩:=g.own i o e
   rw [ad] at h1; cases h1; exact ⟨o,h2,h4⟩
  ·exact ⟨xs,(g.bk i d b xs e).hi,(g.bk i d b xs e).at_⟩
 obtain ⟨o,h2,h4⟩:=key; refine ⟨h2,?_⟩
 cases o with
 | lst ds=>obtain ⟨vs,q,_⟩:=h4; exact ⟨_,q,⟨fun _ z=>(by cases z),fun _ _ z=>(by cases z)⟩⟩
 | dic ds=>obtain ⟨kvs,q,_⟩:=h4; exact ⟨_,q,⟨fun _ z=>(by cases z),fun _ _ z=>(by cases z)⟩⟩
 | dit ds=>obtain ⟨kvs,ep,q,_⟩:=h4; exact ⟨_,q,⟨fun _ z=>(by cases z),fun _ _ z=>(by cases z)⟩⟩
 | obj C ds=>obtain ⟨dx,fs,q,_⟩:=h4; exact ⟨_,q,⟨fun _ z=>(by cases z),fun _ _ z=>(by cases z)⟩⟩
def zW (n:Nat) (Γ:Sts):Sts:=(Γ.take n).map za9
theorem Good.look (g:Good K n W Hi Γ σ H):zaG Hi (zbV n W Γ σ Hi H)/\Good K n ⟨H,zbV n W Γ σ Hi H,[]⟩ (zbV n W Γ σ Hi H) (zW n Γ) σ H:=by
 have s1:zaG Hi (zbV n W Γ σ Hi H):=fun b u e=>by
  unfold zbV
  rw [yM (fun z=>by rw [(zdY.hi g z).1] at e; cases e)]
  exact e
 have inv:∀ (i:Nat) (sl:Slot),(zW n Γ)[i]?=some sl->∃ s0,Γ[i]?=some s0/\i<n/\sl=za9 s0:=fun i sl e=>by
  unfold zW at e; rw [yJ] at e
  cases hj:(Γ.take n)[i]? with
  | none=>rw [hj] at e; cases e
  | some s0 =>
   rw [hj] at e; rw [List.getElem?_take] at hj; split at hj
   ·exact ⟨s0,hj,by assumption,(Option.some.inj e).symm⟩
   ·cases hj
 refine ⟨s1,g.len,⟨fun b u e=>?_,fun b xs e=>s1 _ _ (g.fz.tups b xs e)⟩,fun b u e _=>e,fun b u e=>⟨u,e⟩,fun b u e=>rfl,fun i d e=>?_,fun i o e=>?_,fun i j o o' a e=>?_,fun i d b xs e=>?_⟩
 ·unfold zbV at e
  split at e
  ·exact e
  ·exact g.sub b u e
 ·obtain ⟨s0,hj,hi,hs⟩:=inv i _ e
  cases s0 with
  | val d' =>
   cases hs; obtain ⟨v,h1,h2⟩:=g.val i d hj; exact ⟨v,h1,h2.mono s1⟩
  | own o =>
   cases hs; obtain ⟨a,h1,h2,h3,h4⟩:=g.own i o hj; refine ⟨.ref a,zhg hi h1,?_⟩
   have hO:zdY n W Γ σ a:=.inl ⟨i,o,hi,hj,h1⟩
   have hl:zbV n W Γ σ Hi H a=H a:=by unfold zbV; rw [yR hO]
   cases o with
   | lst ds=>obtain ⟨vs,q,r⟩:=h4; exact Den.mkL (SqL.of (hl.trans q)) (r.mono s1)
   | dic ds=>obtain ⟨kvs,q,r⟩:=h4; exact Den.mkDK (.inl (hl.trans q)) (r.mono s1)
   | dit ds=>obtain ⟨kvs,ep,q,r⟩:=h4; exact Den.mkDT (hl.trans q) (r.mono s1)
   | obj C ds=>obtain ⟨dx,fs,q,r⟩:=h4; exact Den.mkO (hl.trans q) (r.mono s1)
  | emp=>cases hs
  | bk d' b xs =>
   cases hs
   obtain ⟨⟨v,h1,h2⟩,hol,_,_,h4,_⟩:=g.bk i d' b xs hj
   have hl:zbV n W Γ σ Hi H b=H b:=by unfold zbV; rw [yR (.inr ⟨i,d',xs,hj⟩)]
   refine ⟨v,h1,hol b _ v xs ?_ (h2.mono s1)⟩
   cases xs with
   | lst ds=>obtain ⟨vs,q,r⟩:=h4; exact Den.mkL (SqL.of (hl.trans q)) (r.mono s1)
   | dic ds=>obtain ⟨kvs,q,r⟩:=h4; exact Den.mkDK (.inl (hl.trans q)) (r.mono s1)
   | dit ds=>obtain ⟨kvs,ep,q,r⟩:=h4; exact Den.mkDT (hl.trans q) (r.mono s1)
   | obj C ds=>obtain ⟨dx,fs,q,r⟩:=h4; exact Den.mkO (hl.trans q) (r.mono s1)
 all_goals
  obtain ⟨s0,hj,hi,hs⟩:=inv i _ e
  cases s0 <;> cases hs
theorem Good.unlook (g:Good K n W Hi Γ σ H) {Hb:Hp} {Γ':Sts} (sb:zaG (zbV n W Γ σ Hi H) Hb) (g':Good K n ⟨H,zbV n W Γ σ Hi H,[]⟩ Hb Γ' σ H') :
  Ext Hi H (zcr n W Γ σ Hb) H'/\Good K n W (zcr n W Γ σ Hb) Γ σ H'/\∀ v d,Imm d->Den K Hb v d->Den K (zcr n W Γ σ Hb) v d:=by
 have kp:∀ b u,H b=some u->H' b=some u:=fun b u e=>g'.keep b u e (by simp)
 have s1:zaG Hi (zcr n W Γ σ Hb):=fun b u e=>by
  have no:¬ zdY n W Γ σ b:=fun z=>by rw [(zdY.hi g z).1] at e; cases e
  unfold zcr; rw [yM no]; refine sb b u ?_; unfold zbV; rw [yM no]; exact e
 have ex:Ext Hi H (zcr n W Γ σ Hb) H':=by
  refine ⟨s1,kp,⟨fun b u e=>?_,fun b xs e=>?_⟩,fun b u e=>?_⟩
  ·unfold zcr at e
   split at e
   ·cases e
   ·exact g'.sub b u e
  ·have z:=g'.fz.tups b xs e
   have no:¬ zdY n W Γ σ b:=fun z=>by
    obtain ⟨_,w,hw,w1,_⟩:=zdY.hi g z; rw [kp b w hw] at e; cases e; exact w1 xs rfl
   unfold zcr; rw [yM no]; exact z
  ·unfold zcr
   split
   ·rename_i z
    exact (zdY.hi g z).1.symm
   ·rename_i z
    rw [g'.fro b u e]
    show zbV n W Γ σ Hi H b=Hi b
    unfold zbV; rw [yM z]
 refine ⟨ex,g.ext ex,fun v d im den=>im.den den fun b xs=>?_⟩
 have no:∀ u,Hb b=some u->((∃ xs,u=.tup xs)\/∃ o xs,u=.frz o xs)->¬ zdY n W Γ σ b:=fun u e hu z=>by
  obtain ⟨_,w,hw,w1,w2⟩:=zdY.hi g z; have e2:=g'.sub b u e; rw [kp b w hw] at e2; cases e2
  rcases hu with ⟨xs,hu⟩ | ⟨o,xs,hu⟩
  ·exact w1 xs hu
  ·exact w2 o xs hu
 constructor
 ·intro e
  unfold zcr; rw [yM (no _ e (.inl ⟨_,rfl⟩))]; exact e
 ·intro o e
  unfold zcr; rw [yM (no _ e (.inr ⟨_,_,rfl⟩))]; exact e
end
section
variable {X:Cx}
def zal (n:Nat) (t:TE'):TE':=fun Γ Q=>t (zW n Γ) fun d _=>Imm d/\Q d Γ
def zy (n:Nat) (t:TT'):TT':=fun Γ Q=>t (zW n Γ) fun b _=>Q b Γ
theorem zoA {e:Expr} {t:TE'} (h:PE' X e t):PE' X e (zal X.N.length t):=by
 refine ⟨PE.weak h.h ?_⟩
 rintro σ H Q ⟨W,Hi,Γ,Q',g,q,fin⟩
 obtain ⟨s1,g1⟩:=g.look; refine ⟨_,_,_,_,g1,q,?_⟩
 rintro v H' ⟨Hb,d,Γ',sb,g',den,im,q'⟩
 obtain ⟨s2,g2,hd⟩:=g.unlook sb g'; exact fin v H' ⟨_,d,Γ,s2.hi,g2,hd v d im den,q'⟩
theorem zhx {e:Expr} {t:TT'} (h:PT' X e t):PT' X e (zy X.N.length t):=by
 refine ⟨PT.weak h.h ?_⟩
 rintro σ H Q ⟨W,Hi,Γ,Q',g,q,fin⟩
 obtain ⟨s1,g1⟩:=g.look; refine ⟨_,_,_,_,g1,q,?_⟩; intro b H' Hb Γ' sb g' q'; obtain ⟨s2,g2,hd⟩:=g.unlook sb g'; exact fin b H' _ Γ s2.hi g2 q'
instance {n:Nat} {t:TE'} [ME t]:ME (zal n t):=⟨fun Γ _ _ h q=>ME.mono (t:=t) _ _ _ (fun _ _ ⟨a,z⟩=>⟨a,h _ _ z⟩) q⟩
instance {n:Nat} {t:TT'} [MT t]:MT (zy n t):=⟨fun Γ _ _ h q=>MT.mono (t:=t) _ _ _ (fun _ _ z=>h _ _ z) q⟩
def zaj (i:Nat):TE':=fun Γ Q=>∃ ds d,Γ[i]?=some (.own (.lst (ds ++ [d])))/\Q d (Γ.set i (.own (.lst ds)))
theorem zoz (i:Nat) {x:Str} {p apos cpos:Pos} (hN:X.N[i]?=some x:=by rfl) (hv:Vis X.env.scope x:=by first | exact Or.inl rfl | exact Or.inr (Or.inl rfl) | exact Or.inr (Or.inr rfl)) (hd:(x == ("__debug__":Str))=false:=by decide)
  (hcd:(x == ("__classdict__":Str))=false:=by decide)
  (hbase:attributeBase (.Name x p) "pop" X.env (eval (.Name x p) X.env)=eval (.Name x p) X.env:=by rfl) (hline:(apos.endLine == cpos.line)=true:=by rfl) :
  PE' X (.Call (.Attribute (.Name x p) "pop" apos) [] [] cpos) (zaj i):=by
 refine ⟨PE.weak (zqt PySem.F.plainAttrs_list PySem.F.slot_list_pop PySem.F.type_list_pop (zqM (X:=X)) (zcB (i:=i) (pos:=p) hN hv hd hcd) hbase hline) ?_⟩
 rintro σ H Q ⟨W,Hi,Γ,Q',g,⟨ds,d,e0,q⟩,fin⟩
 have hi:i<X.N.length:=(yG.mp hN).1
 obtain ⟨a,h1,h2,h3,vs0,h4,h5⟩:=g.own i _ e0; have hl:=zl h5; rw [yP] at hl
 have hl':vs0.length=ds.length+1:=by simpa using hl
 obtain ⟨v,e1,den⟩:=zaT (i:=ds.length) (b:=d) h5 (by simp)
 refine ⟨.ref a,zhg hi h1,.inl ⟨rfl,vs0,SqL.of h4⟩,a,vs0,v,rfl,rfl,h4,by rw [hl']; exact e1,?_⟩
 have dr:zbv X.K Hi vs0.dropLast ds:=by
  have z:=zdi ds.length h5; rw [List.take_left' rfl] at z; rw [List.dropLast_eq_take,hl']; exact z
 exact fin v _ ⟨Hi,d,_,zaG.refl _,g.put (o:=.lst ds) e0 h1 ⟨_,zu,dr⟩,den,q⟩
instance {i:Nat}:ME (zaj i):=⟨fun Γ _ _ h ⟨ds,d,e,q⟩=>⟨ds,d,e,h _ _ q⟩⟩
end
end PL
namespace L2
open PySem PySem.Spec PyProof.Rows
section
variable {P:Program} {w:World} {H:Hp} {h:Heap} {a:Addr} {kvs:List (List Key × V)} {ep:Nat}
theorem zdX (ok:HOk P w H h) (e:H a=some (.dE kvs ep)):kvs.length<=sizeLine/\(a == sysModules)=false /\
  ∃ xs,KT H kvs xs/\h.DictOfH (tupleKind (zbj P w)) a xs/\∃ o es,h.get? a=some o/\o.ExactDict/\o.data=.dict es ep/\es.toList=xs.map (entryOfKey (tupleKind (zbj P w))):=by
 obtain ⟨z,y,xs,r,o,es,h1,h2,h3,h4,h5⟩:=(show zbN P w H h a (.dE kvs ep) from ok a _ e)
 refine ⟨z,y,xs,r,⟨o,es,ep,h1,h2,h3,h4,fun x hx=>?_,h5⟩,o,es,h1,h2,h3,h4⟩
 obtain ⟨j,hj⟩:=List.getElem?_of_mem hx
 have hl:j<kvs.length:=by
  rw [Paired.length r]; exact (yG.mp hj).1
 have q:=PL.paired_get j r (yB hl) hj
 exact zd1 ok (by rw [<- q.1]; exact q.2.1)
end
def zlz (H:Hp) (a:Addr) (y:V) (r:Option V):Prop:=∃ kvs ep k b,H a=some (.dE kvs ep)/\y=.ref b/\H b=some (.tup (k.map kV))/\r=zgg kvs k
section
variable {X:Cx} {pins:List (Addr × Obj)} {σ:St} {H:Hp} {s:Shared} {a:Addr} {y v:V} {u r:Value} {o:Option V} {A:Around} {E:Value->Shared->Prop}
theorem zm4 (I:Inv X pins σ H s) (g:zlz H a y o):s.TypeIs (.ref a) "dict":=by
 obtain ⟨kvs,ep,k,b,e,_⟩:=g; obtain ⟨_,_,xs,_,dd,_⟩:=zdX I.hok e; exact dd.typeIs
theorem zkY {Q:Value->Shared->Prop} (hu:A.units+1<cLine) (I:Inv X pins σ H s) (g:zlz H a y (some v)) (ry:za8 y u) (h:∀ w' s',Inv X pins σ H s'->za8 v w'->Q w' s') :
  wpAny (model X.prog X.w) A (getItem (.ref a) u) Q E s:=by
 obtain ⟨kvs,ep,k,b,e,ey,eb,l⟩:=g; subst ey
 cases (show u=Value.ref b from ry)
 obtain ⟨z,hd,xs,rel,dd,_⟩:=zdX I.hok e
 obtain ⟨w',hw,rw'⟩:=zlj.some_of (v:=v) (o:=(atKey xs k).map (·.2)) (by rw [l]; exact rel.val k)
 obtain ⟨p,hp,hp2⟩:=Option.map_eq_some_iff.mp hw; refine wpAny_getItem_heap (tupleKind_room_in1 hu) (zd1 I.hok eb) dd hp ?_; rw [hp2]; exact h w' _ (I.tok _) rw'
theorem ztX {Q:Value->Shared->Prop} (hu:A.units+1<cLine) (I:Inv X pins σ H s) (g:zlz H a y o) (ry:za8 y u) (h:∀ s',Inv X pins σ H s'->Q (.bool o.isSome) s') :
  wpAny (model X.prog X.w) A (compareOp .In u (.ref a)) Q E s:=by
 obtain ⟨kvs,ep,k,b,e,ey,eb,l⟩:=g; subst ey
 cases (show u=Value.ref b from ry)
 obtain ⟨z,hd,xs,rel,dd,_⟩:=zdX I.hok e; refine wpAny_in_heap (tupleKind_room_in1 hu) (zd1 I.hok eb) hd dd ?_; have q:=(rel.val k).isSome_eq; rw [Option.isSome_map] at q; rw [<- q,<- l]; exact h _ (I.tok _)
theorem zpn {Q:Value->Shared->Prop} (hu:A.units+1<cLine) (I:Inv X pins σ H s) (g:zlz H a y o) (ry:za8 y u) (h:∀ s',Inv X pins σ H s'->Q (.bool (!o.isSome)) s') :
  wpAny (model X.prog X.w) A (compareOp .NotIn u (.ref a)) Q E s:=by
 obtain ⟨kvs,ep,k,b,e,ey,eb,l⟩:=g; subst ey
 cases (show u=Value.ref b from ry)
 obtain ⟨z,hd,xs,rel,dd,_⟩:=zdX I.hok e; refine wpAny_notIn_heap (tupleKind_room_in1 hu) (zd1 I.hok eb) hd dd ?_; have q:=(rel.val k).isSome_eq; rw [Option.isSome_map] at q; rw [<- q,<- l]; exact h _ (I.tok _)
theorem zkX {kvs:List (List Key × V)} {ep:Nat} {k:List Key} {b:Addr} {Q:Unit->Shared->Prop} (hu:A.units+1<cLine) (I:Inv X pins σ H s) (e:H a=some (.dE kvs ep)) (eb:H b=some (.tup (k.map kV))) (l:kvs.length<sizeLine) (rv:za8 v r)
  (h:∀ ep' s',Inv X pins σ (upd H a (.dE (zj8 kvs k v) ep')) s'->Q () s'):wpAny (model X.prog X.w) A (setItem (.ref a) (.ref b) r) Q E s:=by
 obtain ⟨z,hd,xs,rel,dd,_⟩:=zdX I.hok e
 have hz:xs.length<=sizeLine:=by rw [<- Paired.length rel]; exact z
 have hl:(zj8 kvs k v).length<=sizeLine:=by have:=zhQ kvs k v; omega
 refine wpAny_setItem_heap (hsz:=hz) (tupleKind_room_in1 hu) (zd1 I.hok eb) dd fun h' dd' hs=>?_
 obtain ⟨q,es,ep',hq,h2,h3,h4,_,h5⟩:=dd'
 refine h ep' _ (zh1 I (by rw [e]; exact True.intro) hs ⟨q,hq⟩ ⟨hl,hd,_,(rel.put k eb rv).keeps fun c ys ec=>?_,q,es,hq,h2,h3,h4,h5⟩)
 rw [zN (zoR ec e (fun z=>nomatch z))]
 exact ec
end
section
variable {X:Cx}
theorem zo7 (hu:X.A.units+1<cLine):IxR X (fun x y H Q=>∃ a v,x=.ref a/\zlz H a y (some v)/\Q v H):=by
 intro value slice pins s σ H x y v u Q I rx ry h hs; obtain ⟨a,w,rfl,g,q⟩:=h; cases rx
 exact tail_any (zm4 I g) PySem.F.slot_dict_getitem.lookup (zkY hu I g ry fun w' s3 I3 rw'=>⟨w,H,I3,rw',q⟩) hs
theorem zqB (hu:X.A.units+1<cLine):OpR X (compareOp .In) (fun x y H Q=>∃ a o,y=.ref a/\zlz H a x o/\Q (.bl o.isSome) H):=by
 intro pins s σ H x y v u Q I rx ry h; obtain ⟨a,o,rfl,g,q⟩:=h; cases ry
 exact ztX hu I g rx fun s' I'=>⟨.bl _,H,I',rfl,q⟩
theorem zkr (hu:X.A.units+1<cLine):OpR X (compareOp .NotIn) (fun x y H Q=>∃ a o,y=.ref a/\zlz H a x o/\Q (.bl (!o.isSome)) H):=by
 intro pins s σ H x y v u Q I rx ry h; obtain ⟨a,o,rfl,g,q⟩:=h; cases ry
 exact zpn hu I g rx fun s' I'=>⟨.bl _,H,I',rfl,q⟩
def zr4 (td ty tv:TE):TS:=fun D σ H=>tv σ H fun v H1=>td σ H1 fun x H2=>ty σ H2 fun y H3=>∃ a kvs ep k b,x=.ref a/\H3 a=some (.dE kvs ep)/\y=.ref b/\H3 b=some (.tup (k.map kV))/\kvs.length<sizeLine/\∀ ep',D.nx σ (upd H3 a (.dE (zj8 kvs k v) ep'))
theorem zol {o i value:Expr} {pos pos':Pos} {td ty tv:TE} (hu:X.A.units+1<cLine) (ho:PE X o td) (hi:PE X i ty) (hv:PE X value tv) (hs:swapsWith value (some (.Subscript o i pos')) pos.line X.env=pure false) :
  PS X (.Assign [.Subscript o i pos'] value pos) (zr4 td ty tv):=by
 intro pins s σ H D I h
 refine wpAny_Assign_Subscript (thn (hv pins s σ H _ I h) fun r s1 ⟨v,H1,I1,rv,q1⟩=>thn (ho pins s1 σ H1 _ I1 q1) fun u s2 ⟨x,H2,I2,rx,q2⟩=>thn (hi pins s2 σ H2 _ I2 q2) fun iv s3 ⟨y,H3,I3,ry,a,kvs,ep,k,b,ex,e,ey,eb,l,q3⟩=>?_) hs
 subst ex ey
 obtain rfl:u=Value.ref a:=rx
 obtain rfl:iv=Value.ref b:=ry
 exact zkX hu I3 e eb l rv fun ep' s4 I4=>⟨σ,_,I4,q3 ep'⟩
theorem ziO {P:Program} {w:World} {H:Hp} (h:Heap) (hb:sysModules<h.objs.size):zbN P w H (h.push { cls:=.type "dict",data:=.dict #[] }) h.objs.size (.dE [] 0) :=
 ⟨yf _,beq_eq_false_iff_ne.mpr (Ne.symm (ya hb)),[],.nil,_,#[],yI _ rfl,⟨rfl,rfl,rfl⟩,rfl,rfl,List.nodup_nil⟩
def zrY:TE:=fun _ H Q=>∀ p,H p=none->Q (.ref p) (upd H p (.dE [] 0))
theorem zoB {pos:Pos}:PE X (.Dict [] [] pos) zrY:=fun pins s σ H Q I h =>
 wpAny_Dict_empty ⟨.ref s.heap.objs.size,_,I.laid (a:=s.heap.objs.size) (o:=.dE [] 0) (t':=s.toks) (fun _ _ q=>yC _ q) (yF _) (ziO s.heap I.big),rfl,h _ (I.hok.fresh (yF _))⟩
theorem zgk (d:Addr) (k v:Value):storeAll d [(k,v)]=(dictSet d k v >>= fun _=>pure PUnit.unit):=by
 unfold storeAll; rw [List.forIn_cons]; simp only [bind_assoc,pure_bind,List.forIn_nil]
def znZ (tk tv:TE):TE:=fun σ H Q=>∀ p,H p=none->tk σ (upd H p (.dE [] 0)) fun x H1=>tv σ H1 fun y H2=>H2 p=some (.dE [] 0)/\∃ b ks,x=.ref b/\H2 b=some (.tup (ks.map kV))/\∀ ep',Q (.ref p) (upd H2 p (.dE [(ks,y)] ep'))
theorem zkZ (hu:X.A.units+1<cLine) {pins:List (Addr × Obj)} {σ:St} {H2:Hp} {s2:Shared} {p b:Addr} {ks:List Key} {y:V} {u2:Value} {Q:Value->Shared->Prop} (I2:Inv X pins σ H2 s2) (e:H2 p=some (.dE [] 0)) (eb:H2 b=some (.tup (ks.map kV))) (r2:za8 y u2)
  (h:∀ ep' s3,Inv X pins σ (upd H2 p (.dE [(ks,y)] ep')) s3->Q (.ref p) s3):wpAny (model X.prog X.w) X.A (storeAll p [(Value.ref b,u2)]) (fun _ s3=>Q (.ref p) s3) X.xe s2:=by
 rw [zgk]; obtain ⟨z,hd,xs,rel,dd,_⟩:=zdX I2.hok e
 obtain rfl:xs=[]:=by
  have:=Paired.length rel
  exact Yg this.symm
 refine yA (wpAny_dictSet_heap (hsz:=yf _) (knd:=tupleKind (zbj X.prog X.w)) (show X.A.units<cLine by omega) (zd1 I2.hok eb) dd fun h' dd' hs=>?_)
 obtain ⟨q,es,ep',hq,h2,h3,h4,_,h5⟩:=dd'
 have hk:KT H2 (zj8 [] ks y) (storedH [] ks b u2):=KT.put (kvs:=[]) (xs:=[]) .nil ks eb r2
 have hp:zj8 ([]:List (List Key × V)) ks y=[(ks,y)]:=rfl
 rw [hp] at hk
 have ok:zbN X.prog X.w (upd H2 p (.dE [(ks,y)] ep')) h' p (.dE [(ks,y)] ep'):=by
  refine ⟨?_,hd,_,hk.keeps fun c ys ec=>?_,q,es,hq,h2,h3,h4,h5⟩
  ·rw [sizeLine_eq]; exact Nat.le_of_ble_eq_true rfl
  ·rw [zN (zoR ec e (fun z=>nomatch z))]
   exact ec
 exact yD (h ep' _ (zh1 I2 (by rw [e]; exact True.intro) hs ⟨q,hq⟩ ok))
theorem zkm (hu:X.A.units+1<cLine) {k v:Expr} {tk tv:TE} {pos:Pos} (hk:PE X k tk) (hv:PE X v tv):PE X (.Dict [some k] [v] pos) (znZ tk tv):=by
 intro pins s σ H Q I q; have hn:=I.hok.fresh (yF s.heap.objs.size)
 have I1:=I.laid (a:=s.heap.objs.size) (o:=.dE [] 0) (h':=s.heap.push { cls:=.type "dict",data:=.dict #[] }) (t':=s.toks) (fun _ _ q=>yC _ q) (yF _) (ziO s.heap I.big)
 refine wpAny_Dict_any rfl rfl (fun z=>nomatch z) (Nat.le_of_ble_eq_true rfl) ?_
 refine pairTrees_cons_walk (thn (hk pins _ σ _ _ I1 (q _ hn)) fun u1 s1 ⟨x,H1,J1,rx,q1⟩=>thn (hv pins s1 σ H1 _ J1 q1) fun u2 s2 ⟨y,H2,I2,ry,e,b,ks,ex,eb,q2⟩=>pairTrees_nil_walk ?_)
 subst ex
 obtain rfl:u1=Value.ref b:=rx
 exact zkZ hu I2 e eb ry fun ep' s3 I3=>⟨.ref s.heap.objs.size,_,I3,rfl,q2 ep'⟩
end
end L2
namespace PL
open PySem L2
section
variable {K:W.Frag} {H Hi:Hp}
theorem zpq {v:V}:∀ {k:Key},Den K H v (keyD k)->v=kV k
 | .inl i,h=>h.intI
 | .inr x,h=>h.strI
theorem ziM:∀ {vs:List V} {ks:List Key},zbv K H vs (ks.map keyD)->vs=ks.map kV
 | [],[],_=>rfl
 | [],_ :: _,h=>nomatch h
 | _ :: _,[],h=>nomatch h
 | v :: vs,k :: ks,.cons r t=>by rw [yZ,<- zpq r,<- ziM t]
theorem zmV {a b:Key} (h:keyD a=keyD b):a=b:=by
 cases a with
 | inl i=>cases b with
  | inl j=>injection h with h; rw [h]
  | inr y=>cases h
 | inr x=>cases b with
  | inl j=>cases h
  | inr y =>
   injection h with h
   obtain ⟨⟨x⟩⟩:=x
   obtain ⟨⟨y⟩⟩:=y
   exact ye (fun l=>Sum.inr (Str.mk ⟨l⟩)) h
theorem zeO:∀ {a b:List Key},a.map keyD=b.map keyD->a=b
 | [],[],_=>rfl
 | [],_ :: _,h=>nomatch h
 | _ :: _,[],h=>nomatch h
 | x :: a,y :: b,h=>by
  injection h with h1 h2
  rw [zmV h1,zeO h2]
theorem zdA {v:V} {ks:List Key} (h:Den K Hi v (.tup (ks.map keyD))):∃ b,v=.ref b/\Hi b=some (.tup (ks.map kV)):=by
 obtain ⟨a,vs,rfl,h1,h2⟩:=h.tupJ; rw [ziM h2] at h1; exact ⟨a,rfl,h1⟩
open Classical in
noncomputable def zbX (ds:List (D × D)) (k:D):Option D:=(ds.find? fun p=>decide (p.1=k)).map (·.2)
open Classical in
noncomputable def znN (ds:List (D × D)) (k v:D):List (D × D):=if (zbX ds k).isSome=true then ds.map (fun p=>if p.1=k then (p.1,v) else p) else ds ++ [(k,v)]
theorem zk5 {p:D × D} {r:List (D × D)} {k:D} (e:p.1=k):zbX (p :: r) k=some p.2:=by simp [zbX,yo,e]
theorem zk6 {p:D × D} {r:List (D × D)} {k:D} (e:¬ p.1=k):zbX (p :: r) k=zbX r k:=by simp [zbX,yo,e]
inductive OptD (K:W.Frag) (H:Hp):Option V->Option D->Prop where
 | none:OptD K H none none
 | some {v:V} {d:D} (h:Den K H v d):OptD K H (some v) (some d)
theorem zqY {kvs:List (List Key × V)} {ds:List (D × D)} (r:zjF K H kvs ds) (ks:List Key):OptD K H (zgg kvs ks) (zbX ds (.tup (ks.map keyD))):=by
 induction r with
 | nil=>exact .none
 | @cons p q ps qs h t ih =>
  by_cases e:p.1=ks
  ·rw [zft e,zk5 (h.1.trans (by rw [e]))]
   exact .some h.2
  ·rw [zfu e,zk6 (fun z=>e (zeO (by
    have:=h.1.symm.trans z
    injection this)))]
   exact ih
theorem OptD.isSome {o:Option V} {d:Option D} (h:OptD K H o d):o.isSome=d.isSome:=by cases h <;> rfl
open Classical in
theorem zr5 {ks:List Key} {v:V} {d:D} (h:Den K H v d) {kvs:List (List Key × V)} {ds:List (D × D)} (r:zjF K H kvs ds):zjF K H (kvs.map fun kv=>if kv.1=ks then (kv.1,v) else kv) (ds.map fun p=>if p.1=.tup (ks.map keyD) then (p.1,d) else p):=by
 induction r with
 | nil=>exact .nil
 | @cons p q ps qs hh t ih =>
  rw [yZ,yZ]; refine .cons ?_ ih
  by_cases e:p.1=ks
  ·rw [yR e,yR (hh.1.trans (by rw [e]))]
   exact ⟨hh.1,h⟩
  ·rw [yM e,yM (fun z=>e (zeO (by
    have:=hh.1.symm.trans z
    injection this)))]
   exact hh
theorem ztO {kvs:List (List Key × V)} {ds:List (D × D)} (r:zjF K H kvs ds) (ks:List Key) {v:V} {d:D} (h:Den K H v d):zjF K H (zj8 kvs ks v) (znN ds (.tup (ks.map keyD)) d):=by
 unfold zj8 znN; rw [zfv,(zqY r ks).isSome]; split
 ·exact zr5 h r
 ·exact paired_app r (.cons ⟨rfl,h⟩ .nil)
end
section
variable {X:Cx}
def zhr:R2':=fun x y Q=>∃ (ds:List (D × D)) (ks:List Key) (v:D),x=.dit ds/\y=.tup (ks.map keyD)/\zbX ds y=some v/\Q v
def znj (neg:Bool):R2':=fun x y Q=>∃ (ks:List Key) (ds:List (D × D)),x=.tup (ks.map keyD)/\y=.dit ds/\Q (.bl (if neg then !(zbX ds x).isSome else (zbX ds x).isSome))
theorem zpo {K:W.Frag} {Hi H:Hp} {x y:V} {ds:List (D × D)} {ks:List Key} (s:Fz Hi H) (d1:Den K Hi x (.dit ds)) (d2:Den K Hi y (.tup (ks.map keyD))):∃ a o,x=.ref a/\zlz H a y o/\OptD K Hi o (zbX ds (.tup (ks.map keyD))):=by
 obtain ⟨a,kvs,ep,rfl,h1,h2⟩:=d1.ditI; obtain ⟨b,rfl,h3⟩:=zdA d2; exact ⟨a,_,rfl,⟨kvs,ep,ks,b,s.sub _ _ h1,rfl,s.sub _ _ h3,rfl⟩,zqY h2 ks⟩
theorem zsI (hu:X.A.units+1<cLine):Ixs X zhr:=⟨_,zo7 hu,by
 rintro Hi H x y dx dy Q Q2 s d1 d2 ⟨ds,ks,v,rfl,rfl,e,q⟩ fin
 obtain ⟨a,o,rfl,g,r⟩:=zpo s d1 d2; rw [e] at r
 cases r with
 | some h=>exact ⟨a,_,rfl,g,fin Hi H _ _ (Ext.refl s) h q⟩⟩
theorem zsy (hu:X.A.units+1<cLine):Op2 X (compareOp .In) (znj false):=⟨_,zqB hu,by
 rintro Hi H x y dx dy Q Q2 s d1 d2 ⟨ks,ds,rfl,rfl,q⟩ fin
 obtain ⟨a,o,rfl,g,r⟩:=zpo s d2 d1; refine ⟨a,o,rfl,g,?_⟩; rw [r.isSome]; exact fin Hi H _ _ (Ext.refl s) (.bl _) q⟩
theorem zmt (hu:X.A.units+1<cLine):Op2 X (compareOp .NotIn) (znj true):=⟨_,zkr hu,by
 rintro Hi H x y dx dy Q Q2 s d1 d2 ⟨ks,ds,rfl,rfl,q⟩ fin
 obtain ⟨a,o,rfl,g,r⟩:=zpo s d2 d1; refine ⟨a,o,rfl,g,?_⟩; rw [r.isSome]; exact fin Hi H _ _ (Ext.refl s) (.bl _) q⟩
def zz (i:Nat) (tk tv:TE'):TS':=fun N Γ=>tv Γ fun v Γ1=>(∃ ds0,Γ1[i]?=some (.own (.dit ds0)))/\tk Γ1 fun k Γ2=>∃ (ds:List (D × D)) (ks:List Key),Γ2[i]?=some (.own (.dit ds))/\k=.tup (ks.map keyD)/\ds.length<sizeLine/\N.nx (Γ2.set i (.own (.dit (znN ds k v))))
theorem zmb (hu:X.A.units+1<cLine) (i:Nat) {x:Str} {k value:Expr} {tk tv:TE'} {p pos pos':Pos} (hk:PE' X k tk) (hv:PE' X value tv) (hN:X.N[i]?=some x:=by rfl) (hvi:Vis X.env.scope x:=by first | exact Or.inl rfl | exact Or.inr (Or.inl rfl) | exact Or.inr (Or.inr rfl)) (hd:(x == ("__debug__":Str))=false:=by decide)
  (hcd:(x == ("__classdict__":Str))=false:=by decide) (hs:swapsWith value (some (.Subscript (.Name x p) k pos')) pos.line X.env=pure false:=by rfl) :
  PS' X (.Assign [.Subscript (.Name x p) k pos'] value pos) (zz i tk tv):=by
 refine ⟨PS.weak (zol hu (zcB (i:=i) (pos:=p) hN hvi hd hcd) hk.h hv.h hs) ?_⟩
 rintro N2 σ H ⟨W,Hi,Γ,N,g,q,l⟩
 have hi:i<X.N.length:=(yG.mp hN).1
 refine ⟨W,Hi,Γ,_,g,q,?_⟩
 rintro v H1 ⟨Hi1,d,Γ1,s1,g1,den,⟨ds0,e0⟩,q1⟩
 obtain ⟨a,h1,h2,h3,kvs0,ep0,h4,h5⟩:=g1.own i _ e0; refine ⟨.ref a,zhg hi h1,W,Hi1,Γ1,_,g1,q1,?_⟩
 rintro y H2 ⟨Hi2,dk,Γ2,s2,g2,den2,ds,ks,e2,rfl,hl,q2⟩
 obtain ⟨a',k1,k2,k3,kvs,ep,k4,k5⟩:=g2.own i _ e2; rw [h1] at k1; cases k1; obtain ⟨b,rfl,hb⟩:=zdA den2
 refine ⟨a,kvs,ep,ks,b,rfl,k4,rfl,g2.sub _ _ hb,by rw [zl k5]; exact hl,fun ep'=>?_⟩
 exact l.nx σ _ Hi2 _ (s1.trans s2) (g2.put (o:=.dit (znN ds (.tup (ks.map keyD)) d)) e2 h1 ⟨_,_,zu,ztO k5 ks (den.mono s2)⟩) q2
instance {i:Nat} {tk tv:TE'} [ME tk] [ME tv]:MS (zz i tk tv):=⟨fun N N' Γ h q=>ME.mono (t:=tv) _ _ _ (fun _ _ ⟨a,z⟩=>⟨a,ME.mono (t:=tk) _ _ _ (fun _ _ ⟨ds,ks,e1,e2,e3,w⟩=>⟨ds,ks,e1,e2,e3,h.nx _ w⟩) z⟩) q⟩
theorem Good.putN {K:W.Frag} {n:Nat} {W:Wd} {Hi H:Hp} {Γ:Sts} {σ:St} {p:Addr} {u:HO} (g:Good K n W Hi Γ σ H) (h0:Hi p=none) (h1:W.H₀ p=none) (ne:Free n W Γ σ p) (hu:∀ xs,u≠.tup xs):Good K n W Hi Γ σ (upd H p u):=by
 refine ⟨g.len,⟨fun b w q=>?_,fun b xs q=>?_⟩,fun b w q nf=>?_,fun b w q=>?_,g.fro,g.val,fun j o e=>?_,g.apart,fun j d b xs e=>?_⟩
 ·rw [zN (fun z=>by rw [z,h0] at q; cases q)]
  exact g.sub b w q
 ·by_cases hb:b=p
  ·subst hb
   rw [zu] at q; exact yO (Option.some.inj q) (hu xs)
  ·rw [zN hb] at q
   exact g.fz.tups b xs q
 ·rw [zN (fun z=>by rw [z,h1] at q; cases q)]
  exact g.keep b w q nf
 ·rw [zN (fun z=>by rw [z,h1] at q; cases q)]
  exact g.there b w q
 ·obtain ⟨b,q1,q2,q3,q4⟩:=g.own j o e
  have hb:b≠p:=fun z=>ne.own j o e (by rw [<- z]; exact q1)
  exact ⟨b,q1,q2,q3,q4.mono (zaG.refl _) fun w hw=>by rw [zN hb]; exact hw⟩
 ·obtain ⟨p0,p1,p2,p3,p4,p5,p6⟩:=g.bk j d b xs e
  have hb:b≠p:=fun z=>ne.bk j _ _ (by rw [<- z]; exact e)
  exact ⟨p0,p1,p2,p3,p4.mono (zaG.refl _) fun w hw=>by rw [zN hb]; exact hw,p5,p6⟩
def zF (n:Nat) (tk tv:TE'):TO':=fun Γ Q=>tk (zW n Γ) fun k _=>Imm k/\tv (zW n Γ) fun v _=>Imm v/\(∃ ks:List Key,k=.tup (ks.map keyD))/\Q (.dit [(k,v)]) Γ
theorem zme (hu:X.A.units+1<cLine) {k v:Expr} {tk tv:TE'} {pos:Pos} (hk:PE' X k tk) (hv:PE' X v tv):PO' X (.Dict [some k] [v] pos) (zF X.N.length tk tv):=by
 refine ⟨PE.weak (zkm hu hk.h hv.h) ?_⟩
 rintro σ H Q ⟨W,Hi,Γ,Q',g,h,fin⟩
 intro p hp; have new:=New.mk' (u:=.dE [] 0) (o:=.dit []) g hp ⟨[],0,zu,.nil⟩
 have e0:Ext Hi H Hi (upd H p (.dE [] 0)):=Ext.newO g.fz hp _ (fun _ z=>by cases z)
 have g0:=g.ext e0; obtain ⟨s1,g1⟩:=g0.look; refine ⟨_,_,_,_,g1,h,?_⟩
 rintro x H1 ⟨Hb,dk,Γ',sb,g',den,im,h'⟩
 obtain ⟨x1,y1,hd1⟩:=g0.unlook sb g'; have den1:=hd1 x dk im den; obtain ⟨s2,g2⟩:=y1.look; refine ⟨_,_,_,_,g2,h',?_⟩
 rintro y H2 ⟨Hc,dv,Γ'',sc,g'',den2,im2,⟨ks,rfl⟩,q⟩
 obtain ⟨x2,y2,hd2⟩:=y1.unlook sc g''; have den3:=hd2 y dv im2 den2
 have ep:H2 p=some (.dE [] 0):=x2.h _ _ (x1.h _ _ zu)
 have hi0:_=_:=(x2.fro p _ (x1.h _ _ zu)).trans (x1.fro p _ zu)
 obtain ⟨b,rfl,hb⟩:=zdA den1
 refine ⟨ep,b,ks,rfl,x2.h _ _ (y1.sub _ _ hb),fun ep'=>?_⟩
 refine fin p _ _ Γ (.dit [(.tup (ks.map keyD),dv)]) (x1.hi.trans x2.hi) (y2.putN (hi0.trans new.hi) new.h0 new.ne (fun _ z=>by cases z)) ⟨hi0.trans new.hi,new.h0,new.ne,⟨[(ks,y)],ep',zu,.cons ⟨rfl,den3⟩ .nil⟩⟩ q
end
end PL
namespace PySem
section
variable {prog:Program} {w:World} {A:Around} {E:Value->Shared->Prop} {s:Shared} {dd kk:Addr} {ob:Obj} {ens:Array DictEntry} {tick nn:Nat}
theorem zdW (hob:s.heap.get? dd=some ob) (hex:ob.ExactDict):s.TypeIs (.ref dd) "dict":=⟨ob,hob,hex.1⟩
theorem zgO {Q:Value->Shared->Prop} (hsys:(dd == sysModules)=false) (hob:s.heap.get? dd=some ob) (hex:ob.ExactDict) (hdt:ob.data=.dict ens tick)
  (fin:Q (.ref s.heap.objs.size) { s with heap:=s.heap.push { cls:=.type "dict_keyiterator",data:=.fields #[.ref dd,.int 0 0,.int ens.size 0,.int tick 0] } }) :
  wpAny (model prog w) A (pyIter (.ref dd)) Q E s:=by
 have ty:=zdW hob hex; refine wpAny_pyIter_slot ty F.slot_dict_iter (yx F.slot_dict_iter ty F.entry_dict_iter ?_ (F.args_dict_iter_1 _))
 unfold Builtin.«dict.__iter__» Builtin.Dict.dictSlotNone
 refine yA (yA (wpAny_notOrdered_dict ty ?_))
 show wpAny _ _ (pure (Value.ref dd)) _ _ s
 refine yD (show wpAny _ _ (Builtin.Dict.showsAll dd >>= _) _ _ s from ?_)
 unfold Builtin.Dict.showsAll
 rw [yM (by rw [hsys]; exact yL)]
 refine yA (yD (yA (wpAny_dictEntries hob hdt (yA (wpAny_dictEpoch hob hdt ?_))))); refine yA (yc (yD ⟨_,rfl,"dict_keyiterator",_,⟨_,yI _ rfl,rfl⟩,F.slot_dict_keyiterator_next.lookup,?_⟩))
 simpa [rawInt] using fin
theorem zhU {ii:Nat} {Q:Option Value->Shared->Prop} (st:s.heap.IsKeyIter kk dd ii ens.size tick) (hob:s.heap.get? dd=some ob) (hdt:ob.data=.dict ens tick) (lt:ii<ens.size)
  (fin:∀ h2,h2.IsKeyIter kk dd (ii+1) ens.size tick->Heap.SameBut kk s.heap h2->Q (some ens[ii].key) { s with heap:=h2 }):wpAny (model prog w) A (pyNext (.ref kk)) Q E s:=by
 obtain ⟨ki,hki,hkc,hkd⟩:=id st; have ty:=st.typeIs; unfold pyNext; refine yA (YT (wpAny_callSpecial?_slot (name:=Str.ofString "__next__") ty F.slot_dict_keyiterator_next (yx F.slot_dict_keyiterator_next ty F.entry_dict_keyiterator_next ?_ (F.args_dict_keyiterator_next_1 _)))); refine yA (yD (yA (yA ?_)))
 first
  | refine yA (Yf ty (yD (yA (wpAny_fieldsOf hki hkd ?_))))
  | refine yA (wpAny_typeNameOf_keyiter ty (yD (yA (wpAny_fieldsOf hki hkd ?_))))
 simp only [show Builtin.Dict_items.ownsTuple "dict_keyiterator"=false by decide,YL,if_false]
 show wpAny _ _ (if (Value.ref dd == Value.none)=true then _ else _) _ _ s
 rw [yM (show ¬ ((Value.ref dd == Value.none)=true) from yL)]
 refine yA (yD (yA (wpAny_dictEntries hob hdt ?_)))
 rw [yM (by simp)]
 refine yA (yD (yA (wpAny_dictEpoch hob hdt ?_)))
 rw [yM (by simp)]
 refine yD ?_
 simp only [show ¬ ((ii:Int)<0) from by omega,if_false,Yo,yi lt]
 refine yA ?_
 first
  | refine yA (Yf ty (yD (yA (wpAny_isOneOf_keyiter ty ?_))))
  | refine yA (wpAny_typeNameOf_keyiter ty (yD (yA (wpAny_isOneOf_keyiter ty ?_))))
 show wpAny _ _ (setField (.ref kk) 1 (rawInt ((ii:Int)+1)) >>= _) _ _ s
 have st2:(s.heap.update kk (Obj.mapFields (·.setIfInBounds 1 (rawInt ((ii:Int)+1))))).IsKeyIter kk dd (ii+1) ens.size tick :=
  ⟨_,Ym _ hki (Obj.isFreed_of_fields (YU hkd _)),(Obj.cls_mapFields ..).trans hkc,by rw [YU hkd]; simp [rawInt]⟩
 refine yA (wpAny_setField hki hkd (by simp) (yA (YS ?_)))
 refine yA (wpAny_isOneOf_keyiter (s:={ s with heap:=s.heap.update kk (Obj.mapFields (·.setIfInBounds 1 (rawInt ((ii:Int)+1)))) }) st2.typeIs ?_)
 show wpAny _ _ (pure ens[ii].key) _ _ _
 exact yD (yD ⟨_,rfl,yD (fin _ st2 (Heap.SameBut.update ..))⟩)
theorem zjr {ii:Nat} {Q:Option Value->Shared->Prop} (calm:A.handled=none) (st:s.heap.IsKeyIter kk dd ii ens.size tick) (hob:s.heap.get? dd=some ob) (hdt:ob.data=.dict ens tick) (ge:ens.size<=ii)
  (fin:∀ h2,Heap.ExtBut kk s.heap h2->Q none { s with heap:=h2 }):wpAny (model prog w) A (pyNext (.ref kk)) Q E s:=by
 obtain ⟨ki,hki,hkc,hkd⟩:=id st; have ty:=st.typeIs; unfold pyNext; refine yA (YT (wpAny_callSpecial?_slot (name:=Str.ofString "__next__") ty F.slot_dict_keyiterator_next (yx F.slot_dict_keyiterator_next ty F.entry_dict_keyiterator_next ?_ (F.args_dict_keyiterator_next_1 _)))); refine yA (yD (yA (yA ?_)))
 first
  | refine yA (Yf ty (yD (yA (wpAny_fieldsOf hki hkd ?_))))
  | refine yA (wpAny_typeNameOf_keyiter ty (yD (yA (wpAny_fieldsOf hki hkd ?_))))
 simp only [show Builtin.Dict_items.ownsTuple "dict_keyiterator"=false by decide,YL,if_false]
 show wpAny _ _ (if (Value.ref dd == Value.none)=true then _ else _) _ _ s
 rw [yM (show ¬ ((Value.ref dd == Value.none)=true) from yL)]
 refine yA (yD (yA (wpAny_dictEntries hob hdt ?_)))
 rw [yM (by simp)]
 refine yA (yD (yA (wpAny_dictEpoch hob hdt ?_)))
 rw [yM (by simp)]
 refine yD ?_
 simp only [show ¬ ((ii:Int)<0) from by omega,if_false,Yo,Array.getElem?_eq_none ge]
 refine yA ?_
 first
  | refine yA (Yf ty (yD ?_))
  | refine yA (wpAny_typeNameOf_keyiter ty (yD ?_))
 show wpAny _ _ (setField (.ref kk) 0 .none >>= _) _ _ s
 refine yA (wpAny_setField hki hkd (by simp) (show wpAny _ _ (newExc (.type "StopIteration") [] >>= _) _ _ _ from yA ?_))
 simp only [newExc,newTuple]
 apply yA
 refine yc ?_ (by size_fits)
 refine yA (m:=firstArgMember _ _) (YR (a:=Value.none) (by first | rfl | (simp only [firstArgMember]; rfl)) (yc ?_ (by size_fits)))
 simp only [raiseNew]; refine yA (wpAny_handled ?_)
 rw [show A.in1.handled=none from calm]
 refine (yA (yD (wpAny_throw ?_))); refine yA (wpAny_isInstance (T:="StopIteration") (b:=true) ⟨_,yI _ rfl,rfl⟩ isSubtype_stop (yD (fin _ ?_))); exact ((Heap.SameBut.update ..).extBut.push _).push _
end
end PySem
namespace L2
open PySem PySem.Spec PyProof.Rows
def Ite (a:Addr) (kvs:List (List Key × V)) (ep:Nat):It :=
 ⟨fun i H=>H a=some (.dE kvs ep)/\i<kvs.length,fun i H x H'=>H'=H/\∃ k y b,kvs[i]?=some (k,y)/\x=.ref b/\H b=some (.tup (k.map kV)),fun i H=>H a=some (.dE kvs ep)/\kvs.length<=i⟩
theorem zjJ {P:Program} {w:World} {K:W.Frag} {tg:Expr} (a it:Addr) (kvs:List (List Key × V)) (ep:Nat):Turn P w K tg (Ite a kvs ep) [it] it (fun i h=>h.IsKeyIter it a i kvs.length ep) where
 mem:=by simp
 obj:=fun i h st b hb=>by
  have e:b=it:=by simpa using hb
  subst e; obtain ⟨o,e,c,d⟩:=st
  exact ⟨o,e,fun v z=>by rw [d] at z; cases z⟩
 keep:=fun i h h' st k=>st.at fun o e=>k it (by simp) o e
 item:=by
  intro X hP hw hK hc i pins s σ H E I hf st hg
  subst hP hw hK
  obtain ⟨hq,hi⟩:=hg; obtain ⟨z,hd,xs,rel,_,o,es,ho,hx,hdat,he⟩:=zdX I.hok hq
  obtain ⟨f0,f1,f2,f3,f4,f5⟩:=hf it (by simp)
  have hl:kvs.length=xs.length:=Paired.length rel
  have hs:es.size=kvs.length:=by
   have:=ye List.length he
   rw [yE,yw] at this; rw [this,hl]
  have hi':i<es.size:=by rw [hs]; exact hi
  have hix:i<xs.length:=by rw [<- hl]; exact hi
  have q:=PL.paired_get i rel (yB hi) (yB hix)
  have hk:es[i].key=.ref xs[i].2.1:=by
   have e1:es.toList[i]?=(xs.map (entryOfKey (tupleKind (zbj X.prog X.w))))[i]?:=by rw [he]
   rw [yJ,yB hix,Array.getElem?_toList,yi hi'] at e1; rw [Option.some.inj e1]; rfl
  rw [<- hs] at st
  refine zhU st ho hdat hi' fun h' st' sb=>?_
  have I1:Inv X pins σ H { s with heap:=h' }:=I.turned (t':=s.toks) (fun b o hb e=>(sb.2 b hb).trans e) f0 f1 f3 f4 f5
  rw [hs] at st'; obtain ⟨o2,e,c,d⟩:=id st'; rw [hk]
  exact ⟨_,rfl,zhX (s:={ s with heap:=h' }) e c d (by decide) ⟨.ref xs[i].2.1,H,I1,rfl,⟨rfl,kvs[i].1,kvs[i].2,_,yB hi,rfl,q.2.1⟩,st',fun b hb=>(hf b hb).1⟩⟩
 done:=by
  intro X hP hw hK hc i pins s σ H E I hf st hg
  subst hP hw hK
  obtain ⟨hq,hi⟩:=hg; obtain ⟨z,hd,xs,rel,_,o,es,ho,hx,hdat,he⟩:=zdX I.hok hq
  obtain ⟨f0,f1,f2,f3,f4,f5⟩:=hf it (by simp)
  have hl:kvs.length=xs.length:=Paired.length rel
  have hs:es.size=kvs.length:=by
   have:=ye List.length he
   rw [yE,yw] at this; rw [this,hl]
  rw [<- hs] at st
  exact zjr (I.ok.hd hc) st ho hdat (by omega) fun h' eb=>⟨rfl,I.turned (t':=s.toks) (fun b o hb e=>eb b o hb e) f0 f1 f3 f4 f5⟩
 self:=fun _ _ _ _ _ st h=>wpAny_pyIter_keyiter st h
section
variable {X:Cx} {tg:Expr}
def zsK (tl:TE):TI:=fun σ H R=>tl σ H fun x H1=>∃ a kvs ep,x=.ref a/\H1 a=some (.dE kvs ep)/\R (Ite a kvs ep) H1
theorem zov {l:Expr} {tl:TE} (hl:PE X l tl):PI X tg l (zsK tl):=by
 intro pins s σ H R I h
 refine thn (hl pins s σ H _ I h) fun v s1 ⟨x,H1,I1,r1,a,kvs,ep,e,hq,q⟩=>?_
 subst e; cases r1; obtain ⟨z,hd,xs,rel,_,o,es,ho,hx,hdat,he⟩:=zdX I1.hok hq
 have hs:es.size=kvs.length:=by
  have:=ye List.length he
  rw [yE,yw] at this; rw [this,Paired.length rel]
 refine zgO hd ho hx hdat ?_
 refine ⟨s1.heap.objs.size,[s1.heap.objs.size],_,_,H1,rfl,I1.kept (t':=s1.toks) fun b o e=>yC _ e,zjJ a _ kvs ep,⟨_,yI _ rfl,rfl,by rw [hs]; rfl⟩,fun b hb=>?_,q⟩
 have e:b=s1.heap.objs.size:=by simpa using hb
 subst e; exact I1.fpOk (yF _) (I1.hok.fresh (yF _))
end
end L2
namespace PL
open PySem L2
theorem zo5 {K:W.Frag} {Hi:Hp}:∀ k:Key,Den K Hi (kV k) (keyD k)
 | .inl i=>.int i
 | .inr x=>by
  have e:kV (.inr x)=.str (st x.cps.toList):=by
   show V.str x=_
   rfl
  rw [e]; exact .str _
theorem znG {K:W.Frag} {Hi:Hp}:∀ ks:List Key,zbv K Hi (ks.map kV) (ks.map keyD)
 | []=>.nil
 | k :: ks=>.cons (zo5 k) (znG ks)
theorem zmX {K:W.Frag} {Hi:Hp} {a:Addr} {kvs:List (List Key × V)} {ep:Nat} {ds:List (D × D)} (h:Hi a=some (.dE kvs ep)) (r:zjF K Hi kvs ds):ItD K Hi (Ite a kvs ep) (ds.map (·.1)):=by
 intro Hi' H' s1 s2
 have hq:H' a=some (.dE kvs ep):=(s1.trans s2.sub) _ _ h
 have hl:=zl r
 refine ⟨fun i d e=>?_,hq,by rw [yE,hl]; exact yF _⟩
 rw [yJ] at e
 cases hc:ds[i]? with
 | none=>rw [hc] at e; cases e
 | some q =>
  rw [hc] at e; cases e; obtain ⟨p,e1,e2⟩:=zaT r hc; refine ⟨⟨hq,(yG.mp e1).1⟩,?_⟩
  rintro x H'' ⟨rfl,k,y,b,ek,rfl,hb⟩
  rw [e1] at ek; cases ek; refine ⟨Hi',Ext.refl s2,?_⟩
  show Den K Hi' (.ref b) q.1
  rw [e2.1]; exact Den.mkT (s2.tups _ _ hb) (znG _)
def zJ (t:TE'):TI':=fun Γ Q=>t Γ fun d Γ1=>∃ ds,d=.dit ds/\Q (ds.map (·.1)) Γ1
theorem zmh {X:Cx} {l tg:Expr} {t:TE'} (hl:PE' X l t):PI' X tg l (zJ t):=by
 refine ⟨PI.weak (zov hl.h) ?_⟩
 rintro σ H R ⟨W,Hi,Γ,Q',g,h,fin⟩
 refine ⟨W,Hi,Γ,_,g,h,?_⟩
 rintro v H1 ⟨Hi1,d,Γ1,s1,g1,den,ds,rfl,q⟩
 obtain ⟨a,kvs,ep,rfl,h1,h2⟩:=den.ditI; exact ⟨a,kvs,ep,rfl,g1.sub _ _ h1,fin _ H1 Hi1 Γ1 _ s1 g1 (zmX h1 h2) q⟩
end PL
namespace PySem
section
variable {prog:Program} {w:World} {A:Around} {E:Value->Shared->Prop} {s:Shared} {dd kk:Addr} {ob:Obj} {ens:Array DictEntry} {tick nn:Nat}
theorem zpY {Q:Value->Shared->Prop} (hsys:(dd == sysModules)=false) (hob:s.heap.get? dd=some ob) (hex:ob.ExactDict) (hdt:ob.data=.dict ens tick) (fin:Q (.int ens.size s.toks) { s with toks:=s.toks+1 }) :
  wpAny (model prog w) A (call (.builtin "dict.__len__") [.ref dd]) Q E s:=by
 have ty:=zdW hob hex; refine yx F.slot_dict_len ty F.entry_dict_len ?_ (F.args_dict_len_1 _)
 show wpAny _ _ (dictSize dd >>= _) _ _ s
 unfold dictSize
 refine yA (yA (wpAny_dictEntries hob hdt (yD (show wpAny _ _ (Builtin.Dict.pendingCount dd >>= _) _ _ s from yA (wpAny_pendingCount_other hsys ?_)))))
 refine wpAny_ret_mkInt ?_
 have z:((ens.size:Int)+((0:Nat):Int))=ens.size:=by omega
 first
  | exact fin
  | (rw [z]; exact fin)
  | (refine ⟨_,rfl,?_⟩; simpa using fin)
theorem zsD {Q:Value->Shared->Prop} (hsys:(dd == sysModules)=false) (hob:s.heap.get? dd=some ob) (hex:ob.ExactDict) (hdt:ob.data=.dict ens tick) (few:ens.size<=sizeLine) (fin:Q (.int ens.size (s.toks+1)) { s with toks:=s.toks+1+1 }) :
  wpAny (model prog w) A (call (.builtin "len") [.ref dd]) Q E s :=
 PyProof.Rows.call_len_slot (n:=ens.size) (zdW hob hex) F.slot_dict_len (fun Q' hq=>zpY hsys hob hex hdt hq) (by omega) (by rw [sizeLine_eq] at few; omega) fin
end
end PySem
namespace L2
open PySem PySem.Spec PyProof.Rows
section
variable {X:Cx}
theorem Inv.keys {pins:List (Addr × Obj)} {σ:St} {H:Hp} {s:Shared} {a:Addr} {kvs:List (List Key × V)} {ep:Nat} (I:Inv X pins σ H s) (e:H a=some (.dE kvs ep)):kvs.length<=sizeLine/\(a == sysModules)=false/\∃ (o:Obj) (es:Array DictEntry),s.heap.get? a=some o/\o.ExactDict/\o.data=.dict es ep/\es.size=kvs.length /\
  ∀ (i:Nat) k y,kvs[i]?=some (k,y)->∃ b x,es[i]?=some x/\x.key=.ref b/\H b=some (.tup (k.map kV)):=by
 obtain ⟨z,hd,xs,rel,_,o,es,ho,hx,hdat,he⟩:=zdX I.hok e
 have hl:kvs.length=xs.length:=Paired.length rel
 have hs:es.size=kvs.length:=by
  have:=ye List.length he
  rw [yE,yw] at this; rw [this,hl]
 refine ⟨z,hd,o,es,ho,hx,hdat,hs,fun i k y hk=>?_⟩
 have hi:i<kvs.length:=(yG.mp hk).1
 have hix:i<xs.length:=by rw [<- hl]; exact hi
 have hi':i<es.size:=by rw [hs]; exact hi
 have q:=PL.paired_get i rel hk (yB hix); refine ⟨xs[i].2.1,es[i],yi hi',?_,q.2.1⟩
 have e1:es.toList[i]?=(xs.map (entryOfKey (tupleKind (zbj X.prog X.w))))[i]?:=by rw [he]
 rw [yJ,yB hix,Array.getElem?_toList,yi hi'] at e1; rw [Option.some.inj e1]; rfl
theorem zlc:zcP X (.builtin "len") (fun xs H Q=>∃ a kvs ep,xs=[.ref a]/\H a=some (.dE kvs ep)/\Q (.int kvs.length) H):=by
 intro pins s σ H xs us Q I r h; obtain ⟨a,kvs,ep,rfl,e,q⟩:=h; obtain ⟨u,rfl,rx⟩:=zct r; cases rx; obtain ⟨z,hd,o,es,ho,hx,hdat,hs,_⟩:=I.keys e
 refine zsD hd ho hx hdat (by rw [hs]; exact z) ?_
 rw [hs]; exact ⟨.int kvs.length,H,I.tok _,⟨_,rfl⟩,q⟩
end
end L2
namespace PL
open PySem L2
section
variable {X:Cx}
abbrev zt9:=List D->(OD->Prop)->Prop
def zaw (r:zt9) (t:TA'):TO':=fun Γ Q=>t Γ fun ds Γ1=>r ds fun o=>Q o Γ1
variable {x:Str} {p pos:Pos} {e:Expr} {es:List Expr} {t:TA'} {id T:String}
def zhq:RC':=fun ds Q=>∃ es,ds=[.dit es]/\Q (.int es.length)
theorem zq8:Cal X (.builtin "len") zhq:=⟨_,zlc,by
 rintro Hi H vs ds Q Q2 s dl ⟨es,rfl,q⟩ fin
 obtain ⟨v,rfl,den⟩:=zcK dl; obtain ⟨a,kvs,ep,rfl,h1,h2⟩:=den.ditI; refine ⟨a,kvs,ep,rfl,s.sub _ _ h1,?_⟩; rw [zl h2]; exact fin Hi H _ _ (Ext.refl s) (.int _) q⟩
instance:MRC zhq:=⟨fun _ _ _ h ⟨es,a,q⟩=>⟨es,a,h _ q⟩⟩
end
end PL
namespace PySem
section
variable {prog:Program} {w:World} {A:Around} {E:Value->Shared->Prop} {s:Shared} {S tt:Addr} {ob:Obj} {mine items:Array Value} {n c₀:Nat} {T:String}
end
end PySem
namespace L2
open PySem PySem.Spec PyProof.Rows
section
variable {X:Cx}
theorem zoK:OpR X (binaryOp .Add) (fun x y H Q=>∃ a b xs ys,x=.ref a/\y=.ref b/\SqL X.K H a xs/\SqL X.K H b ys/\xs.length+ys.length<=sizeLine/\∀ p,H p=none->Q (.ref p) (upd H p (.lst (xs ++ ys)))):=by
 intro pins s σ H x y v u Q I rx ry h; obtain ⟨a,b,xs,ys,rfl,rfl,ha,hb,hz,q⟩:=h; cases rx; cases ry; obtain ⟨its,r1,p1,_⟩:=I.list ha; obtain ⟨its2,r2,p2,_⟩:=I.list hb
 obtain ⟨⟨cls,dd,data,sl⟩,ho,hc,n,hd⟩:=id p1.isList
 obtain ⟨⟨cls2,dd2,data2,sl2⟩,ho2,hc2,n2,hd2⟩:=id p2.isList
 simp only at hc hd hc2 hd2
 subst hc hd hc2 hd2
 have ea:its.toArray ++ its2.toArray=(its ++ its2).toArray:=by simp
 refine concat_meets ⟨_,ho,rfl⟩ ⟨_,ho2,rfl⟩ noFill_list_add seq_list_add PySem.F.slot_list_add PySem.F.entry_list_add (PySem.F.args_list_add_2 _ _)
  (list_addW a b its.toArray its2.toArray n n2 dd dd2 sl sl2 (by rw [yK,yK,<- r1.length,<- r2.length]; exact hz)) ⟨ho,ho2,?_⟩
 rw [ea]
 exact ⟨.ref _,_,I.lnew (t':=s.toks) (r1.append r2) (by rw [yP]; exact hz),rfl,q _ I.fresh⟩
end
end L2
namespace PL
open PySem L2
section
variable {X:Cx}
abbrev zpw:=D->D->(OD->Prop)->Prop
def zre (K:W.Frag) (r:R2) (r':zpw):Prop:=∀ (Hi H:Hp) (x y:V) (dx dy:D) (Q:OD->Prop) (Q2:VK),Fz Hi H->Den K Hi x dx->Den K Hi y dy->r' dx dy Q ->
 (∀ Hi1 H1 p u o,Ext Hi H Hi1 H1->H1 p=none->(∀ xs,u≠.tup xs)->zce K Hi1 (upd H1 p u) p o->Q o->Q2 (.ref p) (upd H1 p u))->r x y H Q2
structure Op2O (X:Cx) (f:Value->Value->Sem Value) (r':zpw):Prop where
 ex:∃ r,OpR X f r/\zre X.K r r'
def zaf (r:zpw) (ta tb:TE'):TO':=fun Γ Q=>ta Γ fun x Γ1=>tb Γ1 fun y Γ2=>r x y fun o=>Q o Γ2
theorem znn {a b:Expr} {op:Operator} {r':zpw} {ta tb:TE'} {pos:Pos} (h:Op2O X (binaryOp op) r') (ha:PE' X a ta) (hb:PE' X b tb):PO' X (.BinOp a op b pos) (zaf r' ta tb):=by
 obtain ⟨r,ho,l⟩:=h.ex; refine ⟨PE.weak (zqo ho ha.h hb.h) ?_⟩
 rintro σ H Q ⟨W,Hi,Γ,Q',g,h,fin⟩
 refine ⟨W,Hi,Γ,_,g,h,?_⟩
 rintro x H1 ⟨Hi1,dx,Γ1,s1,g1,den1,h1⟩
 refine ⟨W,Hi1,Γ1,_,g1,h1,?_⟩
 rintro y H2 ⟨Hi2,dy,Γ2,s2,g2,den2,h2⟩
 refine l Hi2 H2 x y dx dy _ _ g2.fz (den1.mono s2) den2 h2 ?_; intro Hi3 H3 p u o e hp hu own q; have g3:=g2.ext e; exact fin p _ Hi3 Γ2 o (s1.trans (s2.trans e.hi)) (g3.ext (Ext.newO g3.fz hp u hu)) (New.mk' g3 hp own) q
class MR2O (r:zpw):Prop where
 mono:∀ x y (Q Q':OD->Prop),(∀ o,Q o->Q' o)->r x y Q->r x y Q'
instance {r:zpw} {ta tb:TE'} [MR2O r] [ME ta] [ME tb]:MO (zaf r ta tb):=⟨fun Γ _ _ h q=>ME.mono (t:=ta) _ _ _ (fun _ _ z=>ME.mono (t:=tb) _ _ _ (fun _ _ y=>MR2O.mono (r:=r) _ _ _ _ (fun _ w=>h _ _ w) y) z) q⟩
def zl6:zpw:=fun x y Q=>∃ xs ys,x=.lst xs/\y=.lst ys/\xs.length+ys.length<=sizeLine/\Q (.lst (xs ++ ys))
theorem zns:Op2O X (binaryOp .Add) zl6:=⟨_,zoK,by
 rintro Hi H x y dx dy Q Q2 s d1 d2 ⟨xs,ys,rfl,rfl,hl,q⟩ fin
 obtain ⟨a,vs,rfl,h1,h2⟩:=d1.lstI; obtain ⟨b,us,rfl,h3,h4⟩:=d2.lstI
 exact ⟨a,b,vs,us,rfl,rfl,zai s.sub h1,zai s.sub h3,by rw [zl h2,zl h4]; exact hl,fun p hp=>fin Hi H p _ (.lst (xs ++ ys)) (Ext.refl s) hp (fun _ z=>by cases z) ⟨_,zu,paired_app h2 h4⟩ q⟩⟩
instance:MR2O zl6:=⟨fun _ _ _ _ h ⟨xs,ys,a,b,c,q⟩=>⟨xs,ys,a,b,c,h _ q⟩⟩
end
end PL
namespace L2
open PySem PySem.Spec PyProof.Rows
section
variable {X:Cx}
end
end L2
namespace PL
open PySem L2
section
variable {X:Cx}
end
end PL
namespace PySem
open PyProof.Rows
namespace F
theorem zgx:Manifest.owners.lookup (String.ofList ['d','e','s','r','e','v','e','r'].reverse)=some Manifest.sig_reversed:=by kernel_rfl
theorem slot_rvd_next:Slot "reversed" "__next__" "reversed.__next__" :=
 .of (owner:="reversed") (n:="__next__") (by rw [typeLookup_type,builtinLookup_eq_fast]; kernel_rfl) (by decide +kernel) (by decide +kernel) (by decide +kernel) (by first | exact .inl (by decide +kernel) | exact .inr (by decide +kernel)) (by rw [isSubtype_type]; kernel_rfl)
theorem entry_rvd_next:entryFor table "reversed.__next__"=some Builtin.«reversed.__next__»:=entryFor_of_tree (by kernel_rfl)
theorem args_rvd_next (a:Value):argsOk "reversed.__next__" ⟨[a],[]⟩:=by
 unfold argsOk; rw [signature?_of (id:="reversed.__next__") (n:=['_','_','t','x','e','n','_','_']) (o:=['d','e','s','r','e','v','e','r']) (by kernel_rfl) zgx]; kernel_rfl
theorem slot_rvd_iter:Slot "reversed" "__iter__" "reversed.__iter__" :=
 .of (owner:="reversed") (n:="__iter__") (by rw [typeLookup_type,builtinLookup_eq_fast]; kernel_rfl) (by decide +kernel) (by decide +kernel) (by decide +kernel) (by first | exact .inl (by decide +kernel) | exact .inr (by decide +kernel)) (by rw [isSubtype_type]; kernel_rfl)
theorem args_rvd_iter (a:Value):argsOk "reversed.__iter__" ⟨[a],[]⟩:=by
 unfold argsOk; rw [signature?_of (id:="reversed.__iter__") (n:=['_','_','r','e','t','i','_','_']) (o:=['d','e','s','r','e','v','e','r']) (by kernel_rfl) zgx]; kernel_rfl
theorem noRev_tuple:typeLookup (.type "tuple") "__reversed__"=pure none:=by rw [typeLookup_type,builtinLookup_eq_fast]; kernel_rfl
theorem entry_rvd_iter:entryFor table "reversed.__iter__"=some Builtin.«dict_keyiterator.__iter__» :=
 entryFor_alias (id':="dict_keyiterator.__iter__") (by kernel_rfl) (by first | rfl | decide +kernel | (unfold String.splitOn; simp +decide [String.splitOnAux])) (by decide +kernel) (by kernel_rfl)
end F
section
variable {prog:Program} {w:World} {A:Around} {E:Value->Shared->Prop} {s:Shared} {tt rr:Addr} {items:Array Value}
def zex (t:Addr) (i:Int):Obj:={ cls:=.type "reversed",data:=.fields #[.ref t,rawInt i] }
def Heap.IsRvd (h:Heap) (r t:Addr) (i:Int):Prop:=h.get? r=some (zex t i)
theorem Heap.IsRvd.typeIs {i:Int} (x:s.heap.IsRvd rr tt i):s.TypeIs (.ref rr) "reversed":=⟨_,x,rfl⟩
theorem zlS {i:Nat} {v:Value} {Q:Option Value->Shared->Prop} (st:s.heap.IsRvd rr tt (i:Int)) (ht:IsTup s.heap tt items) (hz:items.size<=sizeLine) (hx:items[i]?=some v)
  (fin:∀ h2 tk,h2.IsRvd rr tt ((i:Int)-1)->Heap.SameBut rr s.heap h2->Q (some v) { s with heap:=h2,toks:=tk }):wpAny (model prog w) A (pyNext (.ref rr)) Q E s:=by
 have ty:=st.typeIs; unfold pyNext; refine yA (YT (wpAny_callSpecial?_slot (name:=Str.ofString "__next__") ty F.slot_rvd_next (yx F.slot_rvd_next ty F.entry_rvd_next ?_ (F.args_rvd_next _))))
 unfold Builtin.«reversed.__next__»
 refine yA (YR (a:=(Value.ref rr,[])) rfl ?_)
 try dsimp only
 refine yA (yt st rfl (x:=.ref tt) rfl ?_); refine yA (yt st rfl (x:=rawInt (i:Int)) rfl ?_)
 show wpAny _ _ (if (i:Int)<0 then _ else _) _ _ s
 rw [yM (by omega)]
 have tyT:s.TypeIs (.ref tt) "tuple":=ht.typeIs
 refine yA (wpAny_specialOf tyT PyProof.Rows.slot_tuple_getitem.lookup ?_)
 show wpAny _ _ (if false=true then _ else _) _ _ s
 rw [yM (by decide)]
 have hi:i<items.size:=by
  rcases Nat.lt_or_ge i items.size with h | h
  ·exact h
  ·rw [Array.getElem?_eq_none h] at hx; cases hx
 have hn:(items.size:Int)<2 ^ 63:=by rw [sizeLine_eq] at hz; omega
 refine yA (wpAny_mkInt ?_)
 refine yA (YT (PyProof.Rows.getItem_tuple (s:={ s with toks:=s.toks+1 }) (j:=i) ht (by omega) (by omega) (by rw [seqIndex_of (by omega) (by omega)]; simp) hx ?_))
 refine yA (yt (s:={ s with toks:=s.toks+1 }) st rfl (x:=rawInt (i:Int)) rfl ?_)
 refine yA (wpAny_setField (s:={ s with toks:=s.toks+1 }) st rfl (by simp) ?_)
 refine yD ⟨v,rfl,yD (fin _ _ ?_ (Heap.SameBut.update ..))⟩
 show (s.heap.update rr (Obj.mapFields (·.setIfInBounds 1 (rawInt ((i:Int)-1))))).get? rr=some (zex tt ((i:Int)-1))
 rw [Ym _ st (Obj.isFreed_of_fields (YU rfl _))]; simp [zex,Obj.mapFields]
theorem zoa {Q:Option Value->Shared->Prop} (calm:A.handled=none) (st:s.heap.IsRvd rr tt (-1)) (fin:∀ h2,Heap.ExtBut rr s.heap h2->Q none { s with heap:=h2 }):wpAny (model prog w) A (pyNext (.ref rr)) Q E s:=by
 have ty:=st.typeIs; unfold pyNext; refine yA (YT (wpAny_callSpecial?_slot (name:=Str.ofString "__next__") ty F.slot_rvd_next (yx F.slot_rvd_next ty F.entry_rvd_next ?_ (F.args_rvd_next _))))
 unfold Builtin.«reversed.__next__»
 refine yA (YR (a:=(Value.ref rr,[])) rfl ?_)
 try dsimp only
 refine yA (yt st rfl (x:=.ref tt) rfl (yA (yt st rfl (x:=rawInt (-1)) rfl ?_)))
 show wpAny _ _ (if (-1:Int)<0 then _ else _) _ _ s
 rw [yR (by decide)]
 refine yA (wpAny_rule ?_)
 show wpAny _ _ ((setField (.ref rr) 1 (rawInt (-1)) >>= fun _=>setField (.ref rr) 0 .none) >>= _) _ _ _
 refine yA (yA (wpAny_setField st rfl (by simp) ?_))
 have g2:=Ym (Obj.mapFields (·.setIfInBounds 1 (rawInt (-1)))) st (Obj.isFreed_of_fields (YU rfl _))
 refine wpAny_setField (s:={ s with heap:=s.heap.update rr (Obj.mapFields (·.setIfInBounds 1 (rawInt (-1)))) }) g2 (YU rfl _) (by simp) ?_
 first
  | show wpAny _ _ (newExc (.type "StopIteration") [] >>= _) _ _ _
  | (refine yA ?_; show wpAny _ _ (newExc (.type "StopIteration") [] >>= _) _ _ _)
 refine yA ?_; simp only [newExc,newTuple]
 apply yA
 refine yc ?_ (by size_fits)
 refine yA (m:=firstArgMember _ _) (YR (a:=Value.none) (by first | rfl | (simp only [firstArgMember]; rfl)) (yc ?_ (by size_fits)))
 simp only [raiseNew]; refine yA (wpAny_handled ?_)
 rw [show A.in1.handled=none from calm]
 refine (yA (yD (wpAny_throw ?_))); refine yA (wpAny_isInstance (T:="StopIteration") (b:=true) ⟨_,yI _ rfl,rfl⟩ isSubtype_stop (yD (fin _ ?_))); intro b o hb e; refine yC _ (yC _ ?_); exact (Heap.get?_update_other _ _ (Ne.symm hb)).trans ((Heap.get?_update_other _ _ (Ne.symm hb)).trans e)
theorem zig {i:Int} {Q:Value->Shared->Prop} (st:s.heap.IsRvd rr tt i) (h:Q (.ref rr) s):wpAny (model prog w) A (pyIter (.ref rr)) Q E s:=by
 refine wpAny_pyIter_slot st.typeIs F.slot_rvd_iter (yx F.slot_rvd_iter st.typeIs F.entry_rvd_iter ?_ (F.args_rvd_iter _))
 show wpAny _ _ (ret (.ref rr)) _ _ s
 exact yD ⟨_,rfl,"reversed",_,st.typeIs,F.slot_rvd_next.lookup,h⟩
theorem zjw:TypeCalled "reversed" "reversed.__new__" "object.__init__":=by
 refine ⟨by decide +kernel,by decide +kernel,⟨_,_,F.mro_reversed⟩,F.made_reversed,by decide +kernel,by rw [isSubtype_type]; kernel_rfl,?_⟩
 exact .of (owner:="object") (n:="__init__") (by rw [typeLookup_type,builtinLookup_eq_fast]; kernel_rfl) (by decide +kernel) (by decide +kernel) (by decide +kernel) (by first | exact .inl (by decide +kernel) | exact .inr (by decide +kernel)) (by rw [isSubtype_type]; kernel_rfl)
theorem zjy (a b:Value):argsOk "object.__init__" ⟨[a,b],[]⟩:=by
 unfold argsOk; rw [signature?_of (id:="object.__init__") (n:=['_','_','t','i','n','i','_','_']) (o:=['t','c','e','j','b','o']) (by kernel_rfl) F.owner_object]; kernel_rfl
theorem zn9:MeetsIn prog w (Builtin.«reversed.__new__» ⟨[.type "reversed",.ref tt],[]⟩) (fun _ R s=>∃ items,IsTup s.heap tt items/\items.size<=sizeLine/\∀ tk,R (.ok (.ret (.ref s.heap.objs.size))) { s with heap:=s.heap.push (zex tt ((items.size:Int)-1)),toks:=tk }) :=
 .of_wp fun A R s ⟨items,ht,hz,h⟩=>by
  unfold Builtin.«reversed.__new__»
  refine yA (YR (newClass_reversed _) ?_)
  try dsimp only
  refine yA (YR (a:=()) (by first | rfl | kernel_rfl) ?_)
  refine yA (YR (a:=()) (by first | rfl | kernel_rfl) ?_)
  try dsimp only
  refine yA (wpAny_specialOf ht.typeIs F.noRev_tuple ?_)
  try dsimp only
  have noD:isSubtype (.type "tuple") (.type "dict")=pure false:=by rw [isSubtype_type]; kernel_rfl
  have hn:(items.size:Int)<2 ^ 63:=by rw [sizeLine_eq] at hz; omega
  refine yA (yA (wpAny_isInstance (T:="tuple") (b:=false) ht.typeIs noD ?_))
  rw [yM (by decide)]
  refine yA (wpAny_specialOf ht.typeIs slot_tuple_getitem.lookup ?_)
  try dsimp only
  rw [yR (by decide +kernel)]
  refine yD ?_
  rw [yM (by decide)]
  refine yA (len_tuple ht hn ?_); refine yA (m:=asInt? _) (yD ?_)
  try dsimp only
  show wpAny _ _ (newObj (.type "reversed") (.fields #[.ref tt,rawInt ((items.size:Int)-1)]) >>= _) _ _ _
  refine yA (yc ?_); exact yD ⟨_,rfl,h _⟩
theorem zm7 {Q:Value->Shared->Prop} (ht:IsTup s.heap tt items) (hz:items.size<=sizeLine) (fin:∀ tk,Q (.ref s.heap.objs.size) { s with heap:=s.heap.push (zex tt ((items.size:Int)-1)),toks:=tk }):wpAny (model prog w) A (call (.type "reversed") [.ref tt]) Q E s :=
 callType_newIn zjw (by decide) (F.typeCall_reversed_1 _) (F.newCall_reversed_1 _) (fun obj=>zjy obj _) F.entry_reversed_new zn9 ⟨items,ht,hz,fun tk=>⟨⟨_,yI _ rfl,rfl⟩,fin tk⟩⟩
end
end PySem
namespace L2
open PySem PySem.Spec PyProof.Rows
def Itv (K:W.Frag) (a:Addr) (vs:List V):It :=
 ⟨fun i H=>SqT K H a vs/\i<vs.length,fun i H x H'=>H'=H/\vs[vs.length-1-i]?=some x,fun i H=>SqT K H a vs/\vs.length<=i⟩
theorem zlE {P:Program} {w:World} {K:W.Frag} {tg:Expr} (a it:Addr) (vs:List V):Turn P w K tg (Itv K a vs) [it] it (fun i h=>i<=vs.length/\h.IsRvd it a ((vs.length:Int)-1-(i:Int))) where
 mem:=by simp
 obj:=fun i h st b hb=>by
  have e:b=it:=by simpa using hb
  subst e
  exact ⟨_,st.2,fun v z=>by cases z⟩
 keep:=fun i h h' st k=>⟨st.1,k it (by simp) _ st.2⟩
 item:=by
  intro X hP hw hK hc i pins s σ H E I hf st hg
  subst hP hw hK
  obtain ⟨hq,hi⟩:=hg; obtain ⟨its,rv,p,hz⟩:=I.tuple hq
  obtain ⟨f0,f1,f2,f3,f4,f5⟩:=hf it (by simp)
  have hl:=rv.length
  have hx:vs[vs.length-1-i]?=some (vs[vs.length-1-i]'(by omega)):=yB (by omega)
  obtain ⟨u,hu,ru⟩:=rv.get hx; have st2:=st.2
  rw [show (vs.length:Int)-1-(i:Int)=((vs.length-1-i:Nat):Int) by omega] at st2
  refine zlS st2 p (by rw [yK,<- hl]; exact hz) (v:=u) (by simpa using hu) fun h' tk st' sb=>?_
  have I1:Inv X pins σ H { s with heap:=h',toks:=tk }:=I.turned (t':=tk) (fun b o hb e=>(sb.2 b hb).trans e) f0 f1 f3 f4 f5
  have st3:h'.IsRvd it a ((vs.length:Int)-1-((i+1:Nat):Int)):=by
   rw [show (vs.length:Int)-1-((i+1:Nat):Int)=((vs.length-1-i:Nat):Int)-1 by omega]
   exact st'
  exact ⟨u,rfl,zhX (s:={ s with heap:=h',toks:=tk }) (n:="reversed") st3 rfl rfl (by decide) ⟨_,H,I1,ru,⟨rfl,hx⟩,⟨by omega,st3⟩,fun b hb=>(hf b hb).1⟩⟩
 done:=by
  intro X hP hw hK hc i pins s σ H E I hf st hg
  subst hP hw hK
  obtain ⟨hq,hi⟩:=hg
  obtain ⟨f0,f1,f2,f3,f4,f5⟩:=hf it (by simp)
  have st2:=st.2
  rw [show (vs.length:Int)-1-(i:Int)=-1 by have:=st.1; omega] at st2
  exact zoa (I.ok.hd hc) st2 fun h' eb=>⟨rfl,I.turned (t':=s.toks) (fun b o hb e=>eb b o hb e) f0 f1 f3 f4 f5⟩
 self:=fun _ _ _ _ _ st h=>zig st.2 h
section
variable {X:Cx} {tg:Expr}
def ztS (K:W.Frag) (ta:TA):TI:=fun σ H R=>ta σ H fun xs H1=>∃ a vs,xs=[.ref a]/\SqT K H1 a vs/\R (Itv K a vs) H1
theorem zqk {a:Expr} {ta:TA} {p pos:Pos} (hg:Gl X "reversed") (hm:X.mg "reversed"=none) (ha:PA X [a] ta) (hs:starEach [a] X.env=[(false,eval a X.env)]:=by rfl):PI X tg (.Call (.Name "reversed" p) [a] [] pos) (ztS X.K ta):=by
 intro pins s σ H R I h
 refine Call_ (zc7 I hg hm boot_reversed (YE (thn (ha pos pins s σ H _ I h) fun us s1 ⟨vs,H1,I1,r1,q1⟩=>?_) hs rfl))
 obtain ⟨b,xs,e,hq,q⟩:=q1; subst e; obtain ⟨u,rfl,rx⟩:=zct r1; cases rx; obtain ⟨its,rv,p,hz⟩:=I1.tuple hq; have hl:=rv.length
 refine zm7 p (by rw [yK,<- hl]; exact hz) fun tk=>?_
 have st:(s1.heap.push (zex b ((its.toArray.size:Int)-1))).IsRvd s1.heap.objs.size b ((xs.length:Int)-1-((0:Nat):Int)):=by
  have e:(xs.length:Int)-1-((0:Nat):Int)=(its.toArray.size:Int)-1:=by rw [yK,<- hl]; omega
  rw [e]; exact yI _ rfl
 refine zig (s:={ s1 with heap:=s1.heap.push (zex b ((its.toArray.size:Int)-1)),toks:=tk }) st ?_
 refine ⟨s1.heap.objs.size,[s1.heap.objs.size],_,_,H1,rfl,I1.kept (t':=tk) fun b o e=>yC _ e,zlE b _ xs,⟨yf _,st⟩,fun c hc=>?_,q⟩
 have e:c=s1.heap.objs.size:=by simpa using hc
 subst e; exact I1.fpOk (yF _) (I1.hok.fresh (yF _))
end
end L2
namespace PL
open PySem L2
theorem zpb {K:W.Frag} {Hi:Hp} {a:Addr} {vs:List V} {ds:List D} (h:Hi a=some (.tup vs)) (r:zbv K Hi vs ds):ItD K Hi (Itv K a vs) ds.reverse:=by
 intro Hi' H' s1 s2
 have hq:SqT K H' a vs:=SqT.of ((s1.trans s2.sub) _ _ h)
 have hl:=zl r
 refine ⟨fun i d e=>?_,hq,by rw [yj,hl]; exact yF _⟩
 have hi:i<ds.length:=by
  have:=(yG.mp e).1
  rwa [yj] at this
 refine ⟨⟨hq,by omega⟩,?_⟩
 rintro x H'' ⟨rfl,hx⟩
 rw [List.getElem?_reverse hi] at e; refine ⟨Hi',Ext.refl s2,(paired_get _ r hx ?_).mono s1⟩; rw [hl]; exact e
def zpf (t:TA'):TI':=fun Γ Q=>t Γ fun ds Γ1=>∃ es,ds=[.tup es]/\Q es.reverse Γ1
theorem zot {X:Cx} {tg a:Expr} {t:TA'} {p pos:Pos} (hg:Gl X "reversed") (hm:X.mg "reversed"=none) (ha:PA' X [a] t) (hs:starEach [a] X.env=[(false,eval a X.env)]:=by rfl):PI' X tg (.Call (.Name "reversed" p) [a] [] pos) (zpf t):=by
 refine ⟨PI.weak (zqk hg hm ha.pa hs) ?_⟩
 rintro σ H R ⟨W,Hi,Γ,Q',g,h,fin⟩
 refine ⟨W,Hi,Γ,_,g,h,?_⟩
 rintro vs H1 Hi1 Γ1 ds s1 g1 dl ⟨es,rfl,q⟩
 obtain ⟨v,rfl,den⟩:=zcK dl; obtain ⟨a,us,rfl,h1,h2⟩:=den.tupJ; exact ⟨a,us,rfl,SqT.of (g1.sub _ _ h1),fin _ H1 Hi1 Γ1 _ s1 g1 (zpb h1 h2) q⟩
instance {t:TA'} [MA t]:MI (zpf t):=⟨fun Γ _ _ h q=>MA.mono (t:=t) _ _ _ (fun _ _ ⟨es,e,z⟩=>⟨es,e,h _ _ z⟩) q⟩
end PL
namespace X1
open PySem
def Ex (h:Heap) (e:Addr) (cl:Value) (dd:Option Addr) (vs:Array Value):Prop:=∃ sl,h.get? e=some ⟨cl,dd,.fields vs,sl⟩
def Ent (h:Heap) (T:Addr) (fl:Value):Prop:=∃ c d ts sl,h.get? T=some ⟨c,d,.fields ts,sl⟩/\ts[3]?=some fl
def Hd (h:Heap) (e:Addr) (vs:Array Value) (fl:Value) (R:Addr->Prop):Prop:=(vs[1]?=some .none/\fl=.none)\/∃ T,vs[1]?=some (.ref T)/\T≠e/\R T/\Ent h T fl
section
variable {M:Model} {A:Around} {E:Value->Shared->Prop} {s:Shared} {base:Heap} {env:Env} {outer:List Env} {L e:Addr} {cl fl:Value} {dd:Option Addr} {vs:Array Value} {R:Addr->Prop}
end
section
variable {prog:Program} {w:World} {A:Around} {E:Value->Shared->Prop} {h:Heap} {g:Array GenState} {d:Drawn} {t:Nat} {os:OsState} {C N fI:Addr} {oI:Obj} {bm bmB:List Value} {B nid iid:String} {mN:Str->Option Value} {zdP:List Value}
end
section
variable {M:Model} {A:Around} {E:Value->Shared->Prop} {env:Env} {s:Shared} {C N:Addr} {bm:List Value} {nid:String}
end
end X1
namespace X1
open PySem PySem.W
section
variable {prog:Program} {w:World} {A:Around} {E:Value->Shared->Prop} {s:Shared} {K:Frag} {x C:Addr} {ox:Obj} {od:Option Obj} {name:Str}
structure XGet (K:Frag) (C:Addr):Prop where
 ga:findIn K (.ref C) "__getattribute__"=some (some (.builtin "BaseException.__getattribute__"))
 gr:findIn K (.ref C) "__getattr__"=some none
 sub:mroIn K C (.type "BaseException")=some true
theorem znS {tk:Tok} {fill expr:Bool} {v:Value} {Q:Value->Shared->Prop} (X:K.In s.heap) (I:InstAt s.heap x ox C od) (T:XGet K C) (h:∀ R:Result->Shared->Prop,R (.ok (.ret v)) s->codeAny (model prog w) A (.call (.builtin "BaseException.__getattribute__") ⟨[.ref x,.str name tk],[]⟩) R s)
  (hh:handedIn v=true) (q:Q v s):wpAny (model prog w) A (getAttrBy (.ref x) (.str name tk) fill expr) Q E s:=by
 obtain ⟨hh',g,d,t,os⟩:=s; have L0:=I.type (M:=model prog w); have L1:=looks_findIn (M:=model prog w) X T.ga; have L2:=looks_findIn (M:=model prog w) X T.gr; unfold getAttrBy; refine YS (yA (L0.at (yA (L1.at ?_))))
 show wpAny _ _ (if (onTheHeap (.ref C) && Value.builtin "BaseException.__getattribute__" == Value.builtin "object.__getattribute__")=true then _ else _) _ _ _
 rw [yM (by
  have z:(Value.builtin "BaseException.__getattribute__" == Value.builtin "object.__getattribute__")=false:=by decide +kernel
  rw [z,Bool.and_false]; exact yL)]
 unfold getAttrByItsOwn hookBefore; refine yA (L2.at ?_); refine yA (YT (YS ?_)); unfold callGetattribute
 rw [yM (by cases expr <;> decide)]
 unfold boundAndCalled; rw [F.excAttr_ValueError.ga.bind]; refine yA (yD (wpAny_call (h _ ?_)))
 show wpAny _ _ (handedOut v) _ _ _
 rw [handedOut_of hh]; exact yD q
theorem ziU {tk:Tok} {R:Result->Shared->Prop} (X:K.In s.heap) (I:InstAt s.heap x ox C od) (T:XGet K C) (hf:findObj K C od "__class__"=some (.bind (.builtin "getset_descriptor.__get__") (.builtin "object.__class__"))) (hm:mroIn K C (.type "object")=some true)
  (h:R (.ok (.ret (.ref C))) s):codeAny (model prog w) A (.call (.builtin "BaseException.__getattribute__") ⟨[.ref x,.str "__class__" tk],[]⟩) R s:=by
 obtain ⟨hh',g,d,t,os⟩:=s; have L0:=I.type (M:=model prog w); have L1:=looks_find (M:=model prog w) X I hf
 have LI:Looks (model prog w) hh' (isInstance (.ref x) (.type "BaseException")) true:=L0.andThen (looks_mroIn X T.sub)
 have hk:builtinKind "BaseException.__getattribute__"=some .slot:=by decide +kernel
 have hsp:splitId "BaseException.__getattribute__"=some ("BaseException","__getattribute__"):=by decide +kernel
 refine codeAny_call_builtin F.excAttr_ValueError.ga.plain F.entry_bexc_ga (@check_slot (model prog w) _ _ _ "BaseException.__getattribute__" "BaseException" "__getattribute__" (.ref x) [.str "__class__" tk] [] _ hk hsp LI (F.args_bexc_ga (.ref x) (.str "__class__" tk)) ?_); refine yA (yD (yA (yD (yA (L0.at (yA (L1.at ?_)))))))
 show wpAny _ _ (Builtin.ObjectAttr.bindTo (.builtin "getset_descriptor.__get__") (.builtin "object.__class__") (.ref x) (.ref C)) _ _ _
 show wpAny _ _ (do let r <- holding [Value.builtin "object.__class__"] (call (.builtin "getset_descriptor.__get__") [.builtin "object.__class__",.ref x,.ref C]); ret r) _ _ _
 exact yA (YS (wpAny_call (class_get (ox:=ox) (od:=od) X I hm (yD h))))
theorem xget_class? {Q:Option Value->Shared->Prop} (X:K.In s.heap) (I:InstAt s.heap x ox C od) (T:XGet K C) (hf:findObj K C od "__class__"=some (.bind (.builtin "getset_descriptor.__get__") (.builtin "object.__class__"))) (hm:mroIn K C (.type "object")=some true)
  (h:Q (some (.ref C)) { s with toks:=s.toks+1 }):wpAny (model prog w) A (getAttr? (.ref x) "__class__") Q E s:=by
 unfold getAttr? getAttrBy?
 refine yA (wpAny_mkText (yA (YT ?_)))
 exact znS (s:={ s with toks:=s.toks+1 }) X I T (fun R hR=>ziU (s:={ s with toks:=s.toks+1 }) X I T hf hm hR) rfl (yD h)
end
structure XIs (K:Frag) (C:Addr):Prop extends XGet K C where
 cl:(clsIn K C).isSome=true
 ha:findIn K (.ref C) "__class__"=some (some (.builtin "object.__class__"))
 hn:specialIn K (.builtin "object.__class__") "__get__"=some (some (.builtin "getset_descriptor.__get__"))
 tk:takesIn K (.builtin "object.__class__")=some true
 ob:mroIn K C (.type "object")=some true
theorem zhZ {K:Frag} {C:Addr} {a g:Value} {od:Option Obj} {name:Str} (hc:(clsIn K C).isSome=true) (ha:findIn K (.ref C) name=some (some a)) (hg:specialIn K a "__get__"=some (some g)) (ht:takesIn K a=some true):findObj K C od name=some (.bind g a):=by
 obtain ⟨cd,e⟩:=Option.isSome_iff_exists.mp hc; unfold findObj; rw [e,Option.bind_some,ha]; simp [hg,ht]
theorem kitx_exc {K:Frag} {x C:Addr} (T:XIs K C):KitX K (.ref x) (.ref C) (fun h=>∃ ox od,InstAt h x ox C od) where
 ty:=fun _ _ _ ⟨_,_,I⟩=>I.type
 it:=fun _ _ X _=>by
  have hcD:=T.cl; unfold clsIn at hcD; split at hcD
  ·rename_i c' d' cd' sl' ho
   intro A' Q' E' s' k q; unfold isType loadHead; exact yA (wpAny_loadPart (k _ _ (X _ _ ho)) (yD q))
  ·cases hcD
 ne:=fun h tp dd its n sl X htp=>by
  have hcD:=T.cl
  refine Bool.eq_false_iff.mpr fun q=>?_
  have e:C=tp:=Value.ref.inj (beq_iff_eq.mp q)
  subst e; unfold clsIn at hcD; split at hcD
  ·rename_i c' d' cd' sl' ho
   have z:=(X _ _ ho).symm.trans htp; cases z
  ·cases hcD
 ca:=fun X ⟨_,_,I⟩ k=>xget_class? X I T.toXGet (zhZ T.cl T.ha T.hn T.tk) T.ob k
end X1
namespace L2
open PySem PySem.Spec PyProof.Rows
structure InsT (K:W.Frag) (C:Addr):Prop where
 cl:Cls K C
 ha:W.findIn K (.ref C) "__class__"=some (some (.builtin "object.__class__"))
 hn:W.specialIn K (.builtin "object.__class__") "__get__"=some (some (.builtin "getset_descriptor.__get__"))
 htk:W.takesIn K (.builtin "object.__class__")=some true
 hm:W.mroIn K C (.type "object")=some true
def TyA (K:W.Frag) (H:Hp) (x:V) (t:Value):Prop:=(∃ n,t=.type n/\zrf K H x n)\/(∃ a C dx fs,x=.ref a/\H a=some (.ins C dx fs)/\t=.ref C/\InsT K C)\/∃ a C dd,x=.ref a/\H a=some (.ext (XAt a C dd))/\(∀ dx,dd=some dx->∃ fs,H dx=some (.xd fs))/\t=.ref C/\X1.XIs K C
def zsV:V->Option Value
 | .ty n=>some (.type n)
 | .ref C=>some (.ref C)
 | _=>none
theorem zm6 {c:V} {u v:Value} (r:za8 c u) (h:zsV c=some v):u=v:=by
 cases c with
 | ty n=>cases h; exact r
 | ref C=>cases h; exact r
 | _=>cases h
section
variable {X:Cx}
theorem znV {pins:List (Addr × Obj)} {σ:St} {H:Hp} {s:Shared} {x:V} {u t:Value} (I:Inv X pins σ H s) (r1:za8 x u) (ty:TyA X.K H x t):∃ Hh,W.KitX X.K u t Hh/\Hh s.heap/\u≠.builtin "__main__.__loader__#opaque":=by
 rcases ty with ⟨n,rfl,ty⟩ | ⟨a,C,dx,fs,rfl,ea,rfl,T⟩ | ⟨a,C,dd,rfl,ea,hdd,rfl,T⟩
 ·cases x with
  | non=>cases (show n=_ from ty); cases (show u=Value.none from r1); exact ⟨_,W.kitx_none,True.intro,fun z=>nomatch z⟩
  | bl y=>cases (show n=_ from ty); cases (show u=Value.bool y from r1); exact ⟨_,W.kitx_bool,True.intro,fun z=>nomatch z⟩
  | int i=>cases (show n=_ from ty); obtain ⟨tk,z⟩:=(show ∃ t,u=Value.int i t from r1); cases z; exact ⟨_,W.kitx_int,True.intro,fun z=>nomatch z⟩
  | str y=>cases (show n=_ from ty); obtain ⟨tk,z⟩:=(show ∃ t,u=Value.str y t from r1); cases z; exact ⟨_,W.kitx_str,True.intro,fun z=>nomatch z⟩
  | ref a =>
   cases (show u=Value.ref a from r1)
   rcases ty with ⟨rfl,xs,hq⟩ | ⟨rfl,xs,hq⟩ | ⟨rfl,hq⟩
   ·obtain ⟨its,_,p,_⟩:=I.list hq
    obtain ⟨o,n,e1,c1,_⟩:=p
    exact ⟨_,W.kitx_list,⟨o,e1,c1⟩,fun z=>nomatch z⟩
   ·obtain ⟨its,_,p,_⟩:=I.tuple hq
    obtain ⟨o,h1,h2,_⟩:=p
    exact ⟨_,W.kitx_tuple,⟨o,h1,h2⟩,fun z=>nomatch z⟩
   ·have z:∃ o,s.heap.get? a=some o/\o.ExactDict:=by
     rcases hq with ⟨kvs,hq⟩ | ⟨kvs,hq⟩
     ·obtain ⟨_,_,_,_,o,_,_,e,ex,_⟩:=hq.ok I.hok
      exact ⟨o,e,ex⟩
     ·obtain ⟨_,_,_,_,o,_,_,e,ex,_⟩:=hq.ok I.hok
      exact ⟨o,e,ex⟩
    obtain ⟨o,h1,h2⟩:=z
    exact ⟨_,W.kitx_dict,⟨o,h1,h2.1⟩,fun z=>nomatch z⟩
  | _=>exact False.elim ty
 ·cases (show u=Value.ref a from r1)
  obtain ⟨mA,O,_⟩:=zpe I.hok ea; obtain ⟨od,J,_⟩:=O.look
  exact ⟨_,W.kitx_own (T.cl.get _) T.cl.hd T.ha T.hn T.htk T.hm,J,fun z=>nomatch z⟩
 ·cases (show u=Value.ref a from r1)
  obtain ⟨⟨vs,sl,hx⟩,_⟩:=(show zbN X.prog X.w H s.heap a (.ext (XAt a C dd)) from I.hok a _ ea)
  refine ⟨_,X1.kitx_exc T,?_,fun z=>nomatch z⟩
  cases dd with
  | none=>exact ⟨_,none,hx,rfl,rfl,True.intro⟩
  | some dx =>
   obtain ⟨fs,hf⟩:=hdd dx rfl
   obtain ⟨mA,⟨o,es,ep,ho,_⟩,_⟩:=(show zbN X.prog X.w H s.heap dx (.xd fs) from I.hok dx _ hf)
   exact ⟨_,some o,hx,rfl,rfl,ho⟩
theorem zld:zcP X (.builtin "isinstance") (fun xs H Q=>∃ x t cv c b,xs=[x,cv]/\zsV cv=some c/\TyA X.K H x t/\W.kitOne X.K t c=some b/\Q (.bl b) H):=by
 intro pins s σ H xs us Q I r h; obtain ⟨x,t,cv,c,b,rfl,hc,ty,e,q⟩:=h; obtain ⟨u,w',rfl,r1,r2⟩:=znU r
 cases zm6 r2 hc
 obtain ⟨Hh,kx,hp,ne⟩:=znV I r1 ty
 exact W.kia_one kx I.kIn hp e ne fun tk=>⟨.bl b,H,I.tok _,rfl,q⟩
end
end L2
namespace PL
open PySem L2
section
variable {X:Cx} {pos:Pos}
def zsW:D->Option Value
 | .ty n=>some (.type n)
 | .cls C=>some (.ref C)
 | _=>none
theorem zpr {K:W.Frag} {H:Hp} {v:V} {d:D} {c:Value} (h:Den K H v d) (e:zsW d=some c):zsV v=some c:=by
 cases h with
 | ty n=>exact e
 | cls C=>exact e
 | _=>cases e
def TyD (K:W.Frag) (d:D) (t:Value):Prop:=(∃ n,t=.type n/\zhT d=some n)\/(∃ C fs,d=.obj C fs/\t=.ref C/\InsT K C)\/∃ C fs,d=.exc C fs/\t=.ref C/\X1.XIs K C
theorem TyD.ok {K:W.Frag} {Hi H:Hp} {x:V} {d:D} {t:Value} (s:zaG Hi H) (den:Den K Hi x d) (h:TyD K d t):TyA K H x t:=by
 rcases h with ⟨n,rfl,h⟩ | ⟨C,fs,rfl,rfl,T⟩ | ⟨C,fs,rfl,rfl,T⟩
 ·exact .inl ⟨n,rfl,zmT s den h⟩
 ·obtain ⟨a,dx,fvs,rfl,ha,_⟩:=den.objI
  exact .inr (.inl ⟨a,C,dx,fvs,rfl,s _ _ ha,rfl,T⟩)
 ·obtain ⟨a,dd,rfl,ha,xd⟩:=den.excI
  refine .inr (.inr ⟨a,C,dd,rfl,s _ _ ha,fun dx e=>?_,rfl,T⟩)
  rcases xd with ⟨e',_⟩ | ⟨dx',fs',e',hf,_⟩
  ·rw [e'] at e; cases e
  ·rw [e'] at e
   cases e; exact ⟨fs',s _ _ hf⟩
def zjb (K:W.Frag):RC':=fun ds Q=>∃ d t cd c b,ds=[d,cd]/\zsW cd=some c/\TyD K d t/\W.kitOne K t c=some b/\Q (.bl b)
theorem zq9:Cal X (.builtin "isinstance") (zjb X.K):=⟨_,zld,by
 rintro Hi H vs ds Q Q2 s dl ⟨d,t,cd,c,b,rfl,hc,ty,e,q⟩ fin
 obtain ⟨v,w,rfl,d1,d2⟩:=zjv dl; exact ⟨v,t,w,c,b,rfl,zpr d2 hc,ty.ok s.sub d1,e,fin Hi H _ _ (Ext.refl s) (.bl _) q⟩⟩
end
end PL
namespace L2
open PySem PySem.Spec PyProof.Rows
section
variable {X:Cx} {pins:List (Addr × Obj)} {σ:St} {H:Hp} {s:Shared} {a:Addr} {y d:V} {u r:Value} {o:Option V} {A:Around} {E:Value->Shared->Prop}
theorem zq1 {Q:Value->Shared->Prop} (hu:A.units+1<cLine) (I:Inv X pins σ H s) (g:zlz H a y o) (ry:za8 y u) (rd:za8 d r) (h:∀ w' s',Inv X pins σ H s'->za8 (o.getD d) w'->Q w' s') :
  wpAny (model X.prog X.w) A (call (.builtin "dict.get") [.ref a,u,r]) Q E s:=by
 obtain ⟨kvs,ep,k,b,e,ey,eb,l⟩:=g; subst ey
 cases (show u=Value.ref b from ry)
 obtain ⟨z,hd,xs,rel,dd,_⟩:=zdX I.hok e; refine call_meetsIn PySem.F.slot_dict_get dd.typeIs PySem.F.entry_dict_get (PySem.F.args_dict_get_3 _ _ _) (meetsH_dict_get_default (tupleKind (zbj X.prog X.w)) a b hd r) ⟨tupleKind_room_in1 hu,k,xs,zd1 I.hok eb,dd,h _ _ (I.tok _) ?_⟩; rw [l]; exact (rel.val k).getD rd
theorem znH (I:Inv X pins σ H s) {kvs:List (List Key × V)} {ep:Nat} (e:H a=some (.dE kvs ep)) :
  s.TypeIs (.ref a) "dict"/\(∀ b,Value.ref a=.ref b->∃ ob,s.heap.get? b=some ob/\ob.dict=none):=by
 obtain ⟨_,hd,xs,_,dd,_⟩:=zdX I.hok e
 refine ⟨dd.typeIs,fun b q=>?_⟩
 cases q; obtain ⟨ob,_,_,h1,h2,_⟩:=dd; exact ⟨ob,h1,h2.2.1⟩
end
def zjN (td ty tx:TE):TE:=fun σ H Q=>td σ H fun x H1=>∃ a kvs ep,x=.ref a/\H1 a=some (.dE kvs ep)/\ty σ H1 fun y H2=>tx σ H2 fun z H3=>∃ o,zlz H3 a y o/\Q (o.getD z) H3
section
variable {X:Cx} {o e f:Expr} {apos cpos:Pos} {td ty tx:TE}
theorem zmn (hu:X.A.units+1<cLine) (ho:PE X o td) (he:PE X e ty) (hf:PE X f tx) (m:M2 X o "get" apos e f cpos):PE X (.Call (.Attribute o "get" apos) [e,f] [] cpos) (zjN td ty tx):=by
 intro pins s σ H Q I h
 refine wpAny_Call_method m.base m.few m.line PySem.F.plainAttrs_dict PySem.F.slot_dict_get PySem.F.type_dict_get (thn (ho pins s σ H _ I h) fun u s1 ⟨x,H1,I1,rx,a,kvs,ep,ex,d,q1⟩=>?_)
 subst ex
 obtain rfl:u=Value.ref a:=rx
 obtain ⟨t1,t2⟩:=znH I1 d; refine ⟨t1,t2,?_⟩; rw [m.trees]
 refine Calls.callWith_builtin rfl (Calls.evalArgs_plain (YV (thn (he pins s1 σ H1 _ I1 q1) fun iv s2 ⟨y,H2,I2,ry,q2⟩ =>
  YV (thn (hf pins s2 σ H2 _ I2 q2) fun fv s3 ⟨z,H3,I3,rz,ov,g,q3⟩=>Calls.spliced_nil ?_))))
 exact zq1 hu I3 g ry rz fun w' s4 I4 rw'=>⟨_,H3,I4,rw',q3⟩
end
section
variable {X:Cx} {tg:Expr}
end
end L2
namespace PL
open PySem L2
section
variable {X:Cx} {pos:Pos}
def zfO (neg:Bool):R2':=fun x y Q=>∃ (l:List Nat) (ms:List (List Nat)),x=.str l/\(y=.tup (ms.map .str)\/y=.lst (ms.map .str))/\Q (.bl (if neg then !decide (l ∈ ms) else decide (l ∈ ms)))
theorem zf8 {K:W.Frag} {Hi:Hp}:∀ {vs:List V} {ms:List (List Nat)},zbv K Hi vs (ms.map .str)->vs=ms.map fun m=>V.str (st m)
 | [],[],_=>rfl
 | v :: vs,m :: ms,.cons r t=>by rw [yZ,<- r.strI,<- zf8 t]
 | [],_ :: _,h=>nomatch h
 | _ :: _,[],h=>nomatch h
theorem zf7 (l:List Nat):∀ ms:List (List Nat),inV (.str (st l)) (ms.map fun m=>V.str (st m))=decide (l ∈ ms)
 | []=>rfl
 | m :: ms=>by
  have ih:=zf7 l ms
  unfold inV at ih ⊢
  rw [yZ,List.any_cons,ih]
  have e:eqV (.str (st m)) (.str (st l))=decide (m=l):=by
   show decide (st m=st l)=_
   by_cases h:m=l
   ·rw [h]; simp
   ·rw [yS h,yS (fun z=>h (by
     have:=ye (fun x:Str=>x.cps.toList) z
     simpa [st] using this))]
  rw [e]
  by_cases h:m=l
  ·subst h; simp
  ·have h':¬ l=m:=fun z=>h z.symm
   simp [h,h']
theorem zgV (ms:List (List Nat)):(ms.map fun m=>V.str (st m)).all zeU=true:=by
 rw [yW]; intro x hx; obtain ⟨m,_,rfl⟩:=yU.mp hx; rfl
theorem ziz {K:W.Frag} (neg:Bool):zhh K (rIn K neg) (zfO neg):=by
 rintro Hi H x y dx dy Q Q2 s d1 d2 ⟨l,ms,rfl,hy,q⟩ fin
 cases d1.strI
 rcases hy with rfl | rfl
 ·obtain ⟨a,vs,rfl,h1,h2⟩:=d2.tupJ
  rw [zf8 h2] at h1; refine ⟨a,_,rfl,.inr (SqT.of (s.sub _ _ h1)),rfl,zgV ms,?_⟩; rw [zf7]; exact fin Hi H _ _ (Ext.refl s) (.bl _) q
 ·obtain ⟨a,vs,rfl,h1,h2⟩:=d2.lstI
  rw [zf8 h2] at h1; refine ⟨a,_,rfl,.inl (zai s.sub h1),rfl,zgV ms,?_⟩; rw [zf7]; exact fin Hi H _ _ (Ext.refl s) (.bl _) q
theorem zmw:Op2 X (compareOp .In) (zfO false):=⟨_,zkq,ziz false⟩
theorem zhM:Op2 X (compareOp .NotIn) (zfO true):=⟨_,zgz,ziz true⟩
instance {neg:Bool}:MR2 (zfO neg):=⟨fun _ _ _ _ h ⟨l,ms,a,b,q⟩=>⟨l,ms,a,b,h _ q⟩⟩
end
section
variable {X:Cx} {Q:D->Prop}
instance:MR2 zhu:=⟨fun _ _ _ _ h ⟨i,j,a,b,c,q⟩=>⟨i,j,a,b,c,h _ q⟩⟩
def zdR:R2':=fun x y Q=>zfP x y Q\/zhu x y Q
theorem zbE:Op2 X (binaryOp .Add) zdR:=zsC.or zqI
instance:MR2 zdR:=⟨fun _ _ _ _ h q=>q.imp (MR2.mono (r:=zfP) _ _ _ _ h) (MR2.mono (r:=zhu) _ _ _ _ h)⟩
instance {neg:Bool}:MR2 (znj neg):=⟨fun _ _ _ _ h ⟨i,j,a,b,q⟩=>⟨i,j,a,b,h _ q⟩⟩
def zqa:R2':=fun x y Q=>zl3 false x y Q\/znj false x y Q\/zfO false x y Q
theorem zqK (hu:X.A.units+1<cLine):Op2 X (compareOp .In) zqa:=zsz.or ((zsy hu).or zmw)
instance:MR2 zqa:=⟨fun _ _ _ _ h q=>q.imp (MR2.mono (r:=zl3 false) _ _ _ _ h) (fun q=>q.imp (MR2.mono (r:=znj false) _ _ _ _ h) (MR2.mono (r:=zfO false) _ _ _ _ h))⟩
def zhp:R2':=fun x y Q=>zfM x y Q\/znj true x y Q\/zfO true x y Q
theorem zmx (hu:X.A.units+1<cLine):Op2 X (compareOp .NotIn) zhp:=zoO.or ((zmt hu).or zhM)
instance:MR2 zhp:=⟨fun _ _ _ _ h q=>q.imp (MR2.mono (r:=zfM) _ _ _ _ h) (fun q=>q.imp (MR2.mono (r:=znj true) _ _ _ _ h) (MR2.mono (r:=zfO true) _ _ _ _ h))⟩
instance:MR2 zhr:=⟨fun _ _ _ _ h ⟨i,j,v,a,b,c,q⟩=>⟨i,j,v,a,b,c,h _ q⟩⟩
def zja:R2':=fun x y Q=>zln x y Q\/zhr x y Q
theorem i_A (hu:X.A.units+1<cLine):Ixs X zja:=zsH.or (zsI hu)
instance:MR2 zja:=⟨fun _ _ _ _ h q=>q.imp (MR2.mono (r:=zln) _ _ _ _ h) (MR2.mono (r:=zhr) _ _ _ _ h)⟩
instance:MRS zgu:=⟨fun _ _ _ _ _ h ⟨ds,e,q⟩=>⟨ds,e,h _ q⟩⟩
def zi9:RS':=fun x lo hi Q=>zj5 x lo hi Q\/zgu x lo hi Q
theorem s_A:Sli X zi9:=ztF.or zr2
instance:MRS zi9:=⟨fun _ _ _ _ _ h q=>q.imp (MRS.mono (r:=zj5) _ _ _ _ _ h) (MRS.mono (r:=zgu) _ _ _ _ _ h)⟩
def zfN:RC':=fun ds Q=>ze5 ds Q\/zhq ds Q
theorem zbJ:Cal X (.builtin "len") zfN:=zsY.or zq8
instance:MRC zfN:=⟨fun _ _ _ h q=>q.imp (MRC.mono (r:=ze5) _ _ _ h) (MRC.mono (r:=zhq) _ _ _ h)⟩
@[simp] theorem zrS:D.tup []=plc []:=rfl
@[simp] theorem zrR (l:List Nat):D.tup [.str l]=plc [l]:=rfl
def zaN (p:List (List Nat)):List Key:=p.map fun l=>Sum.inr (st l)
theorem zbu (p:List (List Nat)):plc p=.tup ((zaN p).map keyD):=by
 unfold plc zaN; rw [yh]
 exact ye D.tup (yu fun l _=>by
  show D.str l=D.str (st l).cps.toList
  rw [zaE])
theorem zeC {p q:List (List Nat)} (h:plc p=plc q):p=q:=by
 unfold plc at h
 injection h with h
 exact (List.map_inj_right (fun a b h=>D.str.inj h)).mp h
@[simp] theorem ztj (p q:List (List Nat)):plc p=plc q↔p=q:=⟨zeC,fun h=>by rw [h]⟩
@[simp] theorem zqc (i j:Int):zdR (.int i) (.int j) Q↔Q (.int (i+j)):=by simp [zdR,zhu]
@[simp] theorem zj7 (l m:List Nat):zdR (.str l) (.str m) Q↔l.length+m.length<=sizeLine/\Q (.str (l ++ m)):=by simp [zdR,zhu]
@[simp] theorem zqb (p q:List (List Nat)):zdR (plc p) (plc q) Q↔p.length+q.length<=sizeLine/\Q (plc (p ++ q)):=by
 simp [zdR,zhu,zfP,zhv,plc]
@[simp] theorem zsg (c:Nat) (l:List Nat):zqa (.str [c]) (.str l) Q↔Q (.bl (decide (c ∈ l))):=by simp [zqa,znj,zfO]
theorem zcl (p:List (List Nat)) (ds:List (D × D)) (h:Q (.bl (!(zbX ds (plc p)).isSome))):zhp (plc p) (.dit ds) Q:=.inr (.inl ⟨zaN p,ds,zbu p,rfl,h⟩)
@[simp] theorem zrz (ds:List D) (i:Int):zja (.lst ds) (.int i) Q↔∃ d,atI ds i=some d/\Q d:=by simp [zja,zhr]
@[simp] theorem zl1 (ds:List D) (i:Int):zja (.tup ds) (.int i) Q↔∃ d,atI ds i=some d/\Q d:=by simp [zja,zhr]
@[simp] theorem zrx (l:List Nat) (i:Int):zja (.str l) (.int i) Q↔l.length<=sizeLine/\∃ c,atI l i=some c/\Q (.str [c]):=by simp [zja,zhr]
@[simp] theorem zry (p:List (List Nat)) (i:Int):zja (plc p) (.int i) Q↔∃ d,atI (p.map D.str) i=some d/\Q d:=zl1 _ i
theorem zea (p:List (List Nat)) (ds:List (D × D)) {v:D} (e:zbX ds (plc p)=some v) (h:Q v):zja (.dit ds) (plc p) Q:=.inr ⟨ds,zaN p,v,rfl,zbu p,e,h⟩
@[simp] theorem zr8 (l:List Nat) (n:Int):zi9 (.str l) none (some n) Q↔l.length<=sizeLine/\0<=n/\Q (.str (l.take n.toNat)):=by simp [zi9,zgu]
@[simp] theorem zp0 (l:List Nat) (n:Int):zi9 (.str l) (some n) none Q↔l.length<=sizeLine/\0<=n/\Q (.str (l.drop n.toNat)):=by simp [zi9,zgu]
@[simp] theorem zrr (ds:List D) (lo hi:Option Int):zi9 (.lst ds) lo hi Q↔Q (.lst (zeg ds lo hi)):=by simp [zi9,zgu]
@[simp] theorem zlY (ds:List D) (lo hi:Option Int):zi9 (.tup ds) lo hi Q↔Q (.tup (zeg ds lo hi)):=by simp [zi9,zgu,zj5,zi7,zi8]
theorem zef {α β:Type} (f:α->β) (xs:List α) (lo hi:Option Int):zeg (xs.map f) lo hi=(zeg xs lo hi).map f:=by
 unfold zeg; rw [yE,List.map_take,List.map_drop]
@[simp] theorem zrq (p:List (List Nat)) (lo hi:Option Int):zi9 (plc p) lo hi Q↔Q (plc (zeg p lo hi)):=by
 unfold plc; rw [zlY,zef]
@[simp] theorem zp2 (l:List Nat):zfN [.str l] Q↔l.length<=sizeLine/\Q (.int (l.length:Nat)):=by simp [zfN,zhq]
@[simp] theorem zp4 (l:List D):zfN [.lst l] Q↔Q (.int (l.length:Nat)):=by simp [zfN,zhq]
@[simp] theorem zj6 (l:List D):zfN [.tup l] Q↔Q (.int (l.length:Nat)):=by simp [zfN,zhq]
@[simp] theorem zp3 (p:List (List Nat)):zfN [plc p] Q↔Q (.int (p.length:Nat)):=by
 unfold plc; rw [zj6,yE]
@[simp] theorem zrm (p:List (List Nat)):zpS (plc p)=some (p.map .str):=rfl
theorem zg1 {α:Type} (xs:List α):zeg xs none (some (-1))=xs.dropLast:=by
 unfold zeg
 have e:HT.sIx xs.length xs.length (some (-1))=xs.length-1:=by
  show (if (-1:Int)<0 then ((-1:Int)+(xs.length:Int)).toNat else min (-1:Int).toNat xs.length)=_
  rw [yR (by decide)]
  omega
 rw [HT.sIx_none,e,List.drop_zero,Nat.sub_zero,List.dropLast_eq_take]
theorem zeD {i:Int} {j:Nat} {p pos:Pos}:PE' X (.UnaryOp .USub (.Constant (.int i) j p) pos) (tC' (.int (-i))):=by
 refine zhz (v:=.int (-i)) (PE.weak (zsk zpF znp) ?_) fun _=>.int _
 intro σ H Q q; exact ⟨i,rfl,q⟩
theorem zcp {A:Around} {k:Nat} (hr:Room k A):A.units+100<cLine:=by have:=hr.un; omega
@[simp] theorem zt0 {α:Type} (a:α) (l:List α):atI (a :: l) 0=some a:=zdl (j:=0) rfl
@[simp] theorem ztZ {α:Type} (a b:α) (l:List α):atI (a :: b :: l) 1=some b:=zdl (j:=1) rfl
@[simp] theorem ztY {α:Type} (a b c:α) (l:List α):atI (a :: b :: c :: l) 2=some c:=zdl (j:=2) rfl
@[simp] theorem ztr {CX:CXT} {P:Program} {w:World} {K:W.Frag} {mg:Str->Option Value} {base:Heap} {N:List Str} {q:Str} {sc:Scope} {f:Addr} {cd:Value} {A:Around} {o:List Env} {s:Shared} {H:Hp} {E:XK}:(zlw CX P w K mg base N q sc f cd A o s H E).K=K:=rfl
@[simp] theorem ztq {CX:CXT} {P:Program} {w:World} {K:W.Frag} {mg:Str->Option Value} {base:Heap} {N:List Str} {q:Str} {sc:Scope} {f:Addr} {cd:Value} {A:Around} {o:List Env} {s:Shared} {H:Hp} {E:XK}:(zlw CX P w K mg base N q sc f cd A o s H E).N=N:=rfl
theorem zfg (K:W.Frag) {d:D} {n:String} (hk:zhT d=some n) {cd:D} {c:Value} (hc:zsW cd=some c):zjb K [d,cd] Q↔∃ b,W.kitOne K (.type n) c=some b/\Q (.bl b):=by
 constructor
 ·rintro ⟨d',t,cd',v,b,e,h1,h2,h3,q⟩
  injection e with e1 e2
  injection e2 with e2 _
  subst e1 e2
  rw [hc] at h1; cases h1
  rcases h2 with ⟨m,rfl,h2⟩ | ⟨C',fs',rfl,rfl,T⟩ | ⟨C',fs',rfl,rfl,T⟩
  ·rw [hk] at h2
   cases h2; exact ⟨b,h3,q⟩
  ·cases hk
  ·cases hk
 ·rintro ⟨b,h,q⟩
  exact ⟨d,_,cd,c,b,rfl,hc,.inl ⟨n,rfl,hk⟩,h,q⟩
@[simp] theorem zp6 (K:W.Frag) (c:String) (x:List Nat):zjb K [(.str x),.ty c] Q↔∃ b,W.kitOne K (.type "str") (.type c)=some b/\Q (.bl b):=zfg K rfl rfl
@[simp] theorem zp5 (K:W.Frag) (c:String) (x:List D):zjb K [(.tup x),.ty c] Q↔∃ b,W.kitOne K (.type "tuple") (.type c)=some b/\Q (.bl b):=zfg K rfl rfl
end
end PL
namespace X1
open PySem PySem.W
section
variable {prog:Program} {w:World} {A:Around} {E:Value->Shared->Prop} {s:Shared} {K:Frag} {x C:Addr} {vs:Array Value} {sl:Array (Option Value)} {name:Str} {v:Value}
end
section
variable {prog:Program} {w:World} {A:Around} {E:Value->Shared->Prop} {h:Heap} {g:Array GenState} {d:Drawn} {t:Nat} {os:OsState} {C N e:Addr} {bm bmB:List Value} {B nid iid:String} {zdP:List Value} {vs:Array Value} {dd:Option Addr} {sl:Array (Option Value)}
end
end X1
namespace L2
open PySem PySem.Spec PyProof.Rows
section
variable {P:Program} {w:World} {K:W.Frag} {mg:Str->Option Value} {base:Heap} {N:List Str} {qual:Str} {scope:Scope} {f:Addr} {cd:Value} {A:Around} {outer:List Env} {s s':Shared} {H H':Hp} {E:XK} {pins:List (Addr × Obj)} {σ:St} {e C:Addr} {dd:Option Addr}
end
structure FlyI (X:Cx) (pins:List (Addr × Obj)) (H:Hp) (h:Heap) (e C:Addr) (dd:Option Addr):Prop where
 fe:zge X pins H e
 ex:∃ vs,X1.Ex h e (.ref C) dd vs/\1<vs.size/\X1.Hd h e vs .none (zge X pins H)
abbrev XS:=St->XK
def XP (X:Cx) (pins:List (Addr × Obj)) (E:XS) (e:Value) (s':Shared):Prop:=∃ ae C dd σ' H',e=.ref ae/\Inv X pins σ' H' s'/\FlyI X pins H' s'.heap ae C dd/\E σ' (.ref C) dd H'
abbrev TEx:=St->Hp->VK->XK->Prop
abbrev TSx:=Ends->XS->St->Hp->Prop
section
variable {X:Cx} {st:Stmt} {zdP:List Stmt} {t u:TSx} {e:Expr} {te:TEx} {pos:Pos}
end
section
variable {P:Program} {w:World} {K:W.Frag} {mg:Str->Option Value} {base:Heap}
end
def del (H:Hp) (a:Addr):Hp:=fun b=>if b=a then none else H b
section
variable {X:Cx}
end
section
variable {X:Cx} {pins:List (Addr × Obj)} {σ:St} {H:Hp} {s:Shared}
end
section
variable {X:Cx}
end
end L2
namespace PL
open PySem L2
abbrev XW:=Addr->List (Str × D)->Sts->Prop
abbrev zt8:=Sts->(D->Sts->Prop)->XW->Prop
abbrev ztu:=Ends'->XW->Sts->Prop
section
variable {X:Cx} {pos:Pos} {e:Expr} {te:zt8} {st:Stmt} {zdP:List Stmt} {t u:ztu}
abbrev zs2:=List D->(Res->Prop)->(Addr->List (Str × D)->Prop)->Prop
end
section
variable {X:Cx} {k:Nat} {x:Str} {ps:List Str} {sp:zs2} {p pos:Pos} {e:Expr} {es:List Expr} {t:TA'}
end
section
variable {P:Program} {w:World} {K:W.Frag} {mg:Str->Option Value} {base:Heap}
end
section
variable {X:Cx} {k:Nat} {x fld:Str} {C:Addr} {ok:V->Hp->Prop} {okD:D->Prop} {p cpos pos:Pos} {e:Expr} {ta:TA'}
end
section
variable {X:Cx} {M:Addr} {x n:Str} {body suite:List Stmt} {b0:Stmt} {tb:ztu} {ts:TS'} {p hpos pos:Pos}
end
end PL
namespace L2
open PySem PySem.Spec PyProof.Rows PySem.Builtin PySem.Builtin.Str
section
variable {X:Cx}
theorem zjS {prog:Program} {w:World} {A:Around} {E:Value->Shared->Prop} {s:Shared} {x y:Str} {tx ty:Tok} {Q:Value->Shared->Prop} (hy:(y.length == 0)=false) (hx:x.length+2<=sizeLine)
  (q:∀ l tk,l.map (·.1)=Txt.split x y->Q (.ref s.heap.objs.size) { s with heap:=s.heap.push { cls:=.type "list",data:=.seq (strValues l).toArray },toks:=tk }) :
  wpAny (model prog w) A (call (.builtin "str.split") [.str x tx,.str y ty]) Q E s:=by
 have hx0:x.length<=sizeLine:=yr (Nat.le_add_right _ 2) hx
 by_cases c1:(decide (x.length<y.length) || decide (strKind x<strKind y))=true
 ·exact call_meets YO (typeIs_str _ _ _) PySem.F.entry_str_split (PySem.F.args_str_split_2 _ _) (meets_str_split_cannot_occur x y tx ty c1) (q [(x,tx)] _ (yR c1).symm)
 ·by_cases c2:(occurrences x y 0 x.length (x.length+1)).isEmpty=true
  ·exact call_meets YO (typeIs_str _ _ _) PySem.F.entry_str_split (PySem.F.args_str_split_2 _ _) (meets_str_split_not_found x y tx ty (Bool.eq_false_iff.mpr c1) hy c2) (q [(x,tx)] _ ((yM c1).trans (yR c2)).symm)
  ·have e:Txt.split x y=partsBetween x (occurrences x y 0 x.length (x.length+1)) y.length:=(yM c1).trans (yM c2)
   have hp:(partsBetween x (occurrences x y 0 x.length (x.length+1)) y.length).length<=sizeLine:=by
    rw [<- e]; exact yr (split_le x y) hx
   refine call_meets YO (typeIs_str _ _ _) PySem.F.entry_str_split (PySem.F.args_str_split_2 _ _) (meets_str_split_sep x y tx ty (Bool.eq_false_iff.mpr c1) hy (Bool.eq_false_iff.mpr c2) hx0 hp) ?_; have z:=q (numbered s.toks (partsBetween x (occurrences x y 0 x.length (x.length+1)) y.length)) (s.toks+(partsBetween x (occurrences x y 0 x.length (x.length+1)) y.length).length) ((numbered_texts _ _).trans e.symm); rw [<- strsFrom_eq] at z; exact z
theorem zfa:∀ (l:List (Str × Tok)),zaL ((l.map (·.1)).map V.str) (strValues l)
 | []=>.nil
 | (x,t) :: r=>.cons ⟨t,rfl⟩ (zfa r)
theorem zdD:∀ {ys:List Str} {its:List Value},zaL (ys.map V.str) its->StrsAre its ys
 | [],_,.nil=>.nil
 | y :: r,_,.cons h t=>by
  obtain ⟨tk,rfl⟩:=h; exact .cons y tk (zdD t)
theorem zmC:MtR X "str.split" (fun x xs H Q=>∃ z y,x=.str z/\xs=[.str y]/\(y.length == 0)=false/\z.length+2<=sizeLine/\∀ p,H p=none->Q (.ref p) (upd H p (.lst ((Txt.split z y).map .str)))):=by
 intro pins s σ H x xs v us Q I rx rs h; obtain ⟨z,y,rfl,rfl,hy,hz,q⟩:=h; obtain ⟨t,rfl⟩:=rx; obtain ⟨u,rfl,t',rfl⟩:=zct rs
 refine zjS hy hz fun l tk e=>?_
 have hv:=zfa l; rw [e] at hv
 exact ⟨.ref _,_,I.lnew (t':=tk) hv (by rw [yE]; exact yr (split_le z y) hz),rfl,q _ I.fresh⟩
theorem zoS:MtR X "str.join" (fun x xs H Q=>∃ z a ys,x=.str z/\xs=[.ref a]/\(SqL X.K H a (ys.map .str)\/SqT X.K H a (ys.map .str))/\(ys.map (·.length)).sum+ys.length * z.length<=16777216/\Q (.str (Txt.join z ys)) H):=by
 intro pins s σ H x xs v us Q I rx rs h; obtain ⟨z,a,ys,rfl,rfl,hs,hz,q⟩:=h; obtain ⟨t,rfl⟩:=rx; obtain ⟨u,rfl,ru⟩:=zct rs
 obtain rfl:u=Value.ref a:=ru
 rcases hs with hs | hs
 ·obtain ⟨its,r,p,_⟩:=I.list hs
  obtain ⟨o,n,e1,e2,e3,e4⟩:=p
  exact join_list (items:=its.toArray) ⟨o,e1,e2,n,by first | exact e3 | exact e4⟩ (zdD (by simpa using r)) hz fun t' k=>⟨.str _,H,I.tok _,⟨_,rfl⟩,q⟩
 ·obtain ⟨its,r,p,_⟩:=I.tuple hs
  exact join_tuple p (zdD (by simpa using r)) hz fun t' k=>⟨.str _,H,I.tok _,⟨_,rfl⟩,q⟩
end
end L2
namespace PL
open PySem L2
def za6 (c:Nat):List (List Nat)->List Nat
 | []=>[]
 | [a]=>a
 | a :: b :: r=>a ++ c :: za6 c (b :: r)
def spl (c:Nat):List Nat->List (List Nat)
 | []=>[[]]
 | x :: r=>if x=c then [] :: spl c r else match spl c r with
  | []=>[[x]]
  | a :: t=>(x :: a) :: t
theorem zie (c:Nat):∀ l,spl c l≠[]
 | []=>by simp [spl]
 | x :: r=>by
  unfold spl; split
  ·simp
  ·split <;> simp
theorem zgQ {c:Nat} {a:List Nat} {t:List (List Nat)} (h:t≠[]):za6 c (a :: t)=a ++ c :: za6 c t:=by
 cases t with
 | nil=>exact yO rfl h
 | cons b r=>rfl
theorem zf6 (c:Nat):∀ l,za6 c (spl c l)=l
 | []=>rfl
 | x :: r=>by
  have ih:=zf6 c r; unfold spl; split
  ·rename_i h
   rw [zgQ (zie c r),ih,h]; rfl
  ·split
   ·rename_i h
    exact yO h (zie c r)
   ·rename_i a t h
    rw [h] at ih
    cases t with
    | nil =>
     show x :: a=x :: r
     rw [<- ih]; rfl
    | cons b r' =>
     rw [zgQ (by simp)] at ih ⊢
     rw [<- ih]; rfl
theorem zfC (c:Nat):∀ l,∀ a ∈ spl c l,c ∉ a
 | [],a,h=>by
  simp [spl] at h; rw [h]; simp
 | x :: r,a,h=>by
  have ih:=zfC c r; unfold spl at h; split at h
  ·rcases yN.mp h with rfl | h
   ·simp
   ·exact ih a h
  ·rename_i hx
   split at h
   ·rcases yN.mp h with rfl | h
    ·simpa using Ne.symm hx
    ·simp at h
   ·rename_i b t e
    rw [e] at ih
    rcases yN.mp h with rfl | h
    ·have:=ih b yT
     simp only [yN,not_or]; exact ⟨Ne.symm hx,this⟩
    ·exact ih a (yH _ h)
theorem ziR {c:Nat}:∀ {a b x y:List Nat},c ∉ a->c ∉ b->a ++ c :: x=b ++ c :: y->a=b/\x=y
 | [],[],x,y,_,_,h=>⟨rfl,(List.cons.inj h).2⟩
 | [],z :: b,x,y,_,hb,h=>yO (List.cons.inj h).1 fun e=>hb (by rw [e]; exact yT)
 | z :: a,[],x,y,ha,_,h=>yO (List.cons.inj h).1 fun e=>ha (by rw [<- e]; exact yT)
 | z :: a,w :: b,x,y,ha,hb,h=>by
  have h':=List.cons.inj h
  obtain ⟨e1,e2⟩:=ziR (a:=a) (b:=b) (fun z=>ha (yH _ z)) (fun z=>hb (yH _ z)) h'.2
  exact ⟨by rw [h'.1,e1],e2⟩
theorem zeQ {c:Nat}:∀ {L M:List (List Nat)},L≠[]->M≠[]->(∀ a ∈ L,c ∉ a)->(∀ a ∈ M,c ∉ a)->za6 c L=za6 c M->L=M
 | [],_,h,_,_,_,_=>yO rfl h
 | _,[],_,h,_,_,_=>yO rfl h
 | [a],[b],_,_,_,_,h=>by rw [show a=b from h]
 | [a],b :: b' :: M,_,_,hL,_,h=>by
  have:c ∈ a:=by
   rw [show a=b ++ c :: za6 c (b' :: M) from h]
   simp
  exact yO this (hL a yT)
 | a :: a' :: L,[b],_,_,_,hM,h=>by
  have:c ∈ b:=by
   rw [<- show a ++ c :: za6 c (a' :: L)=b from h]
   simp
  exact yO this (hM b yT)
 | a :: a' :: L,b :: b' :: M,_,_,hL,hM,h=>by
  obtain ⟨e1,e2⟩:=ziR (hL a yT) (hM b yT) (show a ++ c :: za6 c (a' :: L)=b ++ c :: za6 c (b' :: M) from h)
  rw [e1,zeQ (L:=a' :: L) (M:=b' :: M) (by simp) (by simp) (fun x hx=>hL x (yH _ hx)) (fun x hx=>hM x (yH _ hx)) e2]
theorem zfB {c:Nat} {L:List (List Nat)} (h:L≠[]) (hf:∀ a ∈ L,c ∉ a):spl c (za6 c L)=L:=zeQ (zie c _) h (zfC c _) hf (zf6 c _)
theorem zfw (c:Nat):∀ L:List (List Nat),Txt.join (st [c]) (L.map st)=st (za6 c L):=by
 intro L
 show PySem.Builtin.Str.glued (st [c]) (L.map st)=_
 rw [StrLaws.glued_eq_join]
 induction L with
 | nil=>rfl
 | cons a t ih =>
  cases t with
  | nil=>rfl
  | cons b r =>
   show st a ++ st [c] ++ Str.join (st [c]) (st b :: r.map st)=st (a ++ c :: za6 c (b :: r))
   rw [show Str.join (st [c]) (st b :: r.map st)=st (za6 c (b :: r)) from ih]
   show (⟨(a.toArray ++ #[c]) ++ (za6 c (b :: r)).toArray⟩:Str)=⟨(a ++ c :: za6 c (b :: r)).toArray⟩
   simp
theorem zjH (c:Nat) (l:List Nat):Txt.split (st l) (st [c])=(spl c l).map st:=by
 have h1:Txt.split (st l) (st [c])=((Txt.split (st l) (st [c])).map fun z=>z.cps.toList).map st:=by
  rw [yh]
  conv=>lhs; rw [<- List.map_id (Txt.split (st l) (st [c]))]
  exact yu fun z _=>zn1 z
 have hne:((Txt.split (st l) (st [c])).map fun z=>z.cps.toList)≠[]:=by
  have:=PyProof.Rows.split_pos (st l) (st [c])
  intro z; rw [List.map_eq_nil_iff] at z; rw [z] at this
  simp at this
 have hfr:∀ a ∈ (Txt.split (st l) (st [c])).map (fun z=>z.cps.toList),c ∉ a:=by
  intro a ha; obtain ⟨z,hz,rfl⟩:=yU.mp ha; exact StrLaws.split_free (st l) c z hz
 have hj:=StrLaws.join_split (st l) (st [c]); rw [<- StrLaws.glued_eq_join] at hj
 have hj2:Txt.join (st [c]) (Txt.split (st l) (st [c]))=st l:=hj
 rw [h1,zfw] at hj2
 have hj3:za6 c ((Txt.split (st l) (st [c])).map fun z=>z.cps.toList)=l:=by
  have:=ye (fun z:Str=>z.cps.toList) hj2
  simpa [zaE] using this
 rw [h1,zeQ hne (zie c l) hfr (zfC c l) (by rw [hj3,zf6])]
section
variable {X:Cx}
theorem zeW {K:W.Frag} {H:Hp}:∀ {vs:List V} {ls:List (List Nat)},zbv K H vs (ls.map .str)->vs=(ls.map st).map V.str
 | _,[],.nil=>rfl
 | _,l :: ls,.cons r t=>by rw [r.strI,zeW t]; rfl
theorem zgh {K:W.Frag} {H:Hp}:∀ (ls:List (List Nat)),zbv K H ((ls.map st).map V.str) (ls.map .str)
 | []=>.nil
 | l :: ls=>.cons (.str l) (zgh ls)
def zpZ:RM':=fun x ds Q=>∃ l c,x=.str l/\ds=[.str [c]]/\l.length+2<=sizeLine/\Q (.lst ((spl c l).map .str))
theorem zhP:Met X "str" "str.split" zpZ:=⟨_,zmC,by
 rintro Hi H x vs dx ds Q Q2 s d1 dl ⟨l,c,rfl,rfl,hl,q⟩ fin
 obtain ⟨v,rfl,den⟩:=zcK dl
 refine ⟨_,_,d1.strI,by rw [den.strI],rfl,by rw [zbC]; exact hl,fun p hp=>?_⟩
 rw [zjH]; have e:=Ext.new s hp (.lst (((spl c l).map st).map V.str)); exact fin _ _ _ _ e (Den.mkL (SqL.of zu) (zgh _)) q⟩
def zsa:RM':=fun x ds Q=>∃ c ls,x=.str [c]/\(ds=[.lst (ls.map .str)]\/ds=[.tup (ls.map .str)])/\(ls.map (·.length)).sum+ls.length<=16777216/\Q (.str (za6 c ls))
theorem zgJ:Met X "str" "str.join" zsa:=⟨_,zoS,by
 rintro Hi H x vs dx ds Q Q2 s d1 dl ⟨c,ls,rfl,hd,hl,q⟩ fin
 have hz:(((ls.map st).map (·.length)).sum+(ls.map st).length * (st [c]).length)<=16777216:=by
  rw [yh,zbC]
  have:(ls.map ((fun z:Str=>z.length) ∘ st))=ls.map (·.length):=yu fun z _=>zbC z
  rw [this,yE]
  simpa using hl
 rcases hd with rfl | rfl
 ·obtain ⟨v,rfl,den⟩:=zcK dl
  obtain ⟨a,us,rfl,h1,h2⟩:=den.lstI; rw [zeW h2] at h1; refine ⟨_,a,ls.map st,d1.strI,rfl,.inl (zai s.sub h1),hz,?_⟩; rw [zfw]; exact fin Hi H _ _ (Ext.refl s) (.str _) q
 ·obtain ⟨v,rfl,den⟩:=zcK dl
  obtain ⟨a,us,rfl,h1,h2⟩:=den.tupI; rw [zeW h2] at h1; refine ⟨_,a,ls.map st,d1.strI,rfl,.inr (zaz s.sub h1),hz,?_⟩; rw [zfw]; exact fin Hi H _ _ (Ext.refl s) (.str _) q⟩
theorem zj1 {K:W.Frag} {H:Hp} {vs:List V} {ds:List D} (h:zbv K H vs ds):∀ k,zbv K H (List.replicate k vs).flatten (List.replicate k ds).flatten
 | 0=>.nil
 | k+1=>by
  rw [YN,YN,Yn,Yn]; exact paired_app h (zj1 h k)
end
section
variable {X:Cx} {k:Nat} {x:Str} {ps:List Str} {sp:zs2} {p pos:Pos} {e:Expr} {es:List Expr} {t:TA'}
end
theorem zcO {X:Cx} (K:W.Frag) (h:X.K=K):Cal X (.builtin "isinstance") (zjb K):=by
 subst h; exact zq9
end PL
namespace L2
open PySem PySem.Spec PyProof.Rows
section
variable {K:W.Frag} {C M N NM f:Addr} {c cM:Value} {d dM od:Option Addr} {es eM:Array DictEntry} {ep epM:Nat} {sl slM sf:Array (Option Value)}
end
end L2
namespace L2
open PySem
end L2
namespace L2
open PySem PySem.Spec PyProof.Rows
section
variable {X:Cx}
end
end L2
namespace PL
open PySem L2
section
variable {X:Cx} {k:Nat} {C:Addr} {m:Str} {ps:List Str} {sp:Sp'} {spx:zs2} {apos pos:Pos} {o e:Expr} {es:List Expr} {to:TE'} {t:TA'}
abbrev zli:=List D->Sts->(Sts->Prop)->Prop
def ztU (K:W.Frag) (n:Nat) (g:zli):TGs:=fun vs σ H Q2=>∃ W Hi Γ ds Q,Good K n W Hi Γ σ H/\zbv K Hi vs ds/\g ds Γ Q/\∀ σ' H' Hi' Γ',zaG Hi Hi'->Good K n W Hi' Γ' σ' H'->Q Γ'->Q2 σ' H'
structure PGs' (X:Cx) (es:List Expr) (g:zli):Prop where
 h:PGs X es (ztU X.K X.N.length g)
theorem PGs.weak {es:List Expr} {t t2:TGs} (h:PGs X es t) (w:∀ vs σ H Q,t2 vs σ H Q->t vs σ H Q):PGs X es t2:=fun pins s σ H vs us Q I r q=>h pins s σ H vs us Q I r (w _ _ _ _ q)
def zaa:zli:=fun ds Γ Q=>ds=[]/\Q Γ
def zx (t:TG') (u:zli):zli:=fun ds Γ Q=>∃ d r,ds=d :: r/\t d Γ fun Γ1=>u r Γ1 Q
def zZ (n:Nat) (t:zli):TG':=fun d Γ Q=>∃ ds,d=.tup ds/\ds.length=n/\t ds Γ Q
theorem zfU:PGs' X [] zaa:=by
 refine ⟨PGs.weak zow ?_⟩
 rintro vs σ H Q ⟨W,Hi,Γ,ds,Q',g,dl,⟨rfl,q⟩,fin⟩
 cases dl; exact ⟨rfl,fin σ H Hi Γ (zaG.refl _) g q⟩
theorem zcc {e:Expr} {es:List Expr} {t:TG'} {u:zli} (h1:PG' X e t) (h2:PGs' X es u) (hs:(assignEach (e :: es) X.env).map (·.2)=assign e X.env :: (assignEach es X.env).map (·.2):=by rfl):PGs' X (e :: es) (zx t u):=by
 refine ⟨PGs.weak (zmi h1.h h2.h hs) ?_⟩
 rintro vs σ H Q ⟨W,Hi,Γ,ds,Q',g,dl,⟨d,r,rfl,q⟩,fin⟩
 cases dl with
 | cons r0 rr =>
  refine ⟨_,_,rfl,W,Hi,Γ,d,_,g,r0,q,?_⟩; intro σ1 H1 Hi1 Γ1 s1 g1 q1
  exact ⟨W,Hi1,Γ1,r,Q',g1,zbv.mono rr s1,q1,fun σ2 H2 Hi2 Γ2 s2=>fin σ2 H2 Hi2 Γ2 (s1.trans s2)⟩
theorem zhy {es:List Expr} {k n:Nat} {t:zli} (h:PGs' X es t) (hc:X.calm=true:=by rfl) (hn:(assignEach es X.env).length=n:=by rfl) (hst:(assignEach es X.env).findIdx? (·.1)=none:=by rfl):PG' X (.Tuple es k pos) (zZ n t):=by
 refine ⟨PG.weak (zqm hc h.h hn hst) ?_⟩
 rintro v σ H Q ⟨W,Hi,Γ,d,Q',g,den,⟨ds,rfl,hl,q⟩,fin⟩
 obtain ⟨a,vs,rfl,ha,dl⟩:=den.tupI
 exact ⟨a,vs,rfl,zaz g.sub ha,by rw [zl dl]; exact hl,W,Hi,Γ,ds,Q',g,dl,q,fin⟩
end
section
variable {X:Cx}
def zas:TS':=fun _ _=>False
theorem zkd {st:Stmt}:PS' X st zas:=⟨fun pins s σ H N I q=>by
 obtain ⟨_,_,_,_,_,h,_⟩:=q; exact h.elim⟩
end
section
variable {P:Program} {w:World} {K:W.Frag} {mg:Str->Option Value} {base:Heap}
end
end PL
namespace Mu
open PySem PySem.Builtin
theorem noFill_tup:fillsNumberSlot (.type "tuple") "mul"=pure false :=
 fillsNumberSlot_seq (id:="tuple.__mul__") (r:=some (.builtin "tuple.__rmul__")) PySem.F.slot_tuple_mul.lookup (by decide +kernel) PySem.F.slot_tuple_rmul.lookup (by decide +kernel)
theorem rep_tup:seqRepeat? (.type "tuple")=pure (some (.builtin "tuple.__mul__")):=by
 unfold seqRepeat?
 rw [seqSlot_of (T:="tuple") (name:="__mul__") (id:="tuple.__mul__") PySem.F.slot_tuple_mul.lookup (by decide +kernel),seqSlot_of (T:="tuple") (name:="__rmul__") (id:="tuple.__rmul__") PySem.F.slot_tuple_rmul.lookup (by decide +kernel)]
 rfl
theorem rmul_tup (a:Int) (t:Tok) (l:Addr) (o:Obj) (xs:Array Value) (n:Nat) (hc:o.cls=.type "tuple") (hd:o.data=.seq xs n):Meets (Builtin.«int.__rmul__» ⟨[.int a t,.ref l],[]⟩) (fun _ R s=>s.heap.get? l=some o/\R (.ok (.ret Value.notImplemented)) s) :=
 .of_wp fun prog w A R s h=>by
  obtain ⟨hp,g,d,tk,os⟩:=s; obtain ⟨hl,h⟩:=h; obtain ⟨oc,od,dt,sl⟩:=o
  dsimp only at hc hd
  subst hc hd
  wp_walk
  exact ⟨_,rfl,h⟩
theorem mul_tup (k:Nat) (t:Tok) (l:Addr) (o:Obj) (xs:Array Value) (n:Nat) (hc:o.cls=.type "tuple") (hd:o.data=.seq xs n) (hk:2<=k) (hk2:k<=100) (hz:xs.size * k<=10000) :
  Meets (Builtin.«tuple.__mul__» ⟨[.ref l,.int k t],[]⟩) (fun _ R s=>s.heap.get? l=some o/\(xs.isEmpty=true->R (.ok (.ret (.ref l))) s) /\
   (xs.isEmpty=false->R (.ok (.ret (.ref s.heap.objs.size))) { s with heap:=s.heap.push { cls:=.type "tuple",data:=.seq ((List.replicate k xs).foldl (· ++ ·) #[]) } })) :=
 .of_wp fun prog w A R s h=>by
  obtain ⟨hp,g,d,tk,os⟩:=s; obtain ⟨hl,h1,h2⟩:=h; obtain ⟨oc,od,dt,sl⟩:=o
  dsimp only at hc hd
  subst hc hd
  have e1:(decide ((k:Int)< -(2 ^ 63)) || decide ((k:Int) >= 2 ^ 63))=false:=by
   rw [yS (by omega),yS (by omega)]
   rfl
  have e2:((k:Int) == 1)=false:=by rw [beq_eq_false_iff_ne]; omega
  have e3:decide ((k:Int)<=0)=false:=yS (by omega)
  have e4:¬ ((xs.size:Int) * (k:Int) > (2 ^ 63-1) / 8):=by
   have:((xs.size * k:Nat):Int)<=10000:=by omega
   rw [Int.natCast_mul] at this; omega
  have e5:Builtin.Tuple.tupleTooMany ((xs.size:Int) * (k:Int))=false:=by
   unfold Builtin.Tuple.tupleTooMany
   have:((xs.size * k:Nat):Int)<=10000:=by omega
   rw [Int.natCast_mul] at this
   have b:10000<sizeLine:=by decide
   exact yS (by omega)
  wp_walk
  rw [yM (by rw [e1]; exact yL)]
  wp_walk
  cases he:xs.isEmpty with
  | true =>
   wp_walk
   exact ⟨_,rfl,h1 he⟩
  | false =>
   wp_walk
   rw [yM (by rw [e3]; decide)]
   dsimp only
   rw [yM e4,yM (by rw [e5]; decide),Yo]
   have hsz:(List.foldl (fun x1 x2=>x1 ++ x2) #[] (List.replicate k xs)).size<=sizeLine:=by
    have e:=L2.foldl_rep xs.toList k []
    have e':List.foldl (fun x1 x2=>x1 ++ x2) #[] (List.replicate k xs)=([] ++ (List.replicate k xs.toList).flatten).toArray:=by simpa using e
    rw [e',yK,List.nil_append,L2.len_rep,yw,Nat.mul_comm]
    have b:10000<sizeLine:=by decide
    omega
   unfold Builtin.Tuple.tupleExact; exact yA (yc (yD ⟨_,rfl,h2 he⟩) hsz)
end Mu
namespace L2
open PySem PySem.Spec PyProof.Rows
section
variable {X:Cx}
def zr9:R2:=fun x y H Q=>∃ (l:Addr) (k:Nat) (xs:List V),x=.ref l/\y=.int k/\H l=some (.tup xs)/\2<=k/\k<=100/\xs.length * k<=10000/\(xs=[]->Q (.ref l) H)/\(xs≠[]->∀ p,H p=none->Q (.ref p) (upd H p (.tup (List.replicate k xs).flatten)))
theorem zoH:OpR X (binaryOp .Mult) zr9:=by
 intro pins s σ H x y v u Q I rx ry h; obtain ⟨l,k,xs,rfl,rfl,hH,h1,h2,hz,q1,q2⟩:=h; cases rx; obtain ⟨t,rfl⟩:=ry
 obtain ⟨z,its,r,o,ho,hc,n,hd⟩:=(show zbN X.prog X.w H s.heap l (.tup xs) from I.hok l _ hH)
 have hl:=r.length
 refine wpAny_binaryOp_repeat_ref (T:="tuple") (U:="int") (by decide) ⟨_,ho,hc⟩ (fun s'=>typeIs_int s' k t) Mu.noFill_tup PySem.F.fills_int_mul PySem.F.slot_int_rmul Mu.rep_tup PySem.F.slot_int_index.lookup
  (call_meets PySem.F.slot_int_rmul (typeIs_int s k t) PySem.F.entry_int_rmul (PySem.F.args_int_rmul_2 _ _) (Mu.rmul_tup k t l o its.toArray n hc hd) ⟨ho,rfl,⟨_,ho,hc⟩,call_meets PySem.F.slot_tuple_mul ⟨_,ho,hc⟩ PySem.F.entry_tuple_mul (PySem.F.args_tuple_mul_2 _ _) (Mu.mul_tup k t l o its.toArray n hc hd h1 h2 (by rw [yK,<- hl]; exact hz)) ⟨ho,fun e=>?_,fun e=>?_⟩⟩)
 ·have:xs=[]:=Yg (by rw [hl]; simpa using e)
  exact ⟨.ref l,H,I,rfl,q1 this⟩
 ·have hne:xs≠[]:=fun z=>by
   rw [z] at hl
   have:its=[]:=Yg hl.symm
   rw [this] at e
   simp at e
  have e':List.foldl (fun x1 x2=>x1 ++ x2) #[] (List.replicate k its.toArray)=(List.replicate k its).flatten.toArray:=by
   have:=foldl_rep its k []
   rw [List.nil_append] at this; exact this
  rw [e']
  have hlen:(List.replicate k xs).flatten.length<=sizeLine:=by
   rw [len_rep,Nat.mul_comm]
   have b:10000<sizeLine:=by decide
   omega
  refine ⟨.ref _,upd H s.heap.objs.size (.tup (List.replicate k xs).flatten),I.laid (t':=s.toks) (fun _ _ q=>yC _ q) (yF _) ⟨hlen,(List.replicate k its).flatten,r.rep k,⟨_,yI _ rfl,rfl,_,rfl⟩⟩,rfl,q2 hne _ I.fresh⟩
end
end L2
namespace PL
open PySem L2
section
variable {X:Cx}
def zgv:R2':=fun x y Q=>∃ (ds:List D) (k:Nat),x=.tup ds/\y=.int k/\2<=k/\k<=100/\ds.length * k<=10000/\Q (.tup (List.replicate k ds).flatten)
theorem zqG:Op2 X (binaryOp .Mult) zgv:=⟨_,zoH,by
 rintro Hi H x y dx dy Q Q2 s d1 d2 ⟨ds,k,rfl,rfl,h1,h2,h3,q⟩ fin
 obtain ⟨a,vs,rfl,ha,dl⟩:=d1.tupJ; have hl:=zl dl
 refine ⟨a,k,vs,rfl,d2.intI,s.sub _ _ ha,h1,h2,by rw [hl]; exact h3,fun e=>?_,fun _ p hp=>?_⟩
 ·have:ds=[]:=Yg (by rw [<- hl,e]; rfl)
  subst this; refine fin Hi H _ (.tup []) (Ext.refl s) d1 ?_
  simpa using q
 ·have e:=Ext.new s hp (.tup (List.replicate k vs).flatten)
  exact fin _ _ _ _ e (Den.mkT zu (zj1 (dl.mono e.hi) k)) q⟩
instance:MR2 zgv:=⟨fun _ _ _ _ h ⟨ds,k,a,b,c,d,e,q⟩=>⟨ds,k,a,b,c,d,e,h _ q⟩⟩
end
section
variable {X:Cx} {Q:D->Prop}
def zl0:R2':=fun x y Q=>rI' znQ (fun i j=>.int (i * j)) x y Q\/zgv x y Q
theorem zkw:Op2 X (binaryOp .Mult) zl0:=zsv.or zqG
instance:MR2 zl0:=⟨fun _ _ _ _ h q=>q.imp (MR2.mono (r:=rI' znQ fun i j=>.int (i * j)) _ _ _ _ h) (MR2.mono (r:=zgv) _ _ _ _ h)⟩
@[simp] theorem zp1 (i j:Int):zl0 (.int i) (.int j) Q↔znQ i j/\Q (.int (i * j)):=by simp [zl0,zgv]
def zp8:RC':=fun ds Q=>∃ b:Bool,ds=[.bl b]/\Q (.int (if b then 1 else 0))
theorem zra:Cal X (.type "int") zp8:=⟨_,zle,by
 rintro Hi H vs ds Q Q2 s dl ⟨b,rfl,q⟩ fin
 obtain ⟨v,rfl,den⟩:=zcK dl
 exact .inr ⟨b,by rw [den.blI],fin Hi H _ _ (Ext.refl s) (.int _) q⟩⟩
def zp9:RC':=fun ds Q=>zp7 ds Q\/zp8 ds Q
theorem znO:Cal X (.type "int") zp9:=zsZ.or zra
end
end PL
namespace Zp
open PySem
structure Src (prog:Program) (w:World) (it:Addr) (xs:List Value) (fp:List Addr) (nx:Nat->Heap->Prop):Prop where
 mem:it ∈ fp
 fr:∀ i h h',nx i h->(∀ c ∈ fp,∀ o,h.get? c=some o->h'.get? c=some o)->nx i h'
 at_:∀ i h,nx i h->∃ o,h.get? it=some o/\∀ v,o.data≠.cell v
 item:∀ (A:Around) (s:Shared) (i:Nat) (x:Value) (Q:Value->Shared->Prop) (E:Value->Shared->Prop),nx i s.heap->xs[i]?=some x->(∀ h',nx (i+1) h'->Heap.SameBut it s.heap h'->Q x { s with heap:=h' })->wpAny (model prog w) A (Builtin.SmallTypes.nextOf (.ref it)) Q E s
 stop:∀ (A:Around) (s:Shared) (i:Nat) (Q:Value->Shared->Prop) (E:Value->Shared->Prop),A.handled=none->nx i s.heap->xs[i]?=none ->
  (∀ h' e,Heap.ExtBut it s.heap h'->(∃ o,h'.get? e=some o/\o.cls=.type "StopIteration")->E (.ref e) { s with heap:=h' })->wpAny (model prog w) A (Builtin.SmallTypes.nextOf (.ref it)) Q E s
theorem zT {a:Addr} {h h':Heap} (x:Heap.SameBut a h h'):∀ c o,c≠a->h.get? c=some o->h'.get? c=some o:=fun c o n e=>x.extBut _ _ n e
theorem zlK {prog:Program} {w:World} {it l:Addr} {xs:List Value} (ne:l≠it):Src prog w it xs [it,l] (fun i h=>h.IsListIter it l i/\h.IsList l xs.toArray) where
 mem:=by simp
 fr:=fun i h h' ⟨a,b⟩ k=>⟨a.at fun o e=>k it (by simp) o e,b.at fun o e=>k l (by simp) o e⟩
 at_:=fun i h ⟨⟨o,e,_,d⟩,_⟩=>⟨o,e,fun v z=>by rw [d] at z; cases z⟩
 item:=fun A s i x Q E ⟨a,b⟩ hx q=>wpAny_nextOf_list_item a b (by simpa using hx) fun h' n sb=>q h' ⟨n,b.at fun o e=>zT sb _ o ne e⟩ sb
 stop:=fun A s i Q E hh ⟨a,b⟩ hx q=>wpAny_nextOf_list_end hh a b (by simpa using hx) q
theorem zjR {prog:Program} {w:World} {it l:Addr} {xs:List Value} (ne:l≠it):Src prog w it xs [it,l] (fun i h=>h.IsTupleIter it l i/\h.IsTuple l xs.toArray) where
 mem:=by simp
 fr:=fun i h h' ⟨a,⟨ol,e,r⟩⟩ k=>⟨a.at fun o e=>k it (by simp) o e,⟨ol,k l (by simp) ol e,r⟩⟩
 at_:=fun i h ⟨⟨o,e,_,d⟩,_⟩=>⟨o,e,fun v z=>by rw [d] at z; cases z⟩
 item:=by
  intro A s i x Q E ⟨a,b⟩ hx q
  obtain ⟨oi,gi,ci,di⟩:=id a; obtain ⟨ot,gt,ct,nt,dt⟩:=id b; unfold Builtin.SmallTypes.nextOf; refine yA (wpAny_callSpecial?_slot (name:=Str.ofString "__next__") a.typeIs YY (yx YY a.typeIs PySem.F.entry_tuple_iterator_next ?_ (PySem.F.args_tuple_iterator_next_1 _)))
  show wpAny _ _ (field (.ref it) 0 >>= _) _ _ _
  refine yA (yt gi di (x:=.ref l) rfl ?_)
  show wpAny _ _ (if (Value.ref l == Value.none)=true then _ else _) _ _ _
  rw [yM (by simp)]
  show wpAny _ _ (field (.ref it) 1 >>= _) _ _ _
  refine yA (yt gi di (x:=.int i 0) rfl ?_)
  show wpAny _ _ (seqItems? (.ref l) >>= _) _ _ _
  refine yA (Yc gt dt ?_)
  have hx':xs.toArray[i]?=some x:=by simpa using hx
  simp only [Yo,hx']
  refine yA (wpAny_setField gi di (by simp) (yD ⟨x,rfl,yD (q _ ⟨⟨_,Ym _ gi (Obj.isFreed_of_fields (YU di _)),(Obj.cls_mapFields ..).trans ci,by rw [YU di]; simp [rawInt]⟩,?_⟩ (Heap.SameBut.update ..))⟩))
  exact ⟨ot,(Heap.get?_update_other _ _ (Ne.symm ne)).trans gt,ct,nt,dt⟩
 stop:=by
  intro A s i Q E hh ⟨a,b⟩ hx q
  obtain ⟨oi,gi,ci,di⟩:=id a; obtain ⟨ot,gt,ct,nt,dt⟩:=id b; unfold Builtin.SmallTypes.nextOf; refine yA (wpAny_callSpecial?_slot (name:=Str.ofString "__next__") a.typeIs YY (yx YY a.typeIs PySem.F.entry_tuple_iterator_next ?_ (PySem.F.args_tuple_iterator_next_1 _)))
  show wpAny _ _ (field (.ref it) 0 >>= _) _ _ _
  refine yA (yt gi di (x:=.ref l) rfl ?_)
  show wpAny _ _ (if (Value.ref l == Value.none)=true then _ else _) _ _ _
  rw [yM (by simp)]
  show wpAny _ _ (field (.ref it) 1 >>= _) _ _ _
  refine yA (yt gi di (x:=.int i 0) rfl ?_)
  show wpAny _ _ (seqItems? (.ref l) >>= _) _ _ _
  refine yA (Yc gt dt ?_)
  have hx':xs.toArray[i]?=none:=by simpa using hx
  simp only [Yo,hx']
  refine yA (wpAny_rule (yA (wpAny_setField gi di (by simp) ?_)))
  show wpAny _ _ (newExc (.type "StopIteration") [] >>= _) _ _ _
  refine yA ?_; simp only [newExc,newTuple]
  refine yA (yc ?_ (by size_fits))
  refine yA (m:=firstArgMember _ _) (YR (a:=Value.none) (by first | rfl | (simp only [firstArgMember]; rfl)) ?_)
  refine yc ?_ (by size_fits)
  simp only [raiseNew]; refine yA (wpAny_handled ?_)
  first | rw [show A.in1.handled=none from hh] | rw [hh]
  exact yA (yD (wpAny_throw (q _ _ (((Heap.SameBut.update ..).extBut.push _).push _) ⟨_,yI _ rfl,rfl⟩)))
structure Apart (z TI TO i1 i2:Addr) (f1 f2:List Addr):Prop where
 z1:z ∉ f1
 z2:z ∉ f2
 o1:TO ∉ f1
 o2:TO ∉ f2
 i21:i2 ∉ f1
 i12:i1 ∉ f2
 iz:TI≠z
 oz:TO≠z
 io:TI≠TO
 ii1:TI≠i1
 ii2:TI≠i2
section
variable {prog:Program} {w:World} {A:Around} {E:Value->Shared->Prop} {s:Shared} {z TI TO i1 i2:Addr} {f1 f2:List Addr} {n1 n2:Nat->Heap->Prop} {xs ys:List Value} {k:Nat} {a b x y:Value}
theorem Src.but {it:Addr} {zs:List Value} {fp:List Addr} {nx:Nat->Heap->Prop} (S:Src prog w it zs fp nx) {i:Nat} {h h':Heap} {c:Addr} (g:nx i h) (sb:Heap.SameBut c h h') (hc:c ∉ fp):nx i h':=S.fr i h h' g fun d hd o e=>zT sb d o (fun q=>hc (q ▸ hd)) e
theorem zlB {Q:Value->Shared->Prop} (S1:Src prog w i1 xs f1 n1) (S2:Src prog w i2 ys f2 n2) (D:Apart z TI TO i1 i2 f1 f2) (wz:IsZip s.heap z TI TO .none) (wI:IsPair s.heap TI (.ref i1) (.ref i2)) (wO:IsPair s.heap TO a b) (g1:n1 k s.heap) (g2:n2 k s.heap) (hx:xs[k]?=some x) (hy:ys[k]?=some y)
  (q:∀ h',IsZip h' z TI TO (rawInt s.heap.objs.size)->IsPair h' TO x y->n1 (k+1) h'->n2 (k+1) h'->IsPair h' s.heap.objs.size x y->h'.objs.size=s.heap.objs.size+1->(∀ c o,c≠z->c≠TO->c≠i1->c≠i2->s.heap.get? c=some o->h'.get? c=some o)->Q (.ref s.heap.objs.size) { s with heap:=h' }) :
  wpAny (model prog w) A (Builtin.«zip.__next__» ⟨[.ref z],[]⟩) (fun fin s'=>∃ v,fin=.done (.ret v)/\Q v s') E s:=by
 have ne1:i1≠z:=fun e=>D.z1 (e ▸ S1.mem)
 have ne2:i2≠z:=fun e=>D.z2 (e ▸ S2.mem)
 have no1:i1≠TO:=fun e=>D.o1 (e ▸ S1.mem)
 have no2:i2≠TO:=fun e=>D.o2 (e ▸ S2.mem)
 show wpAny _ _ (field (.ref z) 2 >>= _) _ _ _
 refine yA (yt wz rfl (x:=.bool false) rfl ?_)
 show wpAny _ _ (field (.ref z) 3 >>= _) _ _ _
 refine yA (yt wz rfl (x:=.ref TI) rfl ?_); refine yA (Yc wI rfl ?_)
 show wpAny _ _ (Builtin.SmallTypes.ownedTupleIsFree (.ref z) >>= _) _ _ _
 refine yA ?_; unfold Builtin.SmallTypes.ownedTupleIsFree; refine yA (yt wz rfl (x:=.none) rfl (yD ?_)); simp only [if_true]; refine yA (wpAny_rule ?_); refine yA (yt wz rfl (x:=.ref TO) rfl ?_)
 refine yA (Yh wz (by simp) fun ha za sa=>?_)
 have za:IsZip ha z TI TO .ellipsis:=za
 refine yA ?_; simp only [List.zipIdx_cons,List.zipIdx_nil,List.forIn_cons,List.forIn_nil]; refine yA (yA (wpAny_onRaise ?_))
 show wpAny _ _ (Builtin.SmallTypes.nextOf (.ref i1) >>= _) _ _ _
 refine yA (S1.item _ { s with heap:=ha } k x _ _ (S1.but g1 sa D.z1) hx fun hb g1b sb=>yD ?_)
 have ob:IsPair hb TO a b:=zT sb _ _ (Ne.symm no1) (zT sa _ _ D.oz wO)
 refine yA (Yc ob rfl ?_)
 refine yA (wpAny_updateSeq_pair ob fun hc oc sc=>?_)
 have oc:IsPair hc TO x b:=oc
 refine yA (wpAny_letGo (yD ?_)); refine yA (yA (wpAny_onRaise ?_))
 show wpAny _ _ (Builtin.SmallTypes.nextOf (.ref i2) >>= _) _ _ _
 refine yA (S2.item _ { s with heap:=hc } k y _ _ (S2.but (S2.but (S2.but g2 sa D.z2) sb D.i12) sc D.o2) hy fun hd g2d sd=>yD ?_)
 have od:IsPair hd TO x b:=zT sd _ _ (Ne.symm no2) oc
 refine yA (Yc od rfl ?_)
 refine yA (wpAny_updateSeq_pair od fun he oe se=>?_)
 have oe:IsPair he TO x y:=oe
 refine yA (wpAny_letGo (yD (yD ?_))); refine yA (Yc oe rfl ?_); refine yA (wpAny_newTuple ?_)
 have hsz:he.objs.size=s.heap.objs.size:=by rw [se.1,sd.1,sc.1,sb.1,sa.1]
 have ze:IsZip he z TI TO .ellipsis:=zT se _ _ (Ne.symm D.oz) (zT sd _ _ (Ne.symm ne2) (zT sc _ _ (Ne.symm D.oz) (zT sb _ _ (Ne.symm ne1) za)))
 have hk:∀ c o,c≠z->c≠TO->c≠i1->c≠i2->s.heap.get? c=some o->he.get? c=some o:=fun c o c1 c2 c3 c4 e=>zT se _ _ c2 (zT sd _ _ c4 (zT sc _ _ c2 (zT sb _ _ c3 (zT sa _ _ c1 e))))
 have g1e:n1 (k+1) he:=S1.but (S1.but (S1.but g1b sc D.o1) sd D.i21) se D.o1
 have g2e:n2 (k+1) he:=S2.but g2d se D.o2
 have zlt:z<he.objs.size:=yQ ze
 show wpAny _ _ (Builtin.SmallTypes.ownedTupleHandOut (.ref z) (.ref he.objs.size) >>= _) _ _ _
 refine yA ?_; unfold Builtin.SmallTypes.ownedTupleHandOut
 have zf:IsZip (he.push { cls:=.type "tuple",data:=.seq #[x,y] }) z TI TO .ellipsis:=yC _ ze
 refine yA (Yh zf (by simp) fun hg zg sg=>?_)
 have zg:IsZip hg z TI TO (rawInt he.objs.size):=zg
 refine Yh zg (by simp) fun hh zh sh=>?_
 have zh:IsZip hh z TI TO (rawInt he.objs.size):=zh
 have up:∀ c o,c≠z->he.get? c=some o->hh.get? c=some o:=fun c o c1 e=>zT sh _ _ c1 (zT sg _ _ c1 (yC _ e))
 have tp:IsPair hh he.objs.size x y:=zT sh _ _ (Nat.ne_of_gt zlt) (zT sg _ _ (Nat.ne_of_gt zlt) (yI _ rfl))
 have hs8:hh.objs.size=he.objs.size+1:=by rw [sh.1,sg.1,Heap.size_push]
 rw [hsz] at zh tp hs8; refine yD ⟨_,rfl,?_⟩
 show Q (.ref he.objs.size) _
 rw [hsz]
 exact q hh zh (up _ _ D.oz oe) (S1.fr _ he hh g1e fun c hc o e=>up c o (fun z'=>D.z1 (z' ▸ hc)) e) (S2.fr _ he hh g2e fun c hc o e=>up c o (fun z'=>D.z2 (z' ▸ hc)) e) tp hs8 fun c o c1 c2 c3 c4 e=>up c o c1 (hk c o c1 c2 c3 c4 e)
theorem zlA {Q:PySem.Fin->Shared->Prop} (hh:A.handled=none) (S1:Src prog w i1 xs f1 n1) (S2:Src prog w i2 ys f2 n2) (D:Apart z TI TO i1 i2 f1 f2) (wz:IsZip s.heap z TI TO .none) (wI:IsPair s.heap TI (.ref i1) (.ref i2)) (wO:IsPair s.heap TO a b) (g1:n1 k s.heap) (g2:n2 k s.heap) (hend:xs[k]?=none\/ys[k]?=none)
  (q:∀ h' e,(∀ c o,c≠z->c≠TO->c≠i1->c≠i2->s.heap.get? c=some o->h'.get? c=some o)->(∃ o,h'.get? e=some o/\o.cls=.type "StopIteration")->E (.ref e) { s with heap:=h' }) :
  wpAny (model prog w) A (Builtin.«zip.__next__» ⟨[.ref z],[]⟩) Q E s:=by
 have ne1:i1≠z:=fun e=>D.z1 (e ▸ S1.mem)
 have ne2:i2≠z:=fun e=>D.z2 (e ▸ S2.mem)
 have no1:i1≠TO:=fun e=>D.o1 (e ▸ S1.mem)
 show wpAny _ _ (field (.ref z) 2 >>= _) _ _ _
 refine yA (yt wz rfl (x:=.bool false) rfl ?_)
 show wpAny _ _ (field (.ref z) 3 >>= _) _ _ _
 refine yA (yt wz rfl (x:=.ref TI) rfl ?_); refine yA (Yc wI rfl ?_)
 show wpAny _ _ (Builtin.SmallTypes.ownedTupleIsFree (.ref z) >>= _) _ _ _
 refine yA ?_; unfold Builtin.SmallTypes.ownedTupleIsFree; refine yA (yt wz rfl (x:=.none) rfl (yD ?_)); simp only [if_true]; refine yA (wpAny_rule ?_); refine yA (yt wz rfl (x:=.ref TO) rfl ?_)
 refine yA (Yh wz (by simp) fun ha za sa=>?_)
 have za:IsZip ha z TI TO .ellipsis:=za
 refine yA ?_; simp only [List.zipIdx_cons,List.zipIdx_nil,List.forIn_cons,List.forIn_nil]; refine yA (yA (wpAny_onRaise ?_))
 show wpAny _ _ (Builtin.SmallTypes.nextOf (.ref i1) >>= _) _ _ _
 cases hx:xs[k]? with
 | none =>
  refine yA (S1.stop _ { s with heap:=ha } k _ _ hh (S1.but g1 sa D.z1) hx fun hb e sb st=>?_)
  obtain ⟨ox,gx,cx⟩:=st
  have zb:IsZip hb z TI TO .ellipsis:=sb _ _ (Ne.symm ne1) za
  have ez:e≠z:=fun c=>by subst c; rw [zb] at gx; cases gx; simp at cx
  exact Yh zb (by simp) fun hc _ sc=>q hc e (fun c o c1 _ c3 _ v=>zT sc _ _ c1 (sb _ _ c3 (zT sa _ _ c1 v))) ⟨ox,zT sc _ _ ez gx,cx⟩
 | some x =>
  have hy:ys[k]?=none:=by rcases hend with h | h; rw [hx] at h; cases h; exact h
  refine yA (S1.item _ { s with heap:=ha } k x _ _ (S1.but g1 sa D.z1) hx fun hb g1b sb=>yD ?_)
  have ob:IsPair hb TO a b:=zT sb _ _ (Ne.symm no1) (zT sa _ _ D.oz wO)
  refine yA (Yc ob rfl ?_)
  refine yA (wpAny_updateSeq_pair ob fun hc oc sc=>?_)
  refine yA (wpAny_letGo (yD ?_)); refine yA (yA (wpAny_onRaise ?_))
  show wpAny _ _ (Builtin.SmallTypes.nextOf (.ref i2) >>= _) _ _ _
  refine yA (S2.stop _ { s with heap:=hc } k _ _ hh (S2.but (S2.but (S2.but g2 sa D.z2) sb D.i12) sc D.o2) hy fun hd e sd st=>?_)
  obtain ⟨ox,gx,cx⟩:=st
  have zd:IsZip hd z TI TO .ellipsis:=sd _ _ (Ne.symm ne2) (zT sc _ _ (Ne.symm D.oz) (zT sb _ _ (Ne.symm ne1) za))
  have ez:e≠z:=fun c=>by subst c; rw [zd] at gx; cases gx; simp at cx
  exact Yh zd (by simp) fun he _ se=>q he e (fun c o c1 c2 c3 c4 v=>zT se _ _ c1 (sd _ _ c4 (zT sc _ _ c2 (zT sb _ _ c3 (zT sa _ _ c1 v))))) ⟨ox,zT se _ _ ez gx,cx⟩
theorem zkC {Q:Option Value->Shared->Prop} (S1:Src prog w i1 xs f1 n1) (S2:Src prog w i2 ys f2 n2) (D:Apart z TI TO i1 i2 f1 f2) (wz:IsZip s.heap z TI TO .none) (wI:IsPair s.heap TI (.ref i1) (.ref i2)) (wO:IsPair s.heap TO a b) (g1:n1 k s.heap) (g2:n2 k s.heap) (hx:xs[k]?=some x) (hy:ys[k]?=some y)
  (q:∀ h',IsZip h' z TI TO (rawInt s.heap.objs.size)->IsPair h' TO x y->n1 (k+1) h'->n2 (k+1) h'->IsPair h' s.heap.objs.size x y->h'.objs.size=s.heap.objs.size+1->(∀ c o,c≠z->c≠TO->c≠i1->c≠i2->s.heap.get? c=some o->h'.get? c=some o)->Q (some (.ref s.heap.objs.size)) { s with heap:=h' }) :
  wpAny (model prog w) A (pyNext (.ref z)) Q E s:=by
 have ty:s.TypeIs (.ref z) "zip":=⟨_,wz,rfl⟩
 unfold pyNext
 exact yA (YT (wpAny_callSpecial?_slot (name:=Str.ofString "__next__") ty PySem.F.slot_zip_next (yx PySem.F.slot_zip_next ty PySem.F.entry_zip_next (zlB S1 S2 D wz wI wO g1 g2 hx hy fun h' c1 c2 c3 c4 c5 c6 c7=>yD (q h' c1 c2 c3 c4 c5 c6 c7)) (PySem.F.args_zip_next_1 _))))
theorem zkB {Q:Option Value->Shared->Prop} (hh:A.handled=none) (S1:Src prog w i1 xs f1 n1) (S2:Src prog w i2 ys f2 n2) (D:Apart z TI TO i1 i2 f1 f2) (wz:IsZip s.heap z TI TO .none) (wI:IsPair s.heap TI (.ref i1) (.ref i2)) (wO:IsPair s.heap TO a b) (g1:n1 k s.heap) (g2:n2 k s.heap) (hend:xs[k]?=none\/ys[k]?=none)
  (q:∀ h',(∀ c o,c≠z->c≠TO->c≠i1->c≠i2->s.heap.get? c=some o->h'.get? c=some o)->Q none { s with heap:=h' }):wpAny (model prog w) A (pyNext (.ref z)) Q E s:=by
 have ty:s.TypeIs (.ref z) "zip":=⟨_,wz,rfl⟩
 unfold pyNext
 refine yA (YT (wpAny_callSpecial?_slot (name:=Str.ofString "__next__") ty PySem.F.slot_zip_next (yx PySem.F.slot_zip_next ty PySem.F.entry_zip_next (zlA hh S1 S2 D wz wI wO g1 g2 hend fun h' e ke st=>?_) (PySem.F.args_zip_next_1 _))))
 obtain ⟨ox,gx,cx⟩:=st; exact yA (wpAny_isInstance (T:="StopIteration") (b:=true) ⟨ox,gx,cx⟩ isSubtype_stop (yD (q _ ke)))
end
abbrev tIt (l:Addr):Obj:={ cls:=.type "tuple_iterator",data:=.fields #[.ref l,.int 0 0] }
abbrev zt1 (h:Heap) (l1:Addr):Heap:=h.push (tIt l1)
abbrev zt2 (h:Heap) (l1 l2:Addr):Heap:=(zt1 h l1).push (tIt l2)
abbrev zt3 (h:Heap) (l1 l2:Addr):Heap:=(zt2 h l1 l2).push { cls:=.type "tuple",data:=.seq #[.ref h.objs.size,.ref (zt1 h l1).objs.size] }
abbrev zt4 (h:Heap) (l1 l2:Addr):Heap:=(zt3 h l1 l2).push { cls:=.type "tuple",data:=.seq #[.none,.none] }
abbrev zt5 (h:Heap) (l1 l2:Addr):Heap:=(zt4 h l1 l2).push { cls:=.type "zip",data:=.fields #[.none,.bool false,.bool false,.ref (zt2 h l1 l2).objs.size,.ref (zt3 h l1 l2).objs.size] }
theorem zqL (l1 l2:Addr) (us vs:Array Value):Meets (Builtin.«zip.__new__» ⟨[.type "zip",.ref l1,.ref l2],[]⟩) (fun _ R s=>s.heap.IsTuple l1 us/\s.heap.IsTuple l2 vs/\R (.ok (.ret (.ref (zt4 s.heap l1 l2).objs.size))) { s with heap:=zt5 s.heap l1 l2 }) :=
 .of_wp fun prog w A R s h=>by
  obtain ⟨hp,g,d,tk,os⟩:=s; obtain ⟨t1,t2,h⟩:=h; have sb:=sub_zip
  have T1:Heap.IsTuple (Shared.heap ⟨hp,g,d,tk,os⟩) l1 us:=t1
  have T2:Heap.IsTuple (Shared.heap ⟨hp.push (tIt l1),g,d,tk,os⟩) l2 vs:=Heap.IsTuple.push t2 _
  wp_walk using wpAny_pyIter_tuple T1,wpAny_pyIter_tuple T2
  exact ⟨_,rfl,h⟩
section
variable {prog:Program} {w:World} {A:Around} {E:Value->Shared->Prop} {s:Shared}
theorem zps {l1 l2:Addr} {us vs:Array Value} {Q:Value->Shared->Prop} (t1:s.heap.IsTuple l1 us) (t2:s.heap.IsTuple l2 vs)
  (q:∀ h',IsZip h' (s.heap.objs.size+4) (s.heap.objs.size+2) (s.heap.objs.size+3) .none->IsPair h' (s.heap.objs.size+2) (.ref s.heap.objs.size) (.ref (s.heap.objs.size+1))->IsPair h' (s.heap.objs.size+3) .none .none ->
   h'.IsTupleIter s.heap.objs.size l1 0->h'.IsTupleIter (s.heap.objs.size+1) l2 0->(∀ c o,s.heap.get? c=some o->h'.get? c=some o)->Q (.ref (s.heap.objs.size+4)) { s with heap:=h' }) :
  wpAny (model prog w) A (call (.type "zip") [.ref l1,.ref l2]) Q E s:=by
 refine callType_new PySem.F.called_zip (by decide) (PySem.F.typeCall_zip_2 _ _) (PySem.F.newCall_zip_2 _ _) (fun obj=>PySem.F.args_object_init_3 obj _ _) PySem.F.entry_zip_new (zqL l1 l2 us vs) ⟨t1,t2,?_⟩
 have s1:(zt1 s.heap l1).objs.size=s.heap.objs.size+1:=Heap.size_push ..
 have s2:(zt2 s.heap l1 l2).objs.size=s.heap.objs.size+2:=by rw [Heap.size_push,s1]
 have s3:(zt3 s.heap l1 l2).objs.size=s.heap.objs.size+3:=by rw [Heap.size_push,s2]
 have s4:(zt4 s.heap l1 l2).objs.size=s.heap.objs.size+4:=by rw [Heap.size_push,s3]
 have e5:(zt5 s.heap l1 l2).get? (zt4 s.heap l1 l2).objs.size=some _:=yI _ rfl
 have e4:(zt5 s.heap l1 l2).get? (zt3 s.heap l1 l2).objs.size=some _:=yC _ (yI _ rfl)
 have e3:(zt5 s.heap l1 l2).get? (zt2 s.heap l1 l2).objs.size=some _:=yC _ (yC _ (yI _ rfl))
 have e2:(zt5 s.heap l1 l2).get? (zt1 s.heap l1).objs.size=some _:=yC _ (yC _ (yC _ (yI _ rfl)))
 have e1:(zt5 s.heap l1 l2).get? s.heap.objs.size=some _:=yC _ (yC _ (yC _ (yC _ (yI _ rfl))))
 show _/\_
 rw [s2,s3,s4] at e5; rw [s1,s2] at e3; rw [s3] at e4; rw [s1] at e2; rw [s4]
 exact ⟨⟨_,e5,rfl⟩,q _ e5 e3 e4 ⟨_,e1,rfl,rfl⟩ ⟨_,e2,rfl,rfl⟩ fun c o v=>yC _ (yC _ (yC _ (yC _ (yC _ v))))⟩
end
end Zp
namespace L2
open PySem PySem.Spec PyProof.Rows
section
variable {X:Cx} {pins:List (Addr × Obj)} {σ:St} {H:Hp} {s:Shared} {h':Heap}
theorem Inv.turnedNew {t':Nat} {ch:List Addr} {p:Addr} {o:HO} (I:Inv X pins σ H s) (hch:∀ b ∈ ch,zge X pins H b) (k:∀ b u,b ∉ ch->s.heap.get? b=some u->h'.get? b=some u) (hp:s.heap.objs.size<=p) (new:zbN X.prog X.w (upd H p o) h' p o) :
  Inv X pins σ (upd H p o) { s with heap:=h',toks:=t' }:=by
 have fr:H p=none:=I.hok.fresh hp
 have sm:∀ b u,H b=some u->upd H p o b=some u:=fun b u e=>by rw [zN (zaQ e fr)]; exact e
 have nch:∀ b u,H b=some u->b ∉ ch:=fun b u e z=>by rw [(hch b z).1] at e; cases e
 refine I.step (g':=s.gens) (d':=s.drawn) (ch:=ch) (fun b hb=>?_) (fun b u _ _ hc e _=>k b u hc e) (fun b u _ _ hc e _=>⟨u.slots,k b u hc e⟩) (fun b u hc e n=>?_) (fun b u hc e=>⟨u,k b u hc e⟩) (fun b xs e=>sm _ _ e) (fun b ob u e=>sm _ _ e) (fun b ps e=>⟨#[],by rw [sm _ _ e]; simp⟩) (fun m hm=>?_) (fun b u e=>?_) I.bare
 ·obtain ⟨_,y1,_,y3,y4,y5⟩:=hch b hb
  exact ⟨y3,y1,y4,y5⟩
 ·rw [zN (ya (yX (yQ e) hp))]
  exact n
 ·obtain ⟨ob,es,ep,ho,r⟩:=hm
  exact ⟨ob,es,ep,k _ ob (fun z=>(hch _ z).2.1 rfl) ho,r⟩
 ·by_cases z:b=p
  ·subst z
   rw [zu] at e; cases e; exact new
  ·rw [zN z] at e
   refine (I.hok b u e).stay (fun c v hc q=>k c v ?_ q) (fun c q=>sm _ _ q) fun c xs q=>sm _ _ q
   rcases hc with rfl | hc
   ·exact nch _ u e
   ·exact nch c _ hc
theorem Inv.turnedL {t':Nat} {ch:List Addr} (I:Inv X pins σ H s) (hch:∀ b ∈ ch,zge X pins H b) (k:∀ b u,b ∉ ch->s.heap.get? b=some u->h'.get? b=some u):Inv X pins σ H { s with heap:=h',toks:=t' }:=by
 have nch:∀ b u,H b=some u->b ∉ ch:=fun b u e z=>by rw [(hch b z).1] at e; cases e
 refine I.step (g':=s.gens) (d':=s.drawn) (ch:=ch) (fun b hb=>?_) (fun b u _ _ hc e _=>k b u hc e) (fun b u _ _ hc e _=>⟨u.slots,k b u hc e⟩) (fun b u hc e n=>n) (fun b u hc e=>⟨u,k b u hc e⟩) (fun b xs e=>e) (fun b ob u e=>e) (fun b ps e=>⟨#[],by rw [e]; simp⟩) (fun m hm=>?_) (fun b u e=>?_) I.bare
 ·obtain ⟨_,y1,_,y3,y4,y5⟩:=hch b hb
  exact ⟨y3,y1,y4,y5⟩
 ·obtain ⟨ob,es,ep,ho,r⟩:=hm
  exact ⟨ob,es,ep,k _ ob (fun z=>(hch _ z).2.1 rfl) ho,r⟩
 ·refine (I.hok b u e).stay (fun c v hc q=>k c v ?_ q) (fun c q=>q) fun c xs q=>q
  rcases hc with rfl | hc
  ·exact nch _ u e
  ·exact nch c _ hc
end
end L2
namespace L2
open PySem PySem.Spec PyProof.Rows Zp
def SqB (lb:Bool) (K:W.Frag) (H:Hp) (a:Addr) (xs:List V):Prop:=match lb with | true=>SqL K H a xs | false=>SqT K H a xs
def ItB (lb:Bool) (h:Heap) (it l:Addr) (i:Nat):Prop:=match lb with | true=>h.IsListIter it l i | false=>h.IsTupleIter it l i
def LsB (lb:Bool) (h:Heap) (l:Addr) (its:List Value):Prop:=match lb with | true=>h.IsList l its.toArray | false=>h.IsTuple l its.toArray
theorem zrj {prog:Program} {w:World} {it l:Addr} {its:List Value} (lb:Bool) (ne:l≠it):Src prog w it its [it,l] (fun i h=>ItB lb h it l i/\LsB lb h l its):=by
 cases lb with
 | true=>exact zlK ne
 | false=>exact zjR ne
theorem ItB.at {lb:Bool} {h h':Heap} {it l:Addr} {i:Nat} (x:ItB lb h it l i) (k:∀ o,h.get? it=some o->h'.get? it=some o):ItB lb h' it l i:=by
 cases lb with
 | true=>exact Heap.IsListIter.at x k
 | false=>exact Heap.IsTupleIter.at x k
theorem ItB.obj {lb:Bool} {h:Heap} {it l:Addr} {i:Nat} (x:ItB lb h it l i):∃ o,h.get? it=some o/\∀ v,o.data≠.cell v:=by
 cases lb with
 | true=>obtain ⟨o,e,_,d⟩:=x; exact ⟨o,e,fun v z=>by rw [d] at z; cases z⟩
 | false=>obtain ⟨o,e,_,d⟩:=x; exact ⟨o,e,fun v z=>by rw [d] at z; cases z⟩
section
variable {X:Cx} {pins:List (Addr × Obj)} {σ:St} {H:Hp} {s:Shared} {a b:Addr} {xs ys:List V} {lb:Bool}
theorem zj2 {u:HO} (h:Rd H a u):∃ o,H a=some o:=by
 rcases h with h | ⟨o,h⟩
 ·exact ⟨_,h⟩
 ·exact ⟨_,h⟩
theorem zlf (I:Inv X pins σ H s) {o:Obj} (e:X.K.lookup a=some o) (f:zge X pins H b):a≠b:=by
 have g:=I.ok.mod.kin _ _ e; obtain ⟨_,_,_,f3,_⟩:=f
 rintro rfl
 rcases f3 with z | z
 ·exact I.ok.noex _ _ g z
 ·exact yO (yX (yQ g) (yr I.ok.bsz z)) (Nat.lt_irrefl _)
theorem zlL (I:Inv X pins σ H s) (h:SqB lb X.K H a xs) (f:zge X pins H b):a≠b:=by
 have tr:∀ o,H a=some o->a≠b:=fun o e z=>by rw [z,f.1] at e; cases e
 cases lb with
 | true =>
  rcases h with h | ⟨o,its,n,hk,_⟩
  ·obtain ⟨o,e⟩:=zj2 h; exact tr o e
  ·exact zlf I hk f
 | false =>
  rcases h with h | ⟨o,its,n,hk,_⟩
  ·obtain ⟨o,e⟩:=zj2 h; exact tr o e
  ·exact zlf I hk f
theorem zi1 (I:Inv X pins σ H s) (h:SqB lb X.K H a xs):∃ its:List Value,zaL xs its/\LsB lb s.heap a its:=by
 cases lb with
 | true =>
  obtain ⟨its,r,p,_⟩:=I.list h; exact ⟨its,r,p.isList⟩
 | false =>
  obtain ⟨its,r,p,_⟩:=I.tuple h; exact ⟨its,r,p⟩
theorem zng (I:Inv X pins σ H s) (h:SqB lb X.K H a xs) (h':SqB lb X.K H a ys):ys=xs:=by
 cases lb with
 | true=>exact I.list_inj h' h
 | false=>exact I.tuple_inj h' h
end
def Itz (lb:Bool) (K:W.Frag) (a b:Addr):It :=
  ⟨fun i H=>∃ xs ys x y,SqB lb K H a xs/\SqB lb K H b ys/\xs[i]?=some x/\ys[i]?=some y,
   fun i H v H'=>∃ p x y,H p=none/\v=.ref p/\H'=upd H p (.tup [x,y])/\(∀ xs,SqB lb K H a xs->xs[i]?=some x)/\∀ ys,SqB lb K H b ys->ys[i]?=some y,
   fun i H=>∃ xs ys,SqB lb K H a xs/\SqB lb K H b ys/\(xs.length<=i\/ys.length<=i)⟩
structure Ap5 (z TI TO i1 i2:Addr):Prop where
 iz:TI≠z
 oz:TO≠z
 io:TI≠TO
 ii1:TI≠i1
 ii2:TI≠i2
 z1:z≠i1
 z2:z≠i2
 o1:TO≠i1
 o2:TO≠i2
 i12:i1≠i2
theorem zlD {P:Program} {w:World} {K:W.Frag} {elts:List Expr} {c:Nat} {pos:Pos} (lb:Bool) (a b z TI TO i1 i2:Addr) (D:Ap5 z TI TO i1 i2):Turn P w K (.Tuple elts c pos) (Itz lb K a b) [z,TI,TO,i1,i2] z
  (fun i h=>IsZip h z TI TO .none/\IsPair h TI (.ref i1) (.ref i2)/\(∃ u v,IsPair h TO u v)/\ItB lb h i1 a i/\ItB lb h i2 b i) where
 mem:=by simp
 obj:=by
  rintro i h ⟨wz,wI,⟨u,v,wO⟩,g1,g2⟩ d hd
  simp only [yN,yz,or_false] at hd
  rcases hd with rfl | rfl | rfl | rfl | rfl
  ·exact ⟨_,wz,fun v z=>by cases z⟩
  ·exact ⟨_,wI,fun v z=>by cases z⟩
  ·exact ⟨_,wO,fun v z=>by cases z⟩
  ·exact g1.obj
  ·exact g2.obj
 keep:=by
  rintro i h h' ⟨wz,wI,⟨u,v,wO⟩,g1,g2⟩ k
  exact ⟨k z (by simp) _ wz,k TI (by simp) _ wI,⟨u,v,k TO (by simp) _ wO⟩,g1.at fun o e=>k i1 (by simp) o e,g2.at fun o e=>k i2 (by simp) o e⟩
 item:=by
  intro X hP hw hK hc i pins s σ H E I hf st hg
  subst hP hw hK
  obtain ⟨wz,wI,⟨u,v,wO⟩,g1,g2⟩:=st
  obtain ⟨xs,ys,x,y,sx,sy,hx,hy⟩:=hg; obtain ⟨us,rx,lx⟩:=zi1 I sx; obtain ⟨vs,ry,ly⟩:=zi1 I sy; obtain ⟨ux,hux,rux⟩:=rx.get hx; obtain ⟨vy,hvy,rvy⟩:=ry.get hy
  have ne:∀ d,d ∈ [z,TI,TO,i1,i2]->a≠d/\b≠d:=fun d hd=>⟨zlL I sx (hf d hd),zlL I sy (hf d hd)⟩
  have A0:Apart z TI TO i1 i2 [i1,a] [i2,b]:=by
   have nz:=ne z (by simp)
   have no:=ne TO (by simp)
   have n1:=ne i1 (by simp)
   have n2:=ne i2 (by simp)
   refine ⟨?_,?_,?_,?_,?_,?_,D.iz,D.oz,D.io,D.ii1,D.ii2⟩ <;> simp only [yN,yz,or_false,not_or]
   ·exact ⟨D.z1,Ne.symm nz.1⟩
   ·exact ⟨D.z2,Ne.symm nz.2⟩
   ·exact ⟨D.o1,Ne.symm no.1⟩
   ·exact ⟨D.o2,Ne.symm no.2⟩
   ·exact ⟨Ne.symm D.i12,Ne.symm n2.1⟩
   ·exact ⟨D.i12,Ne.symm n1.2⟩
  refine zkC (zrj lb (ne i1 (by simp)).1) (zrj lb (ne i2 (by simp)).2) A0 wz wI wO ⟨g1,lx⟩ ⟨g2,ly⟩ hux hvy fun h' c1 c2 c3 c4 c5 c6 c7=>⟨_,rfl,?_⟩
  refine wpAny_letOwnedTupleGo_zip (s:={ s with heap:=h' }) c1 fun h2 e1 e2=>?_
  have ext:=zT e2
  have pz:s.heap.objs.size≠z:=Nat.ne_of_gt (yQ wz)
  have kk:∀ d o,d ∉ [z,TO,i1,i2]->s.heap.get? d=some o->h2.get? d=some o:=fun d o hd e=>by
   simp only [yN,yz,or_false,not_or] at hd; exact ext d o hd.1 (c7 d o hd.1 hd.2.1 hd.2.2.1 hd.2.2.2 e)
  have fr:H s.heap.objs.size=none:=I.hok.fresh (yF _)
  have tp:IsPair h2 s.heap.objs.size ux vy:=ext _ _ pz c5
  have I2:Inv X pins σ (upd H s.heap.objs.size (.tup [x,y])) { s with heap:=h2 }:=I.turnedNew (t':=s.toks) (ch:=[z,TO,i1,i2]) (fun d hd=>hf d (by simp at hd ⊢; rcases hd with h | h | h | h <;> simp [h])) kk (yF _)
   ⟨by show 2<=sizeLine; exact YZ (zaW (by decide)),[ux,vy],.cons rux (.cons rvy .nil),⟨_,tp,rfl,_,rfl⟩⟩
  refine ⟨.ref s.heap.objs.size,_,I2,rfl,⟨_,x,y,fr,rfl,rfl,fun xs' h=>by rw [zng I sx h]; exact hx,fun ys' h=>by rw [zng I sy h]; exact hy⟩,⟨e1,?_,⟨_,_,ext _ _ D.oz c2⟩,?_,?_⟩,fun d hd=>?_⟩
  ·exact kk _ _ (by simp [D.iz,D.io,D.ii1,D.ii2]) wI
  ·exact c3.1.at fun o e=>ext _ o (Ne.symm D.z1) e
  ·exact c4.1.at fun o e=>ext _ o (Ne.symm D.z2) e
  ·obtain ⟨od,gd,_⟩:∃ o,s.heap.get? d=some o/\True:=by
    simp only [yN,yz,or_false] at hd
    rcases hd with rfl | rfl | rfl | rfl | rfl
    ·exact ⟨_,wz,trivial⟩
    ·exact ⟨_,wI,trivial⟩
    ·exact ⟨_,wO,trivial⟩
    ·obtain ⟨o,e,_⟩:=g1.obj; exact ⟨o,e,trivial⟩
    ·obtain ⟨o,e,_⟩:=g2.obj; exact ⟨o,e,trivial⟩
   rw [zN (ya (yQ gd))]; exact (hf d hd).1
 done:=by
  intro X hP hw hK hc i pins s σ H E I hf st hg
  subst hP hw hK
  obtain ⟨wz,wI,⟨u,v,wO⟩,g1,g2⟩:=st
  obtain ⟨xs,ys,sx,sy,hend⟩:=hg; obtain ⟨us,rx,lx⟩:=zi1 I sx; obtain ⟨vs,ry,ly⟩:=zi1 I sy
  have ne:∀ d,d ∈ [z,TI,TO,i1,i2]->a≠d/\b≠d:=fun d hd=>⟨zlL I sx (hf d hd),zlL I sy (hf d hd)⟩
  have A0:Apart z TI TO i1 i2 [i1,a] [i2,b]:=by
   have nz:=ne z (by simp)
   have no:=ne TO (by simp)
   have n1:=ne i1 (by simp)
   have n2:=ne i2 (by simp)
   refine ⟨?_,?_,?_,?_,?_,?_,D.iz,D.oz,D.io,D.ii1,D.ii2⟩ <;> simp only [yN,yz,or_false,not_or]
   ·exact ⟨D.z1,Ne.symm nz.1⟩
   ·exact ⟨D.z2,Ne.symm nz.2⟩
   ·exact ⟨D.o1,Ne.symm no.1⟩
   ·exact ⟨D.o2,Ne.symm no.2⟩
   ·exact ⟨Ne.symm D.i12,Ne.symm n2.1⟩
   ·exact ⟨D.i12,Ne.symm n1.2⟩
  have he:us[i]?=none\/vs[i]?=none:=by
   rcases hend with h | h
   ·exact .inl (List.getElem?_eq_none (by rw [<- rx.length]; exact h))
   ·exact .inr (List.getElem?_eq_none (by rw [<- ry.length]; exact h))
  refine zkB (I.ok.hd hc) (zrj lb (ne i1 (by simp)).1) (zrj lb (ne i2 (by simp)).2) A0 wz wI wO ⟨g1,lx⟩ ⟨g2,ly⟩ he fun h' k=>⟨rfl,?_⟩
  refine I.turnedL (t':=s.toks) (ch:=[z,TO,i1,i2]) (fun d hd=>hf d (by simp at hd ⊢; rcases hd with h | h | h | h <;> simp [h])) fun d o hd e=>?_
  simp only [yN,yz,or_false,not_or] at hd; exact k d o hd.1 hd.2.1 hd.2.2.1 hd.2.2.2 e
 self:=fun A i s Q E st q=>wpAny_pyIter_zip st.1 q
theorem zc6 {a b:Nat} (h:a≠b):(a:Addr)≠(b:Addr):=h
theorem ap5 (n:Nat):Ap5 (n+4:Nat) (n+2:Nat) (n+3:Nat) n (n+1:Nat):=⟨zc6 (by omega),zc6 (by omega),zc6 (by omega),zc6 (by omega),zc6 (by omega),zc6 (by omega),zc6 (by omega),zc6 (by omega),zc6 (by omega),zc6 (by omega)⟩
theorem zm9:bootBuiltins "zip"=some (.type "zip"):=by rfl
section
variable {X:Cx}
def ztR (K:W.Frag) (ta:TA):TI:=fun σ H R=>ta σ H fun vs H1=>∃ a b xs ys lb,vs=[.ref a,.ref b]/\SqB lb K H1 a xs/\SqB lb K H1 b ys/\R (Itz lb K a b) H1
theorem zqj {e1 e2:Expr} {elts:List Expr} {c:Nat} {ta:TA} {p pos tp:Pos} (hg:Gl X "zip") (hm:X.mg "zip"=none) (ha:PA X [e1,e2] ta) (hs:starEach [e1,e2] X.env=(false,eval e1 X.env) :: starEach [e2] X.env:=by rfl) (hpl:(backTo pos (starEach [e2] X.env)).any (·.1)=false:=by rfl) :
  PI X (.Tuple elts c tp) (.Call (.Name "zip" p) [e1,e2] [] pos) (ztR X.K ta):=by
 intro pins s σ H R I h
 refine Call_ (zc7 I hg hm zm9 (YE (thn (ha pos pins s σ H _ I h) fun us s1 ⟨vs,H1,I1,r1,q1⟩=>?_) hs hpl))
 obtain ⟨a,b,xs,ys,lb,e,sx,sy,q⟩:=q1; subst e; obtain ⟨u,v,rfl,ru,rv⟩:=znU r1
 obtain rfl:u=Value.ref a:=ru
 obtain rfl:v=Value.ref b:=rv
 obtain ⟨us,rx,lx⟩:=zi1 I1 sx; obtain ⟨vs,ry,ly⟩:=zi1 I1 sy
 have fin:∀ h',IsZip h' (s1.heap.objs.size+4) (s1.heap.objs.size+2) (s1.heap.objs.size+3) .none->IsPair h' (s1.heap.objs.size+2) (.ref s1.heap.objs.size) (.ref (s1.heap.objs.size+1))->IsPair h' (s1.heap.objs.size+3) .none .none ->
   ItB lb h' s1.heap.objs.size a 0->ItB lb h' (s1.heap.objs.size+1) b 0->(∀ c o,s1.heap.get? c=some o->h'.get? c=some o) ->
   wpAny (model X.prog X.w) X.A (pyIter (.ref (s1.heap.objs.size+4))) (PIE X pins σ (.Tuple elts c tp) R) X.xe { s1 with heap:=h' }:=by
  intro h' z1 z2 z3 z4 z5 k
  refine wpAny_pyIter_zip (s:={ s1 with heap:=h' }) z1 ?_
  refine ⟨s1.heap.objs.size+4,[s1.heap.objs.size+4,s1.heap.objs.size+2,s1.heap.objs.size+3,s1.heap.objs.size,s1.heap.objs.size+1],_,_,H1,rfl,I1.kept (t':=s1.toks) k,zlD lb a b _ _ _ _ _ (ap5 _),⟨z1,z2,⟨_,_,z3⟩,z4,z5⟩,fun d hd=>?_,q⟩
  have hd':s1.heap.objs.size<=d:=by
   simp only [yN,yz,or_false] at hd
   rcases hd with rfl | rfl | rfl | rfl | rfl <;> omega
  exact I1.fpOk hd' (I1.hok.fresh hd')
 cases lb with
 | true=>exact call_zip_2 lx ly fun h' z1 z2 z3 z4 z5 _ k=>fin h' z1 z2 z3 z4 z5 k
 | false=>exact zps lx ly fun h' z1 z2 z3 z4 z5 k=>fin h' z1 z2 z3 z4 z5 k
end
end L2
namespace PL
open PySem L2
theorem zid {lb:Bool} {K:W.Frag} {H H':Hp} {a:Addr} {vs:List V} (s:zaG H H') (h:SqB lb K H a vs):SqB lb K H' a vs:=by
 cases lb with
 | true=>exact zai s h
 | false=>exact zaz s h
theorem zkP {K:W.Frag} {Hi:Hp} {a b:Addr} {us vs:List V} {ds es:List D} {lb:Bool} (h1:SqB lb K Hi a us) (r1:zbv K Hi us ds) (h2:SqB lb K Hi b vs) (r2:zbv K Hi vs es):ItD K Hi (Itz lb K a b) ((ds.zip es).map fun p=>.tup [p.1,p.2]):=by
 intro Hi' H' s1 s2
 have q1:SqB lb K H' a us:=zid (s1.trans s2.sub) h1
 have q2:SqB lb K H' b vs:=zid (s1.trans s2.sub) h2
 refine ⟨fun i d e=>?_,us,vs,q1,q2,?_⟩
 ·rw [yJ] at e
  obtain ⟨⟨d1,d2⟩,hz,rfl⟩:=Option.map_eq_some_iff.mp e
  obtain ⟨e1,e2⟩:=List.getElem?_zip_eq_some.mp hz; obtain ⟨u,hu,ru⟩:=zaT r1 e1; obtain ⟨v,hv,rv⟩:=zaT r2 e2; refine ⟨⟨us,vs,u,v,q1,q2,hu,hv⟩,?_⟩
  rintro x H'' ⟨p,x1,y1,hp,rfl,rfl,k1,k2⟩
  have ex:x1=u:=by have:=k1 us q1; rw [hu] at this; exact (Option.some.inj this).symm
  have ey:y1=v:=by have:=k2 vs q2; rw [hv] at this; exact (Option.some.inj this).symm
  subst ex ey
  have ex:=Ext.new s2 hp (.tup [x1,y1]); exact ⟨_,ex,Den.mkT zu (.cons (ru.mono (s1.trans ex.hi)) (.cons (rv.mono (s1.trans ex.hi)) .nil))⟩
 ·rw [yE,List.length_zip,zl r1,zl r2]
  omega
section
variable {X:Cx}
def zat (t:TA'):TI':=fun Γ Q=>t Γ fun ds Γ1=>∃ xs ys,(ds=[.tup xs,.tup ys]\/ds=[.lst xs,.lst ys])/\Q ((xs.zip ys).map fun p=>.tup [p.1,p.2]) Γ1
theorem zkh {e1 e2:Expr} {elts:List Expr} {c:Nat} {t:TA'} {p pos tp:Pos} (hm:X.mg "zip"=none) (ha:PA' X [e1,e2] t) (hg:Gl X "zip":=by rfl):PI' X (.Tuple elts c tp) (.Call (.Name "zip" p) [e1,e2] [] pos) (zat t):=by
 refine ⟨PI.weak (zqj hg hm ha.pa (zbO (zbp ha.pl).1) (zbU (zbp ha.pl).2)) ?_⟩
 rintro σ H R ⟨W,Hi,Γ,Q,g,h,fin⟩
 refine ⟨W,Hi,Γ,_,g,h,?_⟩
 rintro vs H1 Hi1 Γ1 ds s1 g1 dl ⟨xs,ys,hd,q⟩
 rcases hd with rfl | rfl
 ·obtain ⟨v,w,rfl,d1,d2⟩:=zjv dl
  obtain ⟨a,us,rfl,h1,r1⟩:=d1.tupI; obtain ⟨b,ws,rfl,h2,r2⟩:=d2.tupI; exact ⟨a,b,us,ws,false,rfl,zaz g1.sub h1,zaz g1.sub h2,fin _ H1 Hi1 Γ1 _ s1 g1 (zkP (lb:=false) h1 r1 h2 r2) q⟩
 ·obtain ⟨v,w,rfl,d1,d2⟩:=zjv dl
  obtain ⟨a,us,rfl,h1,r1⟩:=d1.lstI; obtain ⟨b,ws,rfl,h2,r2⟩:=d2.lstI; exact ⟨a,b,us,ws,true,rfl,zai g1.sub h1,zai g1.sub h2,fin _ H1 Hi1 Γ1 _ s1 g1 (zkP (lb:=true) h1 r1 h2 r2) q⟩
end
end PL
namespace Lb
def Dig (c:Nat):Prop:=48<=c/\c<=57
def Sml (c:Nat):Prop:=97<=c/\c<=122
def zqN:List Nat:=[97,98,99,100,101,102,103,104,105,106,107,108,109,110,111,112,113,114,115,116,117,118,119,120,121,122]
def zpC:List Nat:=[48,49,50,51,52,53,54,55,56,57]
theorem zmD (c:Nat):c ∈ zqN↔Sml c:=by
 show c ∈ List.range' 97 26↔_
 rw [List.mem_range'_1]; unfold Sml; omega
theorem zeb (c:Nat):c ∈ zpC↔Dig c:=by
 show c ∈ List.range' 48 10↔_
 rw [List.mem_range'_1]; unfold Dig; omega
theorem zc3 {p:Nat->Bool}:∀ (ls ds:List Nat),(∀ c ∈ ls,p c=true)->(∀ c ∈ ds,p c=false)->(ls ++ ds).takeWhile p=ls
 | [],[],_,_=>rfl
 | [],d :: ds,_,h=>by rw [List.nil_append,List.takeWhile_cons,h d (yT ..)]; rfl
 | l :: ls,ds,h1,h2=>by
  rw [List.cons_append,List.takeWhile_cons,h1 l (yT ..),yR rfl,zc3 ls ds (fun c hc=>h1 c (yH _ hc)) h2]
theorem zi0 {p:Nat->Bool} {ds ls:List Nat} (h1:∀ c ∈ ls,p c=true) (h2:∀ c ∈ ds,p c=false):(((ds ++ ls).reverse).takeWhile p).length=ls.length:=by
 rw [List.reverse_append,zc3 _ _ (fun c hc=>h1 c (List.mem_reverse.mp hc)) (fun c hc=>h2 c (List.mem_reverse.mp hc)),yj]
def dig (c:Nat):Bool:=decide (c ∈ zpC)
def sml (c:Nat):Bool:=decide (c ∈ zqN)
def wsg:List Nat:=zqN ++ zpC
def cut (l:List Nat):List Nat:=(l.reverse.dropWhile sml).reverse
def zdn (l:List Nat):List Nat:=(l.reverse.takeWhile sml).reverse
theorem zcM (l:List Nat):cut l ++ zdn l=l:=by
 unfold cut zdn; rw [<- List.reverse_append,List.takeWhile_append_dropWhile,List.reverse_reverse]
theorem zc4 {p:Nat->Bool}:∀ l:List Nat,∀ c ∈ l.takeWhile p,p c=true
 | [],c,h=>by simp at h
 | a :: r,c,h=>by
  rw [List.takeWhile_cons] at h; split at h
  ·rename_i ha
   rcases yN.mp h with e | e
   ·rw [e]; exact ha
   ·exact zc4 r c e
  ·simp at h
theorem zfz (l:List Nat):∀ c ∈ zdn l,sml c=true:=fun c hc=>zc4 _ c (List.mem_reverse.mp hc)
theorem zeV {c:Nat} (h:dig c=true):sml c=false:=by
 have a:=(zeb c).mp (of_decide_eq_true h)
 refine yS fun z=>?_
 have b:=(zmD c).mp z; unfold Dig at a; unfold Sml at b; omega
theorem zq4 {ds ls:List Nat} (h1:∀ c ∈ ls,sml c=true) (h2:∀ c ∈ ds,sml c=false):cut (ds ++ ls)=ds:=by
 have e:=zi0 h1 h2; have a:=zcM (ds ++ ls)
 have hl:(zdn (ds ++ ls)).length=ls.length:=by
  unfold zdn; rw [yj]; exact e
 have hl2:(cut (ds ++ ls)).length=ds.length:=by
  have:=ye List.length a
  rw [yP,yP] at this; omega
 exact (List.append_inj a hl2).1
def zS (l:List Nat):Bool:=decide (1<=(cut l).length/\(cut l).length<=9) && decide ((cut l)[0]?≠some 48) && (cut l).all dig && decide (l.length-(cut l).length<=3)
end Lb
namespace M11
open PySem L2 Lb PL
theorem zgW:∀ (m:Nat),1<=m->∃ c r,Nat.toDigits 10 m=c :: r/\c.toNat≠48
 | m,h=>by
  by_cases hm:m<10
  ·refine ⟨_,[],Nat.toDigits_of_lt_base hm,?_⟩
   have:∀ k:Fin 10,k.1≠0->(Nat.digitChar k.1).toNat≠48:=by decide
   exact this ⟨m,hm⟩ (Nat.pos_iff_ne_zero.mp h)
  ·obtain ⟨c,r,e,hc⟩:=zgW (m / 10) (by omega)
   exact ⟨c,r ++ [(m % 10).digitChar],by rw [Nat.toDigits_of_base_le (by decide) (by omega),e]; rfl,hc⟩
termination_by m=>m
decreasing_by omega
theorem zoP {n:Int} (h0:1<=n) (h1:n<10 ^ 9):(∀ c ∈ zkx n,dig c=true)/\1<=(zkx n).length/\(zkx n).length<=9/\(zkx n)[0]?≠some 48:=by
 have hl:=PyProof.Rows.toString_length_le (v:=n) (by omega) (k:=9) (by decide) h1
 obtain ⟨m,rfl⟩:=Int.eq_ofNat_of_zero_le (show 0<=n by omega)
 have hs:=W.KIN.signs_num m
 obtain ⟨c,r,e,hc⟩:=zgW m (by omega)
 unfold zkx
 refine ⟨fun c hc=>?_,?_,?_,?_⟩
 ·rw [hs] at hc
  obtain ⟨d,hd,rfl⟩:=yU.mp hc
  have hdig:=Nat.isDigit_of_mem_toDigits (by decide) (by decide) hd
  simp only [Char.isDigit,yg,ym] at hdig; exact yp ((zeb _).mpr ⟨hdig.1,hdig.2⟩)
 ·rw [hs,e]
  simp
 ·rw [show (Str.ofString (toString (m:Int))).cps.toList.length=(Str.ofString (toString (m:Int))).length by simp [Str.length]]
  exact hl
 ·rw [hs,e]
  simpa using hc
theorem zqP {ds ls:List Nat} (h1:∀ c ∈ ds,dig c=true) (h2:1<=ds.length) (h3:ds.length<=9) (h4:ds[0]?≠some 48) (h5:∀ c ∈ ls,sml c=true) (h6:ls.length<=3):zS (ds ++ ls)=true:=by
 have e:cut (ds ++ ls)=ds:=zq4 h5 fun c hc=>zeV (h1 c hc)
 unfold zS; rw [e]
 have ha:ds.all dig=true:=yW.mpr h1
 rw [ha,yp (⟨h2,h3⟩:1<=ds.length/\ds.length<=9),yp h4,yp (show (ds ++ ls).length-ds.length<=3 by rw [yP]; omega)]
 rfl
theorem prog_facts {l:List Nat} (h:zS l=true):46 ∉ l/\l.length<=12/\l≠[]:=by
 unfold zS at h; simp only [yg,ym] at h
 obtain ⟨⟨⟨⟨a1,a2⟩,_⟩,a3⟩,a4⟩:=h
 have el:=ye List.length (zcM l); rw [yP] at el
 refine ⟨fun hm=>?_,by omega,fun z=>?_⟩
 ·rw [<- zcM l] at hm
  rcases yn.mp hm with hm | hm
  ·have:=yW.mp a3 46 hm
   revert this
   decide
  ·have:=zfz l 46 hm
   revert this
   decide
 ·rw [z] at a1
  revert a1
  decide
def zdx (l:List Nat):List (List Nat):=if l=[46] then [] else spl 46 l
def textOf (L:List (List Nat)):List Nat:=if L=[] then [46] else za6 46 L
theorem zhR {L:List (List Nat)} (h:L.all zS=true):zdx (textOf L)=L:=by
 have hp:=yW.mp h; unfold zdx textOf
 by_cases hL:L=[]
 ·rw [yR hL,yR rfl,hL]
 ·rw [yM hL,zfB hL fun a ha=>(prog_facts (hp a ha)).1,yM ?_]
  intro z
  -- a single point is not the join of labels
  cases L with
  | nil=>exact hL rfl
  | cons a t =>
   have ha:=prog_facts (hp a yT)
   cases t with
   | nil =>
    apply ha.1
    rw [show a=[46] from z]
    simp
   | cons b r =>
    have e:a ++ 46 :: za6 46 (b :: r)=[46]:=z
    have el:=ye List.length e
    have:1<=a.length:=List.length_pos_iff.mpr ha.2.2
    simp at el
    omega
theorem sum_join (c:Nat):∀ L:List (List Nat),(za6 c L).length<=(L.map (·.length)).sum+L.length
 | []=>by simp [za6]
 | [a]=>by simp [za6]
 | a :: b :: r=>by
  have ih:=sum_join c (b :: r)
  show (a ++ c :: za6 c (b :: r)).length<=_
  simp at ih ⊢
  omega
theorem sum_le {B:Nat}:∀ {L:List (List Nat)},(∀ a ∈ L,a.length<=B)->(L.map (·.length)).sum<=B * L.length
 | [],_=>by simp
 | a :: t,h=>by
  have ih:=sum_le (L:=t) fun x hx=>h x (yH _ hx)
  have:=h a yT
  simp [Nat.mul_add]; omega
end M11
namespace MT
open PySem L2 PL
abbrev Pl:=List (List Nat)
inductive Tr where
 | node (l:List Nat) (ws:Pl) (ks:List Tr)
def Tr.lab:Tr->List Nat
 | .node l _ _=>l
def Tr.wds:Tr->Pl
 | .node _ ws _=>ws
def Tr.kds:Tr->List Tr
 | .node _ _ ks=>ks
mutual
def trD:Tr->D
 | .node l ws ks=>.tup [.str l,plc ws,.tup (zpH ks)]
def zpH:List Tr->List D
 | []=>[]
 | t :: r=>trD t :: zpH r
end
theorem zh8:∀ ks:List Tr,zpH ks=ks.map trD
 | []=>by simp [zpH]
 | t :: r=>by simp [zpH,zh8 r]
theorem zbI (t:Tr):trD t=.tup [.str t.lab,plc t.wds,.tup (t.kds.map trD)]:=by
 cases t with
 | node l ws ks=>simp [trD,zh8,Tr.lab,Tr.wds,Tr.kds]
def zbl (l:List Nat) (ks:List Tr):Option Tr:=ks.find? fun k=>decide (k.lab=l)
def znq:Option Tr->D
 | none=>.non
 | some t=>trD t
def zbq:Tr->Pl->Option Tr
 | t,[]=>some t
 | t,l :: p=>match zbl l t.kds with
  | none=>none
  | some k=>zbq k p
theorem ziY (t:Tr):trD t≠.non:=by rw [zbI]; simp
theorem zdj:∀ (p:Pl) (t:Tr) (l:List Nat),zbq t (p ++ [l])=match zbq t p with
  | none=>none
  | some k=>zbl l k.kds
 | [],t,l=>by
  simp only [List.nil_append,zbq]
  cases zbl l t.kds <;> rfl
 | m :: p,t,l=>by
  simp only [List.cons_append,zbq]
  cases zbl m t.kds with
  | none=>rfl
  | some k=>exact zdj p k l
end MT
namespace L2
open PySem PySem.Spec PyProof.Rows
def PU (X:Cx) (e:Expr) (t:TE):Prop:=∀ (pins:List (Addr × Obj)) (s:Shared) (σ:St) (H:Hp) (Q:VK) (i:Nat) (x:Str) (pos pos':Pos) (D:Ends),Inv X pins σ H s->t σ H Q->X.N.Nodup->X.N[i]?=some x->X.env.scope.names.lookup x=some .local ->
 swapsWith e (some (.Name x pos')) pos.line X.env=pure true->(∀ v H',Q v H'->D.nx (σ.set i (some v)) H')->wpAny (model X.prog X.w) X.A (exec (.Assign [.Name x pos'] e pos) X.env) (SP X pins D) X.xe s
theorem PU.weak {X:Cx} {e:Expr} {t t2:TE} (h:PU X e t) (w:∀ σ H Q,t2 σ H Q->t σ H Q):PU X e t2:=fun pins s σ H Q i x pos pos' D I q=>h pins s σ H Q i x pos pos' D I (w _ _ _ q)
theorem zof {X:Cx} {elt tg iter:Expr} {ifs:List Expr} {sc fsc:Scope} {pos:Pos} {wi:TI} {g:TG} {tc:TT} {te:TE} {N N':List Str} {src:List (Option Nat)} (B:Blk N N' src fsc sc) (hi:PI X tg iter wi)
  (hg:∀ cl C s H fp pn,PG (blk X N' sc cl C s H fp pn) tg g) (ht:∀ cl C s H fp pn,PTs (blk X N' sc cl C s H fp pn) ifs tc) (he:∀ cl C s H fp pn,PE (blk X N' sc cl C s H fp pn) elt te)
  (hx:X.xe=(fun _ _=>False):=by rfl) (hc:X.calm=true:=by rfl) (hN:X.N=N:=by rfl) (hs:X.env.scope=fsc:=by rfl)
  (hf:∀ x,foldedSetIterable iter X.env x=pure x:=by intro _; rfl):PU X (.ListComp elt [⟨tg,iter,ifs,0⟩] sc pos) (zpN wi src g tc te):=by
 intro pins s σ H Q i0 x0 p0 p1 D0 I h hNd hi0 hx0 hsw fin; rw [exec_Assign_Name_used _ _ _ _ hsw]; refine yA (wpAny_standAt (yA ?_))
 show wpAny _ _ (do let _ <- comprehension (.ListComp elt [⟨tg,iter,ifs,0⟩] sc pos) sc X.env _ (newList []) false (eval iter X.env) (some (assign (.Name x0 p1) X.env))) _ _ _
 have hfr:∀ y ∈ sc.names,y.2=.free->∃ c,X.env.cells.lookup y.1=some c:=fun y hy e=>I.ok.has y.1 (.inl (by have:=B.free y hy e; rw [<- hs] at this; exact this))
 refine yA (Ya (wpAny_comprehension_free (use:=some (assign (.Name x0 p1) X.env)) (Q:=fun _ s'=>SP X pins D0 .next s') (cl:=zc8 X.env.cells sc.names []) rfl hf (zfq hfr) B.kind B.names ?_) (fun _ s' hq=>yD (yD hq)) fun _ _ e=>e)
 refine thn (hi pins s σ H _ I h) fun v s1 h1=>thn h1 fun itv s2 h2=>?_
 obtain ⟨it,fp,tn,J,H2,e,I2,T,st2,f2,q⟩:=h2; subst e
 obtain ⟨W,⟨m0,w0⟩,turn⟩:=q s2.heap.objs.size (I2.hok.fresh (yF _))
 refine yc (wpAny_newFunctionEnv B.cell (by intro y hy; simp at hy) (fun h1 hns hsb=>?_) B.kind)
 dsimp only at hns hsb ⊢
 have I3:Inv X pins σ (upd H2 s2.heap.objs.size (.lst [])) { s2 with heap:=s2.heap.push { cls:=.type "list",dict:=none,data:=.seq ([]:List Value).toArray } } :=
  I2.laid (t':=s2.toks) (fun b o e=>yC _ e) (yF _) ⟨yf _,[],0,.nil,yI _ rfl⟩
 have fb:∀ b ∈ fp,b<s2.heap.objs.size:=fun b hb=>by
  obtain ⟨o,e,_⟩:=T.obj 0 _ st2 b hb; exact yQ e
 have f3:∀ b ∈ fp,zge X pins (upd H2 s2.heap.objs.size (.lst [])) b:=fun b hb=>by
  refine ⟨?_,(f2 b hb).2⟩; rw [zN (ya (fb b hb))]; exact (f2 b hb).1
 generalize hh3:s2.heap.push { cls:=.type "list",dict:=none,data:=.seq ([]:List Value).toArray }=h3 at hns hsb I3 ⊢
 have z3:s2.heap.objs.size<h3.objs.size:=by rw [<- hh3,Heap.size_push]; exact Nat.lt_succ_self _
 have k3:∀ b o,h3.get? b=some o->h1.get? b=some o:=fun b o e=>hsb.extBut b o (ya (yQ e)) (yC _ e)
 have I4:=znP (tk:=s2.toks+([]:List (Str × Value)).length) I3 B hN hs f3 (fun b hb=>Nat.lt_trans (fb b hb) z3) hns k3
 have st4:tn 0 h1:=T.keep 0 _ _ st2 fun b hb o e=>k3 b o (by rw [<- hh3]; exact yC _ e)
 have fok:∀ {H':Hp},(∀ b ∈ fp,H' b=none)->∀ b ∈ fp,zge (blk X N' sc (zc8 X.env.cells sc.names []) h3.objs.size { s2 with heap:=h3 } (upd H2 s2.heap.objs.size (.lst [])) fp (X.pn ++ pins)) [] H' b:=fun hn b hb=>by
  obtain ⟨_,g1,g2,g3,g4,g5⟩:=f3 b hb
  refine ⟨hn b hb,ya (Nat.lt_trans (fb b hb) z3),fun z=>?_,.inl hb,fun x c e=>g4 x c (zdC sc.names [] hfr (fun _ _ z=>by simp at z) e),fun p hp=>g5 p (by rw [YJ] at hp; exact hp)⟩
  rcases yN.mp (I3.stkSub b z) with e | e
  ·exact g1 e
  ·exact g2 e
 have loop:∀ s4:Shared,s4={ s2 with heap:=h1,toks:=s2.toks+([]:List (Str × Value)).length } ->
   codeAny (model X.prog X.w) X.A (.compLoop (.ListComp elt [⟨tg,iter,ifs,0⟩] sc pos) 0 (.ref it) (.ref s2.heap.objs.size) (compEnvC sc (zc8 X.env.cells sc.names []) h3.objs.size X.env))
    (compPost (model X.prog X.w) X.A X.xe (some (assign (.Name x0 p1) X.env)) (fun _ s'=>SP X pins D0 .next s') (.ref s2.heap.objs.size) h3.objs.size) s4:=by
  rintro s4 rfl
  refine zg4 (fun k s'=>∃ i σ5 H5,Inv (blk X N' sc (zc8 X.env.cells sc.names []) h3.objs.size { s2 with heap:=h3 } (upd H2 s2.heap.objs.size (.lst [])) fp (X.pn ++ pins)) [] σ5 H5 s'/\tn i s'.heap/\(∀ b ∈ fp,H5 b=none)/\W i k σ5 H5) ?_ m0
   ⟨0,_,_,I4,st4,fun b hb=>(f3 b hb).1,w0⟩
  rintro k s5 ⟨i,σ5,H5,I5,st5,fr5,w5⟩
  rcases turn i k σ5 H5 w5 with ⟨stop,qd⟩ | ⟨go,M,hM,step⟩
  ·refine thn (T.done (blk X N' sc (zc8 X.env.cells sc.names []) h3.objs.size { s2 with heap:=h3 } (upd H2 s2.heap.objs.size (.lst [])) fp (X.pn ++ pins)) rfl rfl rfl hc i [] s5 σ5 H5 _ I5 (fok fr5) st5 stop) fun r s6 ⟨hr,I6⟩=>?_
   subst hr; obtain ⟨m6,hn6,_⟩:=id I6.loc
   have I7:Inv X pins σ H5 s6:=I3.call' (s':=s6) (ch:=fp) I6.os (Un.same I6.base (Heap.SameBut.refl ..) (yF _)) (HOk.same I6.hok (Heap.SameBut.refl ..) I6.free) I6.bare fun b hb=>⟨(f3 b hb).2.2.2.1,(f3 b hb).2.1,(f3 b hb).2.2.2.2.1,(f3 b hb).2.2.2.2.2⟩
   obtain ⟨c0,c1,c2,c3,c4,c5⟩:=I3.fpOk (H':=H5) (b:=h3.objs.size) (yF _) I6.free
   show wpAny _ _ (assign (.Name x0 p1) X.env (.ref s2.heap.objs.size)) _ _ _
   refine wpAny_assign_Name (zgj (v:=.ref s2.heap.objs.size) I7 hNd hi0 (.inl hx0) rfl (fun s8 I8 sb=>?_) (.inr hx0))
   obtain ⟨a8,sb8,ha8⟩:=sb
   have ne8:h3.objs.size≠a8:=by
    rcases ha8 with e | e
    ·rw [e]; exact c1
    ·exact fun z=>c4 _ _ e z.symm
   exact ⟨m6,hn6.sameBut sb8 ne8,fun h' hsb'=>⟨_,H5,I8.turned (t':=s8.toks) (fun b o hb e=>(hsb'.2 b hb).trans e) c0 c1 c3 c4 c5,fin _ _ qd⟩⟩
  ·refine thn (T.item (blk X N' sc (zc8 X.env.cells sc.names []) h3.objs.size { s2 with heap:=h3 } (upd H2 s2.heap.objs.size (.lst [])) fp (X.pn ++ pins)) rfl rfl rfl hc i [] s5 σ5 H5 _ I5 (fok fr5) st5 go) fun r s6 ⟨u,hr,h6⟩=>?_
   subst hr
   refine thn h6 fun _ s7 ⟨x,H7,I7,r7,y7,st7,fr7⟩=>?_
   have I7':=I7.pinned (fok fr7) (T.obj _ _ st7)
   have back:∀ {σ8:St} {H8:Hp} {s8:Shared},Inv (blk X N' sc (zc8 X.env.cells sc.names []) h3.objs.size { s2 with heap:=h3 } (upd H2 s2.heap.objs.size (.lst [])) fp (X.pn ++ pins)) ([] ++ zfi fp s7.heap) σ8 H8 s8->tn (i+1) s8.heap/\∀ b ∈ fp,H8 b=none:=fun {σ8 H8 s8} I8=>by
    have pn8:∀ b ∈ fp,∀ o,s7.heap.get? b=some o->s8.heap.get? b=some o/\H8 b=none:=fun b hb o e=>by
     have q:=I8.pin (b,o) (yb _ (yb _ (zc1 hb e))); exact ⟨q.1,q.2.1⟩
    refine ⟨T.keep _ _ _ st7 fun b hb o e=>(pn8 b hb o e).1,fun b hb=>?_⟩
    obtain ⟨o,e,_⟩:=T.obj _ _ st7 b hb; exact (pn8 b hb o e).2
   have xf:∀ {α:Type} {t:Sem α} {Q1 Q2:α->Shared->Prop} {z:Shared},wpAny (model X.prog X.w) X.A t Q1 X.xe z->(∀ a z',Q1 a z'->Q2 a z')->wpAny (model X.prog X.w) X.A t Q2 (fun _ _=>False) z:=fun g1 g2=>by
    rw [hx] at g1; exact thn g1 g2
   refine xf (hg _ _ _ _ _ _ _ s7 σ5 H7 x u _ I7' r7 (step x H7 y7)) fun _ s8 ⟨σ8,H8,I8,q8⟩=>?_
   refine xf (ht _ _ _ _ _ _ _ s8 σ8 H8 _ I8 q8) fun b s9 ⟨H9,I9,q9⟩=>?_
   cases b with
   | false =>
    obtain ⟨m',hm,w'⟩:=hM σ8 H9 (by simpa using q9)
    obtain ⟨g1,g2⟩:=back I9; exact ⟨m',hm,i+1,σ8,H9,I9.unpinned,g1,g2,w'⟩
   | true =>
    rw [yR rfl] at q9 ⊢
    refine xf (he _ _ _ _ _ _ _ s9 σ8 H9 _ I9 q9) fun y s10 ⟨yv,H10,I10,r10,ys,hy,hz,w⟩=>?_
    obtain ⟨m',hm,w'⟩:=hM _ _ w
    refine xf (zdu (X:=(blk X N' sc (zc8 X.env.cells sc.names []) h3.objs.size { s2 with heap:=h3 } (upd H2 s2.heap.objs.size (.lst [])) fp (X.pn ++ pins))) _ s10 σ8 H10 (.ref s2.heap.objs.size) [yv] _ [y] (fun _ H11=>H11=upd H10 s2.heap.objs.size (.lst (ys ++ [yv]))) I10 rfl (.cons r10 .nil) ⟨_,ys,yv,rfl,rfl,hy,hz,rfl⟩) fun _ s11 ⟨_,H11,I11,_,e11⟩=>?_
    subst e11; obtain ⟨g1,g2⟩:=back I11; exact ⟨m',hm,i+1,σ8,_,I11.unpinned,g1,g2,w'⟩
 exact codeAny_compStart_list (loop _ rfl) (T.self _ 0 _ _ _ st4 (loop _ rfl))
end L2
namespace PL
open PySem L2
structure PU' (X:Cx) (e:Expr) (t:TO'):Prop where
 h:PU X e (oOf X.K X.N.length t)
section
variable {X:Cx} {pos:Pos}
theorem zio {elt tg iter:Expr} {ifs:List Expr} {sc fsc:Scope} {ti:TI'} {g:TG'} {tc:TT'} {te:TE'} {N N':List Str} {src:List (Option Nat)} (B:Blk N N' src fsc sc) (hi:PI' X tg iter ti)
  (hg:∀ cl C s H fp pn,PG' (blk X N' sc cl C s H fp pn) tg g) (ht:∀ cl C s H fp pn,PTs' (blk X N' sc cl C s H fp pn) ifs tc) (he:∀ cl C s H fp pn,PE' (blk X N' sc cl C s H fp pn) elt te)
  (hx:X.xe=(fun _ _=>False):=by rfl) (hc:X.calm=true:=by rfl) (hN:X.N=N:=by rfl) (hs:X.env.scope=fsc:=by rfl)
  (hf:∀ x,foldedSetIterable iter X.env x=pure x:=by intro _; rfl):PU' X (.ListComp elt [⟨tg,iter,ifs,0⟩] sc pos) (zA ti src g tc te):=by
 refine ⟨PU.weak (zof (g:=gOf X.K N'.length g) (tc:=zpz X.K N'.length tc) (te:=tOf X.K N'.length te) B hi.h (fun a b c d e f=>(hg a b c d e f).h) (fun a b c d e f=>(ht a b c d e f).h) (fun a b c d e f=>(he a b c d e f).h) hx hc hN hs hf) ?_⟩
 rintro σ H Q2 ⟨W,Hi,Γ,Q,gd,h,fin⟩
 refine ⟨W,Hi,Γ,_,gd,h,?_⟩
 rintro J H1 Hi1 Γ1 ds s1 g1 itd ⟨hlen,q⟩
 intro A hA
 -- the state between two turns
 have hn':src.length=N'.length:=B.len
 refine zg2 (n:=ds.length) (fun i σ' H'=>∃ Hi' acc vs Γ',zaG Hi1 Hi'/\Fz Hi' H'/\(∀ b o,H1 b=some o->H' b=some o)/\(∀ b o,H1 b=some o->Hi' b=Hi1 b)/\Hi' A=none/\H' A=some (.lst vs)/\zbv X.K Hi' vs acc/\vs.length<=i/\σ'.length=N'.length /\
   (∀ (j:Nat) s,Γ'[j]?=some s->s=.emp\/∃ d,s=.val d/\∃ v,σ'[j]?=some (some v)/\Den X.K Hi' v d)/\zd7 g tc te (fun acc=>Q (.lst acc) Γ1) (ds.drop i) acc Γ') ?_ ?_ ?_
 ·refine ⟨Hi1,[],[],zlx src Γ1,zaG.refl _,(Ext.newO g1.fz hA _ (fun _ z=>by cases z)).fz,fun b o e=>zaO hA _ b o e,fun b o e=>rfl,g1.sub.free hA,zu,.nil,yf _,?_,fun j s e=>?_,by simpa using q⟩
  ·unfold zlQ; rw [yE,hn']
  ·unfold zlx at e
   rw [yJ] at e
   cases hj:src[j]? with
   | none=>rw [hj] at e; cases e
   | some o =>
    rw [hj] at e
    cases o with
    | none=>cases e; exact .inl rfl
    | some i =>
     have e':(match Γ1[i]? with | some (.val d)=>Slot.val d | _=>.emp)=s:=Option.some.inj e
     cases hΓ:Γ1[i]? with
     | none=>rw [hΓ] at e'; exact .inl e'.symm
     | some sl =>
      rw [hΓ] at e'
      cases sl with
      | val d =>
       refine .inr ⟨d,e'.symm,?_⟩; obtain ⟨v,h1,h2⟩:=g1.val i d hΓ; refine ⟨v,?_,h2⟩; unfold zlQ; rw [yJ,hj]
       show some ((some i).bind fun i=>(σ[i]?).join)=some (some v)
       show some ((σ[i]?).join)=some (some v)
       rw [h1]; rfl
      | emp=>exact .inl e'.symm
      | own o=>exact .inl e'.symm
      | bk _ _ _=>exact .inl e'.symm
 ·rintro i σ' H' hlt ⟨Hi',acc,vs,Γ',s2,s3,k1,k2,hA1,hA2,dl,hv,hl,hsl,q⟩
  have hd:ds.drop i=ds[i] :: ds.drop (i+1):=YK hlt
  rw [hd] at q; obtain ⟨go,yl⟩:=(itd Hi' H' s2 s3).1 i ds[i] (yB hlt)
  refine ⟨go,fun x H'' y=>?_⟩
  obtain ⟨Hi'',ex,den⟩:=yl x H'' y
  have gb:Good X.K N'.length ⟨H'',Hi'',[]⟩ Hi'' Γ' σ' H'':=by
   refine ⟨hl,ex.fz,fun b o e _=>e,fun b o e=>⟨o,e⟩,fun b o e=>rfl,fun j d e=>?_,fun j o e=>?_,fun j k o o' b e=>?_,fun j d b xs e=>?_⟩
   ·rcases hsl j _ e with z | ⟨d',z,v,h1,h2⟩
    ·cases z
    ·cases z; exact ⟨v,h1,h2.mono ex.hi⟩
   ·rcases hsl j _ e with z | ⟨d',z,_⟩ <;> cases z
   ·rcases hsl j _ e with z | ⟨d',z,_⟩ <;> cases z
   ·rcases hsl j _ e with z | ⟨d',z,_⟩ <;> cases z
  refine ⟨⟨H'',Hi'',[]⟩,Hi'',Γ',ds[i],_,gb,den,q,?_⟩; intro σ3 H3 Hi3 Γ3 s4 g3 q3; refine ⟨⟨H'',Hi'',[]⟩,Hi3,Γ3,_,g3,q3,?_⟩; intro b H4 Hi4 Γ4 s5 g4 q4
  -- what the state is behind a turn
  have back:∀ {Γ5:Sts} {Hi5 H5:Hp},zaG Hi4 Hi5->Good X.K N'.length ⟨H'',Hi'',[]⟩ Hi5 Γ5 σ3 H5 ->
    zaG Hi1 Hi5/\Fz Hi5 H5/\(∀ b o,H1 b=some o->H5 b=some o)/\(∀ b o,H1 b=some o->Hi5 b=Hi1 b)/\Hi5 A=none/\H5 A=some (.lst vs)/\zaG Hi' Hi5:=fun {Γ5 Hi5 H5} s6 g5=>by
   have sx:zaG Hi' Hi5:=ex.hi.trans (s4.trans (s5.trans s6))
   have hA3:H'' A=some (.lst vs):=ex.h _ _ hA2
   refine ⟨s2.trans sx,g5.fz,fun b o e=>g5.keep b o (ex.h _ _ (k1 b o e)) (by simp),fun b o e=>?_,?_,g5.keep A _ hA3 (by simp),sx⟩
   ·rw [g5.fro b o (ex.h _ _ (k1 b o e))]
    show Hi'' b=Hi1 b
    rw [ex.fro b o (k1 b o e),k2 b o e]
   ·rw [g5.fro A _ hA3]
    show Hi'' A=none
    rw [ex.fro A _ hA2,hA1]
  have sl:∀ {Γ5:Sts} {Hi5 H5:Hp},Good X.K N'.length ⟨H'',Hi'',[]⟩ Hi5 Γ5 σ3 H5->∀ (j:Nat) s,(vo Γ5)[j]?=some s->s=.emp\/∃ d,s=.val d/\∃ v,σ3[j]?=some (some v)/\Den X.K Hi5 v d:=fun {Γ5 Hi5 H5} g5 j s e=>by
   unfold vo at e; rw [yJ] at e
   cases hj:Γ5[j]? with
   | none=>rw [hj] at e; cases e
   | some sl =>
    rw [hj] at e
    cases sl with
    | val d =>
     cases e; exact .inr ⟨d,rfl,g5.val j d hj⟩
    | emp=>cases e; exact .inl rfl
    | own o=>cases e; exact .inl rfl
    | bk _ _ _=>cases e; exact .inl rfl
  cases b with
  | false =>
   simp only [YL,if_false] at q4 ⊢; obtain ⟨b1,b2,b3,b4,b5,b6,b7⟩:=back (zaG.refl _) g4
   exact ⟨Hi4,acc,vs,vo Γ4,b1,b2,b3,b4,b5,b6,dl.mono b7,by omega,g4.len,sl g4,q4⟩
  | true =>
   simp only [if_true] at q4 ⊢; refine ⟨⟨H'',Hi'',[]⟩,Hi4,Γ4,_,g4,q4,?_⟩
   rintro y' H5 ⟨Hi5,dy,Γ5,s6,g5,den5,q5⟩
   obtain ⟨b1,b2,b3,b4,b5,b6,b7⟩:=back s6 g5
   refine ⟨vs,b6,by omega,Hi5,acc ++ [dy],vs ++ [y'],vo Γ5,b1,?_,?_,b4,b5,zu,paired_app (dl.mono b7) (.cons den5 .nil),by rw [yP]; simp; omega,g5.len,sl g5,q5⟩
   ·refine ⟨fun b o e=>?_,fun b xs e=>?_⟩
    ·rw [zN (fun z=>by rw [z,b5] at e; cases e)]
     exact b2.sub b o e
    ·by_cases hb:b=A
     ·subst hb; rw [zu] at e; cases e
     ·rw [zN hb] at e; exact b2.tups b xs e
   ·intro b o e
    rw [zN (zaQ e hA)]; exact b3 b o e
 ·rintro σ' H' ⟨Hi',acc,vs,Γ',s2,s3,k1,k2,hA1,hA2,dl,hv,hl,hsl,q⟩
  refine ⟨(itd Hi' H' s2 s3).2,?_⟩; rw [YQ (yF _)] at q
  have ex:Ext Hi1 H1 Hi' H':=⟨s2,k1,s3,k2⟩
  refine fin A H' Hi' Γ1 (.lst acc) (s1.trans s2) (g1.ext ex) ⟨hA1,?_,⟨fun j o' e z=>?_,fun j d xs e=>?_⟩,vs,hA2,dl⟩ q
  ·cases hq:W.H₀ A with
   | none=>rfl
   | some w =>
    obtain ⟨w',hw⟩:=g1.there A w hq
    rw [hA] at hw; cases hw
  ·obtain ⟨a,h1,_,_,h4⟩:=g1.own j o' e
   rw [z] at h1; cases h1; obtain ⟨w,hw⟩:=h4.there
   rw [hA] at hw; cases hw
  ·obtain ⟨w,hw⟩:=(g1.bk j d A xs e).at_.there
   rw [hA] at hw; cases hw
theorem ziq (i:Nat) {x:Str} {e:Expr} {te:TO'} {pos':Pos} (hN:X.N.Nodup) (he:PU' X e te) (hi:X.N[i]?=some x:=by rfl) (hx:X.env.scope.names.lookup x=some .local:=by rfl) (hs:swapsWith e (some (.Name x pos')) pos.line X.env=pure true:=by rfl):PS' X (.Assign [.Name x pos'] e pos) (zV (zam te) (zr i)):=by
 refine ⟨fun pins s σ H N2 I q=>?_⟩
 obtain ⟨W,Hi,Γ,N,g,h,l⟩:=q
 refine he.h pins s σ H (fun v H'=>N2.nx (σ.set i (some v)) H') i x pos pos' N2 I ⟨W,Hi,Γ,_,g,h,?_⟩ hN hi hx hs fun _ _ z=>z
 intro a H1 Hi1 Γ1 o s1 g1 nw q; obtain ⟨u,hu⟩:=nw.own.there; exact l.nx _ H1 (upd Hi1 a u) _ (s1.trans (zaO nw.hi u)) ((g1.freezeA nw.hi nw.h0 nw.ne hu).set (yG.mp hi).1 (nw.own.den nw.hi hu)) q
end
def ztv:OD->Prop
 | .lst ds=>∀ d,d ∈ ds->Imm d
 | _=>False
def zE (n:Nat) (t:TO'):TO':=fun Γ Q=>t (zW n Γ) fun o _=>ztv o/\Q o Γ
theorem zoq {X:Cx} {e:Expr} {t:TO'} (h:PO' X e t):PO' X e (zE X.N.length t):=by
 refine ⟨PE.weak h.h ?_⟩
 rintro σ H Q ⟨W,Hi,Γ,Q',g,q,fin⟩
 obtain ⟨s1,g1⟩:=g.look; refine ⟨_,_,_,_,g1,q,?_⟩
 rintro a H' Hb Γ' o sb g' nw ⟨im,q'⟩
 obtain ⟨s2,g2,hd⟩:=g.unlook sb g'
 have ha:H a=none:=nw.h0
 refine fin a H' _ Γ o s2.hi g2 ⟨?_,?_,⟨fun j o' e z=>?_,fun j d xs e=>?_⟩,?_⟩ q'
 ·unfold zcr
  split
  ·rfl
  ·exact nw.hi
 ·cases hq:W.H₀ a with
  | none=>rfl
  | some w =>
   obtain ⟨w',hw⟩:=g.there a w hq
   rw [ha] at hw; cases hw
 ·obtain ⟨b,h1,_,_,h4⟩:=g.own j o' e
  rw [z] at h1; cases h1; obtain ⟨w,hw⟩:=h4.there
  rw [ha] at hw; cases hw
 ·obtain ⟨w,hw⟩:=(g.bk j d a _ e).at_.there
  rw [ha] at hw; cases hw
 ·cases o with
  | lst ds =>
   obtain ⟨vs,e,dl⟩:=nw.own
   exact ⟨vs,e,zbD (zl dl) fun i v d h1 h2=>hd v d (im d (yV h2)) (paired_get i dl h1 h2)⟩
  | dic ds=>exact im.elim
  | dit ds=>exact im.elim
  | obj C ds=>exact im.elim
section
variable {X:Cx}
end
abbrev SpB:=(D->D)->List D->List D->(D->List D->Prop)->Prop
section
variable {X:Cx} {k:Nat} {C:Addr} {m x y:Str} {ps:List Str} {sp:SpB} {apos pos p q:Pos} {e:Expr} {es:List Expr} {t:TA'}
def zM (i:Nat) (sp:SpB) (t:TA'):TE':=fun Γ Q=>(∃ d b xs,Γ[i]?=some (.bk d b (.lst xs)))/\t Γ fun ds Γ1=>∃ d b xs,Γ1[i]?=some (.bk d b (.lst xs))/\sp d xs ds fun r ys=>Q r (Γ1.set i (.bk d b (.lst ys)))
end
section
variable {P:Program} {w:World} {K:W.Frag} {mg:Str->Option Value} {base:Heap}
end
end PL
namespace L2
open PySem PySem.Spec PyProof.Rows
def Itw (K:W.Frag) (a:Addr) (vs:List V):It :=
 ⟨fun i H=>SqL K H a vs/\i<vs.length,fun i H x H'=>H'=H/\vs[vs.length-1-i]?=some x,fun i H=>SqL K H a vs/\vs.length<=i⟩
theorem zc0 {h:Heap} {a:Addr} {its:Array Value} (p:PlainL h a its):h.IsList a its:=by
 obtain ⟨o,n,e,c,d,e2⟩:=p
 first | exact ⟨o,e,c,n,e2⟩ | exact ⟨o,e,c,n,d⟩
theorem zlF {P:Program} {w:World} {K:W.Frag} {tg:Expr} (a it:Addr) (vs:List V):Turn P w K tg (Itw K a vs) [it] it (fun i h=>i<=vs.length/\h.IsRevIter it a ((vs.length:Int)-1-(i:Int))) where
 mem:=by simp
 obj:=fun i h st b hb=>by
  have e:b=it:=by simpa using hb
  subst e; obtain ⟨o,ho,hc,hd⟩:=st.2
  exact ⟨o,ho,fun v z=>by rw [hd] at z; cases z⟩
 keep:=fun i h h' st k=>⟨st.1,st.2.at fun o e=>k it (by simp) o e⟩
 item:=by
  intro X hP hw hK hc i pins s σ H E I hf st hg
  subst hP hw hK
  obtain ⟨hq,hi⟩:=hg; obtain ⟨its,rv,p,hz⟩:=I.list hq
  obtain ⟨f0,f1,f2,f3,f4,f5⟩:=hf it (by simp)
  have hl:=rv.length
  have hx:vs[vs.length-1-i]?=some (vs[vs.length-1-i]'(by omega)):=yB (by omega)
  obtain ⟨u,hu,ru⟩:=rv.get hx; have st2:=st.2
  rw [show (vs.length:Int)-1-(i:Int)=((vs.length-1-i:Nat):Int) by omega] at st2
  refine wpAny_pyNext_rev_item st2 (zc0 p) (x:=u) (by simpa using hu) fun h' st' sb=>?_
  have I1:Inv X pins σ H { s with heap:=h',toks:=s.toks }:=I.turned (t':=s.toks) (fun b o hb e=>(sb.2 b hb).trans e) f0 f1 f3 f4 f5
  have st3:h'.IsRevIter it a ((vs.length:Int)-1-((i+1:Nat):Int)):=by
   rw [show (vs.length:Int)-1-((i+1:Nat):Int)=((vs.length-1-i:Nat):Int)-1 by omega]
   exact st'
  obtain ⟨o,ho,hc',hd⟩:=id st3
  exact ⟨u,rfl,zhX (s:={ s with heap:=h',toks:=s.toks }) (n:="list_reverseiterator") ho hc' hd (by decide) ⟨_,H,I1,ru,⟨rfl,hx⟩,⟨by omega,st3⟩,fun b hb=>(hf b hb).1⟩⟩
 done:=by
  intro X hP hw hK hc i pins s σ H E I hf st hg
  subst hP hw hK
  obtain ⟨hq,hi⟩:=hg
  obtain ⟨f0,f1,f2,f3,f4,f5⟩:=hf it (by simp)
  have st2:=st.2
  rw [show (vs.length:Int)-1-(i:Int)=-1 by have:=st.1; omega] at st2
  exact wpAny_pyNext_rev_end (I.ok.hd hc) st2 fun h' eb=>⟨rfl,I.turned (t':=s.toks) (fun b o hb e=>eb b o hb e) f0 f1 f3 f4 f5⟩
 self:=fun _ _ _ _ _ st h=>wpAny_pyIter_revIter st.2 h
section
variable {X:Cx} {tg:Expr}
def ztT (K:W.Frag) (ta:TA):TI:=fun σ H R=>ta σ H fun xs H1=>∃ a vs,xs=[.ref a]/\SqL K H1 a vs/\R (Itw K a vs) H1
theorem zql {a:Expr} {ta:TA} {p pos:Pos} (hg:Gl X "reversed") (hm:X.mg "reversed"=none) (ha:PA X [a] ta) (hs:starEach [a] X.env=[(false,eval a X.env)]:=by rfl):PI X tg (.Call (.Name "reversed" p) [a] [] pos) (ztT X.K ta):=by
 intro pins s σ H R I h
 refine Call_ (zc7 I hg hm boot_reversed (YE (thn (ha pos pins s σ H _ I h) fun us s1 ⟨vs,H1,I1,r1,q1⟩=>?_) hs rfl))
 obtain ⟨b,xs,e,hq,q⟩:=q1; subst e; obtain ⟨u,rfl,rx⟩:=zct r1; cases rx; obtain ⟨its,rv,p,hz⟩:=I1.list hq; have hl:=rv.length; refine call_reversed_list (zc0 p) ?_
 have st:(s1.heap.push (revObj b ((its.toArray.size:Int)-1))).IsRevIter s1.heap.objs.size b ((xs.length:Int)-1-((0:Nat):Int)):=by
  have e:(xs.length:Int)-1-((0:Nat):Int)=(its.toArray.size:Int)-1:=by rw [yK,<- hl]; omega
  rw [e]; exact ⟨_,yI _ rfl,rfl,rfl⟩
 refine wpAny_pyIter_revIter (s:={ s1 with heap:=s1.heap.push (revObj b ((its.toArray.size:Int)-1)) }) st ?_
 refine ⟨s1.heap.objs.size,[s1.heap.objs.size],_,_,H1,rfl,I1.kept (t':=s1.toks) fun b o e=>yC _ e,zlF b _ xs,⟨yf _,st⟩,fun c hc=>?_,q⟩
 have e:c=s1.heap.objs.size:=by simpa using hc
 subst e; exact I1.fpOk (yF _) (I1.hok.fresh (yF _))
end
end L2
namespace PL
open PySem L2
theorem zpd {K:W.Frag} {Hi:Hp} {a:Addr} {vs:List V} {ds:List D} (h:SqL K Hi a vs) (r:zbv K Hi vs ds):ItD K Hi (Itw K a vs) ds.reverse:=by
 intro Hi' H' s1 s2
 have hq:SqL K H' a vs:=zai (s1.trans s2.sub) h
 have hl:=zl r
 refine ⟨fun i d e=>?_,hq,by rw [yj,hl]; exact yF _⟩
 have hi:i<ds.length:=by
  have:=(yG.mp e).1
  rwa [yj] at this
 refine ⟨⟨hq,by omega⟩,?_⟩
 rintro x H'' ⟨rfl,hx⟩
 rw [List.getElem?_reverse hi] at e; refine ⟨Hi',Ext.refl s2,(paired_get _ r hx ?_).mono s1⟩; rw [hl]; exact e
def zah (t:TA'):TI':=fun Γ Q=>t Γ fun ds Γ1=>∃ es,ds=[.lst es]/\Q es.reverse Γ1
theorem zou {X:Cx} {tg a:Expr} {t:TA'} {p pos:Pos} (hg:Gl X "reversed") (hm:X.mg "reversed"=none) (ha:PA' X [a] t) (hs:starEach [a] X.env=[(false,eval a X.env)]:=by rfl):PI' X tg (.Call (.Name "reversed" p) [a] [] pos) (zah t):=by
 refine ⟨PI.weak (zql hg hm ha.pa hs) ?_⟩
 rintro σ H R ⟨W,Hi,Γ,Q',g,h,fin⟩
 refine ⟨W,Hi,Γ,_,g,h,?_⟩
 rintro vs H1 Hi1 Γ1 ds s1 g1 dl ⟨es,rfl,q⟩
 obtain ⟨v,rfl,den⟩:=zcK dl; obtain ⟨a,us,rfl,h1,h2⟩:=den.lstI; exact ⟨a,us,rfl,zai g1.sub h1,fin _ H1 Hi1 Γ1 _ s1 g1 (zpd h1 h2) q⟩
section
variable {X:Cx}
theorem zoN:Op2 X (binaryOp .Pow) (rI' zri fun i j=>.int (i ^ j.toNat)):=⟨_,zqw,ziA _ fun i j _=>.int _⟩
def zav (t:TE'):TE':=fun Γ Q=>t Γ fun d Γ1=>∃ i:Int,d=.int i/\Q (.int (-i)) Γ1
end
end PL
namespace L2
open PySem PySem.Spec PyProof.Rows
section
variable {X:Cx}
end
end L2
namespace PL
open PySem L2
section
variable {X:Cx}
end
class MGs (t:zli):Prop where
 mono:∀ ds Γ (Q Q':Sts->Prop),(∀ Γ,Q Γ->Q' Γ)->t ds Γ Q->t ds Γ Q'
instance:MGs zaa:=⟨fun _ _ _ _ h ⟨a,q⟩=>⟨a,h _ q⟩⟩
instance {t:TG'} {u:zli} [MG t] [MGs u]:MGs (zx t u):=⟨fun _ _ _ _ h ⟨d,r,e,q⟩=>⟨d,r,e,MG.mono (g:=t) _ _ _ _ (fun _ z=>MGs.mono (t:=u) _ _ _ _ h z) q⟩⟩
instance {n:Nat} {t:zli} [MGs t]:MG (zZ n t):=⟨fun _ _ _ _ h ⟨ds,e,l,q⟩=>⟨ds,e,l,MGs.mono (t:=t) _ _ _ _ h q⟩⟩
end PL
namespace So
open PySem PySem.W PyProof.Rows
def run (lt:Nat->Nat->Bool) {α:Type}:KasT α->α
 | .ret a=>a
 | .ask i j k=>run lt (k (lt i j))
theorem zcX (lt:Nat->Nat->Bool) {α β:Type} (f:α->KasT β):∀ t:KasT α,run lt (t.bind f)=run lt (f (run lt t))
 | .ret _=>rfl
 | .ask i j k=>zcX lt f (k (lt i j))
def g (p:Array Nat) (i:Nat):Nat:=p.getD i 0
theorem g_eq (p:Array Nat) (i:Nat):g p i=(p[i]?).getD 0:=by
 unfold g; simp [Array.getD_eq_getD_getElem?]
theorem zaJ {p:Array Nat} {i j:Nat} (hj:j<=p.size) (k:Nat):g (kas_rev p i j) k=if i<=k/\k<j then g p (i+j-1-k) else g p k:=by
 unfold kas_rev; rw [g_eq,getElem?_mirror_all hj]
 split <;> rw [g_eq]
theorem zmZ {p:Array Nat} {src d:Nat} (hs:src<p.size) (hd:d<=src) (k:Nat):g (bubble p src d) k=if k=src-d then g p src else if src-d<k/\k<=src then g p (k-1) else g p k:=by
 rw [g_eq,getElem?_bubble hs d hd]; split
 ·rw [g_eq]
 ·split <;> rw [g_eq]
structure Ord (lt:Nat->Nat->Bool):Prop where
 asym:∀ a b,lt a b=true->lt b a=false
 tr:∀ a b c,lt b a=false->lt c b=false->lt c a=false
def L (lt:Nat->Nat->Bool) (a b:Nat):Prop:=lt a b=true\/(lt b a=false/\a<b)
section
variable {lt:Nat->Nat->Bool}
theorem L.le (o:Ord lt) {a b:Nat} (h:L lt a b):lt b a=false:=by
 rcases h with h | h
 ·exact o.asym _ _ h
 ·exact h.1
theorem zkF (o:Ord lt) {a b c:Nat} (h:lt a b=true) (k:lt c b=false):lt a c=true:=by
 cases e:lt a c with
 | true=>rfl
 | false=>exact yO (o.tr b c a k e) (by rw [h]; exact fun z=>nomatch z)
theorem zoU (o:Ord lt) {a b c:Nat} (h:lt b a=false) (k:lt b c=true):lt a c=true:=by
 cases e:lt a c with
 | true=>rfl
 | false=>exact yO (o.tr c a b e h) (by rw [k]; exact fun z=>nomatch z)
theorem L.trans (o:Ord lt) {a b c:Nat} (h:L lt a b) (k:L lt b c):L lt a c:=by
 rcases h with h | ⟨h,h'⟩
 ·exact .inl (zkF o h (L.le o k))
 ·rcases k with k | ⟨k,k'⟩
  ·exact .inl (zoU o h k)
  ·exact .inr ⟨o.tr _ _ _ h k,Nat.lt_trans h' k'⟩
end
def Srt (lt:Nat->Nat->Bool) (p:Array Nat) (n:Nat):Prop:=∀ i j,i<j->j<n->L lt (g p i) (g p j)
structure B (p:Array Nat) (N n:Nat):Prop where
 size:p.size=N
 low:∀ k,k<n->g p k<n
 high:∀ k,n<=k->k<N->g p k=k
theorem B.succ {p:Array Nat} {N n:Nat} (b:B p N n) (h:n<N):B p N (n+1) where
 size:=b.size
 low:=fun k hk=>by
  by_cases e:k=n
  ·subst e; rw [b.high k (yF _) h]; omega
  ·have:=b.low k (by omega); omega
 high:=fun k h1 h2=>b.high k (by omega) h2
theorem B.mirror {p:Array Nat} {N n i j:Nat} (b:B p N n) (hj:j<=n) (hn:n<=N):B (kas_rev p i j) N n where
 size:=by rw [kas_rev_size,b.size]
 low:=fun k hk=>by
  rw [zaJ (by rw [b.size]; omega)]
  split
  ·exact b.low _ (by omega)
  ·exact b.low _ hk
 high:=fun k h1 h2=>by
  rw [zaJ (by rw [b.size]; omega),yM (by omega)]
  exact b.high k h1 h2
section
variable {lt:Nat->Nat->Bool} (o:Ord lt)
include o
theorem Srt.succ {p:Array Nat} {N n:Nat} (b:B p N n) (h1:1<=n) (hn:n<N) (s:Srt lt p n) (q:lt (g p n) (g p (n-1))=false):Srt lt p (n+1):=fun i j hij hj=>by
 by_cases e:j=n
 ·subst e
  have l1:L lt (g p (j-1)) (g p j):=.inr ⟨q,by
   rw [b.high j (yF _) hn]
   exact b.low _ (by omega)⟩
  by_cases e2:i=j-1
  ·subst e2; exact l1
  ·exact (s i (j-1) (by omega) (by omega)).trans o l1
 ·exact s i j hij (by omega)
theorem asc {p:Array Nat} {N:Nat}:∀ (f n:Nat),n+f=N->1<=n->B p N n->Srt lt p n->n<=run lt (kas_asc p f n)/\run lt (kas_asc p f n)<=N/\B p N (run lt (kas_asc p f n))/\Srt lt p (run lt (kas_asc p f n)) /\
  (run lt (kas_asc p f n)<N->lt (g p (run lt (kas_asc p f n))) (g p (run lt (kas_asc p f n)-1))=true)
 | 0,n,h,h1,b,s=>⟨yF _,by show n<=N; omega,b,s,fun z=>yO (show n<N from z) (by omega)⟩
 | f+1,n,h,h1,b,s=>by
  have e:run lt (kas_asc p (f+1) n)=run lt (if lt (g p n) (g p (n-1))=true then KasT.ret n else kas_asc p f (n+1)):=rfl
  rw [e]
  cases q:lt (g p n) (g p (n-1)) with
  | true =>
   rw [yR rfl]
   exact ⟨yF _,by show n<=N; omega,b,s,fun _=>q⟩
  | false =>
   rw [yM (by decide)]
   obtain ⟨a1,a2,a3,a4,a5⟩:=asc (N:=N) f (n+1) (by omega) (by omega) (b.succ (by omega)) (Srt.succ o b h1 (by omega) s q)
   exact ⟨by omega,a2,a3,a4,a5⟩
structure De (lt:Nat->Nat->Bool) (p:Array Nat) (N n q:Nat):Prop where
 b:B p N n
 le:n<=N
 q1:q+1<=n
 blk:∀ i j,n-(q+1)<=i->i<j->j<n->L lt (g p i) (g p j)/\lt (g p i) (g p j)=false
 str:∀ i j,i<n-(q+1)->n-(q+1)<=j->j<n->lt (g p j) (g p i)=true
 old:∀ i j,i<j->j<n-(q+1)->L lt (g p j) (g p i)
def Fal (lt:Nat->Nat->Bool) (p:Array Nat) (n:Nat):Prop:=∀ i j,i<j->j<n->L lt (g p j) (g p i)
theorem De.turned {p:Array Nat} {N n q:Nat} (d:De lt p N n q):Fal lt (kas_rev p (n-(q+1)) n) n:=fun i j hij hj=>by
 have hs:n<=p.size:=by rw [d.b.size]; exact d.le
 have hq:=d.q1; rw [zaJ hs,zaJ hs]
 by_cases hi:n-(q+1)<=i
 ·rw [yR ⟨by omega,hj⟩,yR ⟨hi,by omega⟩]
  exact (d.blk _ _ (by omega) (by omega) (by omega)).1
 ·rw [yM (show ¬ (n-(q+1)<=i/\i<n) by omega)]
  by_cases hj2:n-(q+1)<=j
  ·rw [yR ⟨hj2,hj⟩]
   exact .inl (d.str _ _ (by omega) (by omega) (by omega))
  ·rw [yM (show ¬ (n-(q+1)<=j/\j<n) by omega)]
   exact d.old i j hij (by omega)
theorem De.fal0 {p:Array Nat} {N n:Nat} (d:De lt p N n 0):Fal lt p n:=fun i j hij hj=>by
 by_cases e:n-1<=j
 ·exact .inl (d.str i j (by omega) (by omega) hj)
 ·exact d.old i j hij (by omega)
theorem De.next {p:Array Nat} {N n:Nat} (b:B p N n) (hn:n<N) (h1:1<=n) (fa:Fal lt p n) (st:∀ i,i<n->lt (g p n) (g p i)=true):De lt p N (n+1) 0 where
 b:=b.succ hn
 le:=hn
 q1:=by omega
 blk:=fun i j h1 h2 h3=>by omega
 str:=fun i j h1 h2 h3=>by
  have e:j=n:=by omega
  subst e
  exact st i (by omega)
 old:=fun i j h1 h2=>fa i j h1 (by omega)
theorem De.st {p:Array Nat} {N n q:Nat} (d:De lt p N n q) (h:lt (g p n) (g p (n-1))=true):∀ i,i<n->lt (g p n) (g p i)=true:=fun i hi=>by
 have hq:=d.q1
 by_cases e:i=n-1
 ·subst e; exact h
 ·refine zkF o h ?_
  by_cases hb:n-(q+1)<=i
  ·exact (d.blk i (n-1) hb (by omega) (by omega)).2
  ·exact o.asym _ _ (d.str i (n-1) (by omega) (by omega) (by omega))
theorem zq3 {N:Nat}:∀ (f:Nat) (p:Array Nat) (n q:Nat),n+f=N->De lt p N n q->∃ p' n' q',run lt (kas_desc f p n q)=(p',n',q')/\De lt p' N n' q'
 | 0,p,n,q,_,d=>⟨p,n,q,rfl,d⟩
 | f+1,p,n,q,h,d=>by
  have hn:n<N:=by omega
  have hq:=d.q1
  have e:run lt (kas_desc (f+1) p n q)=run lt (if lt (g p n) (g p (n-1))=true then (if q > 0 then kas_desc f (kas_rev p (n-(q+1)) n) (n+1) 0 else kas_desc f p (n+1) 0)
   else KasT.ask (p.getD (n-1) 0) (p.getD n 0) fun c=>if c=true then .ret (p,n,q) else kas_desc f p (n+1) (q+1)):=rfl
  rw [e]
  cases c:lt (g p n) (g p (n-1)) with
  | true =>
   rw [yR rfl]
   by_cases hq0:q > 0
   ·rw [yR hq0]
    refine zq3 f _ (n+1) 0 (by omega) (De.next o (d.b.mirror (yF _) d.le) hn (by omega) (De.turned o d) fun i hi=>?_)
    have hs:n<=p.size:=by rw [d.b.size]; exact d.le
    rw [zaJ hs,zaJ hs,yM (show ¬ (n-(q+1)<=n/\n<n) by omega)]
    split
    ·exact De.st o d c _ (by omega)
    ·exact De.st o d c _ hi
   ·rw [yM hq0]
    have e0:q=0:=by omega
    subst e0
    exact zq3 f _ (n+1) 0 (by omega) (De.next o d.b hn (by omega) (De.fal0 o d) (De.st o d c))
  | false =>
   rw [yM (by decide)]
   have e2:run lt (KasT.ask (p.getD (n-1) 0) (p.getD n 0) fun c=>if c=true then KasT.ret (p,n,q) else kas_desc f p (n+1) (q+1))=run lt (if lt (g p (n-1)) (g p n)=true then KasT.ret (p,n,q) else kas_desc f p (n+1) (q+1)):=rfl
   rw [e2]
   cases c2:lt (g p (n-1)) (g p n) with
   | true=>rw [yR rfl]; exact ⟨p,n,q,rfl,d⟩
   | false =>
    rw [yM (by decide)]
    have hb:n+1-(q+1+1)=n-(q+1):=by omega
    have gn:g p n=n:=d.b.high n (yF _) hn
    refine zq3 f _ (n+1) (q+1) (by omega) ⟨d.b.succ hn,hn,by omega,fun i j h1 h2 h3=>?_,fun i j h1 h2 h3=>?_,fun i j h1 h2=>?_⟩
    ·rw [hb] at h1
     by_cases ej:j=n
     ·subst ej
      have lo:g p i<g p j:=by rw [gn]; exact d.b.low i h2
      by_cases ei:i=j-1
      ·subst ei; exact ⟨.inr ⟨c,lo⟩,c2⟩
      ·obtain ⟨u1,u2⟩:=d.blk i (j-1) h1 (by omega) (by omega)
       exact ⟨.inr ⟨o.tr _ _ _ (L.le o u1) c,lo⟩,o.tr _ _ _ c2 u2⟩
     ·exact d.blk i j h1 h2 (by omega)
    ·rw [hb] at h1 h2
     by_cases ej:j=n
     ·subst ej
      exact zoU o c2 (d.str i (j-1) h1 (by omega) (by omega))
     ·exact d.str i j h1 h2 (by omega)
    ·rw [hb] at h2
     exact d.old i j h1 h2
theorem zpI {p:Array Nat} {N n:Nat} (b:B p N n) (hn:n<=N) (h1:1<=n) (fa:Fal lt p n):∃ m p',run lt (kas_tail3 n N p)=(m,p')/\1<=m/\m<=N/\B p' N m/\Srt lt p' m:=by
 unfold kas_tail3; rw [zcX]
 have hs:n<=p.size:=by rw [b.size]; exact hn
 obtain ⟨a1,a2,a3,a4,_⟩:=asc o (p:=kas_rev p 0 n) (N:=N) (N-n) n (by omega) h1 (b.mirror (yF _) hn) (fun i j hij hj=>by
  rw [zaJ hs,zaJ hs,yR ⟨by omega,by omega⟩,yR ⟨by omega,hj⟩]
  exact fa _ _ (by omega) (by omega))
 exact ⟨_,_,rfl,by omega,a2,a3,a4⟩
theorem ziL {p:Array Nat} {N n:Nat} (hn:n<N) (d:De lt p N (n+1) 0):∃ m p',run lt (kas_descPart n N p)=(m,p')/\1<=m/\m<=N/\B p' N m/\Srt lt p' m:=by
 unfold kas_descPart; rw [zcX]
 obtain ⟨p',n',q',e,d'⟩:=zq3 o (N:=N) (N-(n+1)) p (n+1) 0 (by omega) d
 rw [e]; have hq:=d'.q1
 by_cases h:q' > 0
 ·show ∃ m p'',run lt (if q' > 0 then kas_tail3 n' N (kas_rev p' (n'-(q'+1)) n') else kas_tail3 n' N p')=(m,p'')/\_
  rw [yR h]
  exact zpI o (d'.b.mirror (yF _) d'.le) d'.le (by omega) (De.turned o d')
 ·show ∃ m p'',run lt (if q' > 0 then kas_tail3 n' N (kas_rev p' (n'-(q'+1)) n') else kas_tail3 n' N p')=(m,p'')/\_
  rw [yM h]
  have e0:q'=0:=by omega
  subst e0
  exact zpI o d'.b d'.le (by omega) (De.fal0 o d')
theorem zq6 {p:Array Nat} {N:Nat} (hN:1<=N) (b:B p N 1):∃ m p',run lt (kas_count N p)=(m,p')/\1<=m/\m<=N/\B p' N m/\Srt lt p' m:=by
 unfold kas_count; rw [zcX]
 obtain ⟨a1,a2,a3,a4,a5⟩:=asc o (p:=p) (N:=N) (N-1) 1 (by omega) (yF _) b (fun i j hij hj=>by omega)
 generalize run lt (kas_asc p (N-1) 1)=n at a1 a2 a3 a4 a5 ⊢
 by_cases e:n=N
 ·rw [yR (by rw [e]; exact beq_self_eq_true _)]
  exact ⟨n,p,rfl,a1,a2,a3,a4⟩
 ·have hn:n<N:=by omega
  have hs:n<=p.size:=by rw [a3.size]; exact a2
  rw [yM (by simpa using e)]
  by_cases h1:n > 1
  ·rw [yR h1]
   show ∃ m p',run lt (if lt (g p 0) (g p (n-1))=true then KasT.ret (n,p) else kas_descPart n N (kas_rev p 0 n))=(m,p')/\_
   cases c:lt (g p 0) (g p (n-1)) with
   | true=>rw [yR rfl]; exact ⟨n,p,rfl,a1,a2,a3,a4⟩
   | false =>
    rw [yM (by decide)]
    refine ziL o hn (De.next o (a3.mirror (yF _) a2) hn a1 (fun i j hij hj=>?_) fun i hi=>?_)
    ·rw [zaJ hs,zaJ hs,yR ⟨by omega,hj⟩,yR ⟨by omega,by omega⟩]
     exact a4 _ _ (by omega) (by omega)
    ·rw [zaJ hs,zaJ hs,yM (show ¬ (0<=n/\n<n) by omega),yR ⟨by omega,hi⟩]
     refine zkF o (a5 hn) ?_; generalize hk:0+n-1-i=k
     have hkn:k<n:=by omega
     by_cases k0:k=0
     ·subst k0; exact c
     ·exact o.tr _ _ _ c (L.le o (a4 0 k (by omega) hkn))
  ·rw [yM h1]
   have e1:n=1:=by omega
   subst e1
   exact ziL o hn (De.next o a3 hn (yF _) (fun i j h1 h2=>by omega) fun i hi=>by
    have e0:i=0:=by omega
    subst e0; exact a5 hn)
theorem zmf {p:Array Nat} {k:Nat} (s:Srt lt p k):∀ (f l r:Nat),r-l<=f->l<=r->r<=k->(∀ i,i<l->lt (g p k) (g p i)=false)->(∀ i,r<=i->i<k->lt (g p k) (g p i)=true) ->
  run lt (kas_place p k f l r)<=k/\(∀ i,i<run lt (kas_place p k f l r)->lt (g p k) (g p i)=false)/\∀ i,run lt (kas_place p k f l r)<=i->i<k->lt (g p k) (g p i)=true
 | 0,l,r,h,h1,h2,a,c=>⟨show l<=k by omega,a,fun i (hi:l<=i)=>c i (by omega)⟩
 | f+1,l,r,h,h1,h2,a,c=>by
  have e:run lt (kas_place p k (f+1) l r)=run lt (if l >= r then KasT.ret l else KasT.ask (p.getD k 0) (p.getD ((l+r) / 2) 0) fun c=>if c=true then kas_place p k f l ((l+r) / 2) else kas_place p k f ((l+r) / 2+1) r):=rfl
  rw [e]
  by_cases hlr:l >= r
  ·rw [yR hlr]
   exact ⟨show l<=k by omega,a,fun i (hi:l<=i)=>c i (by omega)⟩
  ·rw [yM hlr]
   show run lt (if lt (g p k) (g p ((l+r) / 2))=true then kas_place p k f l ((l+r) / 2) else kas_place p k f ((l+r) / 2+1) r)<=k/\(∀ i,i<run lt (if lt (g p k) (g p ((l+r) / 2))=true then kas_place p k f l ((l+r) / 2) else kas_place p k f ((l+r) / 2+1) r)->_)/\∀ i,run lt (if lt (g p k) (g p ((l+r) / 2))=true then kas_place p k f l ((l+r) / 2) else kas_place p k f ((l+r) / 2+1) r)<=i->_
   cases q:lt (g p k) (g p ((l+r) / 2)) with
   | true =>
    rw [yR rfl]
    refine zmf s f l _ (by omega) (by omega) (by omega) a fun i hi hk=>?_
    by_cases ei:i=(l+r) / 2
    ·subst ei; exact q
    ·exact zkF o q (L.le o (s _ i (by omega) hk))
   | false =>
    rw [yM (by decide)]
    refine zmf s f _ r (by omega) (by omega) h2 (fun i hi=>?_) c
    by_cases ei:i=(l+r) / 2
    ·subst ei; exact q
    ·exact o.tr _ _ _ (L.le o (s i ((l+r) / 2) (by omega) (by omega))) q
theorem ins {p:Array Nat} {N k l:Nat} (b:B p N k) (hk:k<N) (s:Srt lt p k) (hl:l<=k) (a:∀ i,i<l->lt (g p k) (g p i)=false) (c:∀ i,l<=i->i<k->lt (g p k) (g p i)=true):B (bubble p k (k-l)) N (k+1)/\Srt lt (bubble p k (k-l)) (k+1):=by
 have hs:k<p.size:=by rw [b.size]; exact hk
 have gk:g p k=k:=b.high k (yF _) hk
 have e:∀ i,g (bubble p k (k-l)) i=if i=l then g p k else if l<i/\i<=k then g p (i-1) else g p i:=fun i=>by
  rw [zmZ hs (by omega),show k-(k-l)=l by omega]
 refine ⟨⟨by rw [bubble_size,b.size],fun i hi=>?_,fun i h1 h2=>?_⟩,fun i j hij hj=>?_⟩
 ·rw [e]
  split
  ·omega
  ·split
   ·have:=b.low (i-1) (by omega); omega
   ·have:=b.low i (by omega); omega
 ·rw [e,yM (by omega),yM (by omega)]
  exact b.high i (by omega) h2
 ·rw [e,e]
  have lo:∀ x,x<k->g p x<g p k:=fun x hx=>by rw [gk]; exact b.low x hx
  by_cases h1:i=l
  ·subst h1
   rw [yR rfl,yM (by omega),yR ⟨hij,by omega⟩]
   exact .inl (c _ (by omega) (by omega))
  ·rw [yM h1]
   by_cases h2:j=l
   ·subst h2
    rw [yR rfl,yM (by omega)]
    exact .inr ⟨a i hij,lo i (by omega)⟩
   ·rw [yM h2]
    split <;> split <;> exact s _ _ (by omega) (by omega)
theorem bin {N:Nat}:∀ (f:Nat) (p:Array Nat) (k:Nat),k+f=N->B p N k->Srt lt p k->B (run lt (kas_bin f p k)) N N/\Srt lt (run lt (kas_bin f p k)) N
 | 0,p,k,h,b,s=>by
  have e:k=N:=by omega
  subst e; exact ⟨b,s⟩
 | f+1,p,k,h,b,s=>by
  have e:run lt (kas_bin (f+1) p k)=run lt ((kas_place p k k 0 k).bind fun l=>kas_bin f (bubble p k (k-l)) (k+1)):=rfl
  rw [e,zcX]
  obtain ⟨a1,a2,a3⟩:=zmf o s k 0 k (by omega) (yf _) (yF _) (fun i hi=>yO hi (Nat.not_lt_zero _)) fun i h1 h2=>yO h1 (by omega)
  obtain ⟨b',s'⟩:=ins o b (by omega) s a1 a2 a3
  exact bin f _ (k+1) (by omega) b' s'
theorem sort {N:Nat} (hN:1<=N):B (run lt (kas_sort N)) N N/\Srt lt (run lt (kas_sort N)) N:=by
 unfold kas_sort; rw [zcX]
 have g0:∀ k,k<N->g (List.toArray (List.range N)) k=k:=fun k hk=>by
  rw [g_eq]; simp [hk]
 obtain ⟨m,p',e,h1,h2,b,s⟩:=zq6 o hN (p:=List.toArray (List.range N)) ⟨by simp,fun k hk=>by rw [g0 k (by omega)]; exact hk,fun k h1 h2=>g0 k h2⟩
 rw [e]
 show B (run lt (if m<N then kas_bin (N-max m 1) p' (max m 1) else KasT.ret p')) N N/\Srt lt (run lt (if m<N then kas_bin (N-max m 1) p' (max m 1) else KasT.ret p')) N
 by_cases hm:m<N
 ·rw [yR hm,Nat.max_eq_left h1]
  exact bin o _ _ _ (by omega) b s
 ·rw [yM hm]
  have e:m=N:=by omega
  subst e; exact ⟨b,s⟩
end
def Ok (lt:Nat->Nat->Bool) (N:Nat) {α:Type}:KasT α->Prop
 | .ret _=>True
 | .ask i j k=>i<N/\j<N/\Ok lt N (k (lt i j))
theorem Ok.bind {lt:Nat->Nat->Bool} {N:Nat} {α β:Type} {f:α->KasT β}:∀ {t:KasT α},Ok lt N t->Ok lt N (f (run lt t))->Ok lt N (t.bind f)
 | .ret _,_,h=>h
 | .ask i j k,⟨h1,h2,h3⟩,h=>⟨h1,h2,Ok.bind (t:=k (lt i j)) h3 h⟩
theorem B.lt {p:Array Nat} {N n k:Nat} (b:B p N n) (hn:n<=N) (hk:k<N):g p k<N:=by
 by_cases h:k<n
 ·have:=b.low k h; omega
 ·rw [b.high k (by omega) hk]; exact hk
section
variable {lt:Nat->Nat->Bool} (o:Ord lt)
include o
theorem zkt {p:Array Nat} {N:Nat} {n0:Nat} (b:B p N n0) (h0:n0<=N):∀ (f n:Nat),n+f=N->Ok lt N (kas_asc p f n)
 | 0,_,_=>trivial
 | f+1,n,h=>⟨b.lt h0 (k:=n) (by omega),b.lt h0 (k:=n-1) (by omega),by
  show Ok lt N (if lt (g p n) (g p (n-1))=true then KasT.ret n else kas_asc p f (n+1))
  split
  ·trivial
  ·exact zkt b h0 f (n+1) (by omega)⟩
theorem zf0 {N:Nat}:∀ (f:Nat) (p:Array Nat) (n q:Nat),n+f=N->De lt p N n q->Ok lt N (kas_desc f p n q)
 | 0,_,_,_,_,_=>trivial
 | f+1,p,n,q,h,d=>⟨d.b.lt d.le (k:=n) (by omega),d.b.lt d.le (k:=n-1) (by omega),by
  show Ok lt N (if lt (g p n) (g p (n-1))=true then (if q > 0 then kas_desc f (kas_rev p (n-(q+1)) n) (n+1) 0 else kas_desc f p (n+1) 0)
   else KasT.ask (p.getD (n-1) 0) (p.getD n 0) fun c=>if c=true then .ret (p,n,q) else kas_desc f p (n+1) (q+1))
  have hn:n<N:=by omega
  have hq:=d.q1
  cases c:lt (g p n) (g p (n-1)) with
  | true =>
   rw [yR rfl]
   by_cases hq0:q > 0
   ·rw [yR hq0]
    refine zf0 f _ (n+1) 0 (by omega) (De.next o (d.b.mirror (yF _) d.le) hn (by omega) (De.turned o d) fun i hi=>?_)
    have hs:n<=p.size:=by rw [d.b.size]; exact d.le
    rw [zaJ hs,zaJ hs,yM (show ¬ (n-(q+1)<=n/\n<n) by omega)]
    split
    ·exact De.st o d c _ (by omega)
    ·exact De.st o d c _ hi
   ·rw [yM hq0]
    have e0:q=0:=by omega
    subst e0
    exact zf0 f _ (n+1) 0 (by omega) (De.next o d.b hn (by omega) (De.fal0 o d) (De.st o d c))
  | false =>
   rw [yM (by decide)]
   refine ⟨d.b.lt d.le (k:=n-1) (by omega),d.b.lt d.le (k:=n) (by omega),?_⟩
   show Ok lt N (if lt (g p (n-1)) (g p n)=true then KasT.ret (p,n,q) else kas_desc f p (n+1) (q+1))
   cases c2:lt (g p (n-1)) (g p n) with
   | true=>rw [yR rfl]; trivial
   | false =>
    rw [yM (by decide)]
    have hb:n+1-(q+1+1)=n-(q+1):=by omega
    have gn:g p n=n:=d.b.high n (yF _) hn
    refine zf0 f _ (n+1) (q+1) (by omega) ⟨d.b.succ hn,hn,by omega,fun i j h1 h2 h3=>?_,fun i j h1 h2 h3=>?_,fun i j h1 h2=>?_⟩
    ·rw [hb] at h1
     by_cases ej:j=n
     ·subst ej
      have lo:g p i<g p j:=by rw [gn]; exact d.b.low i h2
      by_cases ei:i=j-1
      ·subst ei; exact ⟨.inr ⟨c,lo⟩,c2⟩
      ·obtain ⟨u1,u2⟩:=d.blk i (j-1) h1 (by omega) (by omega)
       exact ⟨.inr ⟨o.tr _ _ _ (L.le o u1) c,lo⟩,o.tr _ _ _ c2 u2⟩
     ·exact d.blk i j h1 h2 (by omega)
    ·rw [hb] at h1 h2
     by_cases ej:j=n
     ·subst ej
      exact zoU o c2 (d.str i (j-1) h1 (by omega) (by omega))
     ·exact d.str i j h1 h2 (by omega)
    ·rw [hb] at h2
     exact d.old i j h1 h2⟩
theorem ziv {p:Array Nat} {N n:Nat} (b:B p N n) (hn:n<=N):Ok lt N (kas_tail3 n N p):=by
 unfold kas_tail3
 exact Ok.bind (zkt o (b.mirror (yF _) hn) hn _ n (by omega)) trivial
theorem zeI {p:Array Nat} {N n:Nat} (hn:n<N) (d:De lt p N (n+1) 0):Ok lt N (kas_descPart n N p):=by
 unfold kas_descPart
 refine Ok.bind (zf0 o _ p (n+1) 0 (by omega) d) ?_
 obtain ⟨p',n',q',e,d'⟩:=zq3 o (N:=N) (N-(n+1)) p (n+1) 0 (by omega) d
 rw [e]
 show Ok lt N (if q' > 0 then kas_tail3 n' N (kas_rev p' (n'-(q'+1)) n') else kas_tail3 n' N p')
 split
 ·exact ziv o (d'.b.mirror (yF _) d'.le) d'.le
 ·exact ziv o d'.b d'.le
theorem zms {p:Array Nat} {N:Nat} (hN:1<=N) (b:B p N 1):Ok lt N (kas_count N p):=by
 unfold kas_count
 refine Ok.bind (zkt o b hN _ 1 (by omega)) ?_
 obtain ⟨a1,a2,a3,a4,a5⟩:=asc o (p:=p) (N:=N) (N-1) 1 (by omega) (yF _) b (fun i j hij hj=>by omega)
 generalize run lt (kas_asc p (N-1) 1)=n at a1 a2 a3 a4 a5 ⊢
 by_cases e:n=N
 ·rw [yR (by rw [e]; exact beq_self_eq_true _)]
  trivial
 ·have hn:n<N:=by omega
  have hs:n<=p.size:=by rw [a3.size]; exact a2
  rw [yM (by simpa using e)]
  by_cases h1:n > 1
  ·rw [yR h1]
   refine ⟨a3.lt a2 (k:=0) (by omega),a3.lt a2 (k:=n-1) (by omega),?_⟩
   show Ok lt N (if lt (g p 0) (g p (n-1))=true then KasT.ret (n,p) else kas_descPart n N (kas_rev p 0 n))
   cases c:lt (g p 0) (g p (n-1)) with
   | true=>rw [yR rfl]; trivial
   | false =>
    rw [yM (by decide)]
    refine zeI o hn (De.next o (a3.mirror (yF _) a2) hn a1 (fun i j hij hj=>?_) fun i hi=>?_)
    ·rw [zaJ hs,zaJ hs,yR ⟨by omega,hj⟩,yR ⟨by omega,by omega⟩]
     exact a4 _ _ (by omega) (by omega)
    ·rw [zaJ hs,zaJ hs,yM (show ¬ (0<=n/\n<n) by omega),yR ⟨by omega,hi⟩]
     refine zkF o (a5 hn) ?_; generalize hk:0+n-1-i=k
     have hkn:k<n:=by omega
     by_cases k0:k=0
     ·subst k0; exact c
     ·exact o.tr _ _ _ c (L.le o (a4 0 k (by omega) hkn))
  ·rw [yM h1]
   have e1:n=1:=by omega
   subst e1
   exact zeI o hn (De.next o a3 hn (yF _) (fun i j h1 h2=>by omega) fun i hi=>by
    have e0:i=0:=by omega
    subst e0; exact a5 hn)
theorem zfX {p:Array Nat} {N k:Nat} (b:B p N k) (hk:k<N):∀ (f l r:Nat),r<=k->Ok lt N (kas_place p k f l r)
 | 0,_,_,_=>trivial
 | f+1,l,r,h=>by
  show Ok lt N (if l >= r then KasT.ret l else KasT.ask (p.getD k 0) (p.getD ((l+r) / 2) 0) fun c=>if c=true then kas_place p k f l ((l+r) / 2) else kas_place p k f ((l+r) / 2+1) r)
  by_cases hlr:l >= r
  ·rw [yR hlr]; trivial
  ·rw [yM hlr]
   refine ⟨b.lt (by omega) (k:=k) hk,b.lt (by omega) (k:=(l+r) / 2) (by omega),?_⟩
   show Ok lt N (if lt (g p k) (g p ((l+r) / 2))=true then kas_place p k f l ((l+r) / 2) else kas_place p k f ((l+r) / 2+1) r)
   split
   ·exact zfX b hk f _ _ (by omega)
   ·exact zfX b hk f _ _ h
theorem znr {N:Nat}:∀ (f:Nat) (p:Array Nat) (k:Nat),k+f=N->B p N k->Srt lt p k->Ok lt N (kas_bin f p k)
 | 0,_,_,_,_,_=>trivial
 | f+1,p,k,h,b,s=>by
  refine Ok.bind (zfX o b (by omega) k 0 k (yF _)) ?_
  obtain ⟨a1,a2,a3⟩:=zmf o s k 0 k (by omega) (yf _) (yF _) (fun i hi=>yO hi (Nat.not_lt_zero _)) fun i h1 h2=>yO h1 (by omega)
  obtain ⟨b',s'⟩:=ins o b (by omega) s a1 a2 a3
  exact znr f _ (k+1) (by omega) b' s'
theorem ok_sort {N:Nat} (hN:1<=N):Ok lt N (kas_sort N):=by
 unfold kas_sort
 have g0:∀ k,k<N->g (List.toArray (List.range N)) k=k:=fun k hk=>by
  rw [g_eq]; simp [hk]
 have b0:B (List.toArray (List.range N)) N 1:=⟨by simp,fun k hk=>by rw [g0 k (by omega)]; exact hk,fun k h1 h2=>g0 k h2⟩
 refine Ok.bind (zms o hN b0) ?_; obtain ⟨m,p',e,h1,h2,b,s⟩:=zq6 o hN b0; rw [e]
 show Ok lt N (if m<N then kas_bin (N-max m 1) p' (max m 1) else KasT.ret p')
 split
 ·rw [Nat.max_eq_left h1]
  exact znr o _ _ _ (by omega) b s
 ·trivial
end
theorem wp_of {lt:Nat->Nat->Bool} {N:Nat} {J:Shared->Prop} {cmp:Nat->Nat->(Bool->Shared->Prop)->Shared->Prop} (hc:∀ i j C s,i<N->j<N->J s->(∀ s',J s'->C (lt i j) s')->cmp i j C s) {α:Type} {Q:α->Shared->Prop} :
  ∀ (t:KasT α) (s:Shared),Ok lt N t->J s->(∀ s',J s'->Q (run lt t) s')->t.kasWp cmp Q s
 | .ret _,s,_,hj,h=>h s hj
 | .ask i j k,s,⟨h1,h2,h3⟩,hj,h=>hc i j _ s h1 h2 hj fun s' hj'=>wp_of hc (k (lt i j)) s' h3 hj' h
section
variable {prog:Program} {w:World} {A:Around} {E:Value->Shared->Prop} {s:Shared} {a kS:Addr} {vs ks:List Value} {κ:SortKind}
def Fin3 (a kS:Addr) (ks:List Value) (e e1:Nat) (out:List Value) (C:Shared->Prop) (s:Shared):Prop :=
 s.heap.get? kS=some (seqObj "list" ks.toArray e)/\s.heap.get? a=some (seqObj "list" #[] e1) /\
  ∀ h' c c2,(∀ b o,b≠kS->b≠a->s.heap.get? b=some o->h'.get? b=some o)->h'.objs.size=s.heap.objs.size->h'.get? kS=some (seqObj "list" #[] c)->h'.get? a=some (seqObj "list" out.toArray c2)->C { s with heap:=h' }
theorem Fin3.mono {e e1:Nat} {out:List Value} {C C':Shared->Prop} (h:Fin3 a kS ks e e1 out C s) (hc:∀ s,C s->C' s):Fin3 a kS ks e e1 out C' s :=
 ⟨h.1,h.2.1,fun h' c c2 k z x y=>hc _ (h.2.2 h' c c2 k z x y)⟩
theorem zib {st:SortSt} {e e1:Nat} {out:List Value} {P:PySem.Fin->Shared->Prop} (ne:kS≠a) (hout:(arrOf st).map (·.2)=List.toArray out) (hz:out.length<64) (hkz:ks.length<64) (hf:failedOf st=none)
  (h:Fin3 a kS ks e e1 out (fun s'=>P (.done (.ret .none)) s') s):wpAny (model prog w) A (ksk_tail a false e1 (.ref kS) st) P E s:=by
 obtain ⟨hk,ha,k⟩:=h
 have s1:=Heap.SameBut.update s.heap kS (Obj.mapSeq fun _=>(#[]:Array Value))
 obtain ⟨ck,hck⟩:∃ ck,(s.heap.update kS (Obj.mapSeq fun _=>(#[]:Array Value))).get? kS=some (seqObj "list" #[] ck):=⟨_,get?_update_seq hk fun _=>#[]⟩
 have ha1:(s.heap.update kS (Obj.mapSeq fun _=>(#[]:Array Value))).get? a=some (seqObj "list" #[] e1):=(s1.2 a (Ne.symm ne)).trans ha
 have s2:=Heap.SameBut.update (s.heap.update kS (Obj.mapSeq fun _=>(#[]:Array Value))) a (Obj.mapSeq fun _=>List.toArray out)
 obtain ⟨c2,hc2⟩:∃ c2,((s.heap.update kS (Obj.mapSeq fun _=>(#[]:Array Value))).update a (Obj.mapSeq fun _=>List.toArray out)).get? a=some (seqObj "list" (List.toArray out) c2):=⟨_,get?_update_seq ha1 fun _=>List.toArray out⟩
 unfold ksk_tail
 try dsimp only
 rw [hout]
 refine yA (listUpdate_at hk rfl ?_ (by rw [yK,sizeLine_eq]; omega) (yf _))
 refine yA (wpAny_letGo ?_); refine yA (seqEpoch_at ha1 rfl ?_)
 refine yA (listUpdate_at ha1 rfl ?_ (yf _) (by simp only [YL,if_false]; rw [yK,sizeLine_eq]; omega))
 rw [hf]; simp only [bne_self_eq_false,YL,if_false]
 refine yD (k _ ck c2 (fun b o h1 h2 q=>(s2.2 b h2).trans ((s1.2 b h1).trans q)) (by rw [Heap.size_update,Heap.size_update]) ((s2.2 kS ne).trans hck) hc2)
theorem srt_end {e e1:Nat} {P:PySem.Fin->Shared->Prop} (ne:kS≠a) (hl:ks.length=vs.length) (h2:2<=vs.length) (h64:vs.length<64)
  (h:wpAny (model prog w) A (keyKind' (List.toArray ks)) (fun κ s'=>(kas_sort vs.length).kasWp (kas_ask prog w A κ ks) (fun p s''=>Fin3 a kS ks e e1 (p.toList.map fun i=>vs.getD i Value.none) (fun s3=>P (.done (.ret .none)) s3) s'') s') (fun _ _=>False) s) :
  wpAny (model prog w) A (ksk_end a false vs.toArray e1 (.ref kS) (List.toArray ks)) P E s:=by
 have hn2:¬ vs.toArray.size<2:=by rw [yK]; omega
 unfold ksk_end
 try dsimp only
 simp only [YL,if_false]; rw [yM hn2,yM hn2]
 refine yA (Ya h (fun κ s0 hk=>?_) fun _ _ x=>x.elim)
 refine yA (Ya (kat_run (Q:=fun st' s'=>∃ p:Array Nat,p.size=vs.length/\arrOf st'=p.map (kas_item ((List.toArray ks).zip (List.toArray vs)))/\failedOf st'=none /\
   Fin3 a kS ks e e1 (p.toList.map fun i=>vs.getD i Value.none) (fun s3=>P (.done (.ret .none)) s3) s')
  hl h2 h64 (fun p' st' s' a1 a2 a3 a4=>⟨p',a1,a2,a3,a4⟩) hk) ?_ fun _ _ x=>x)
 rintro ⟨⟨⟩,st'⟩ s' ⟨p,hp,har,hf,fin⟩
 try dsimp only
 exact zib ne (kat_snds hl har) (by rw [yE,yw,hp]; exact h64) (by omega) hf fin
theorem srt_end1 {e e1:Nat} {P:PySem.Fin->Shared->Prop} (ne:kS≠a) (hl:ks.length=vs.length) (h2:vs.length<2)
  (h:Fin3 a kS ks e e1 vs (fun s3=>P (.done (.ret .none)) s3) s):wpAny (model prog w) A (ksk_end a false vs.toArray e1 (.ref kS) (List.toArray ks)) P E s:=by
 have hn2:vs.toArray.size<2:=by rw [yK]; omega
 unfold ksk_end
 try dsimp only
 simp only [YL,if_false]; rw [yR hn2,yR hn2]; refine yA (yD ?_); refine yA (m:=StateT.run (pure ()) _) (yD ?_)
 try dsimp only
 refine zib ne ?_ (by omega) (by omega) rfl h
 apply Array.toList_inj.mp
 show (((List.toArray ks).zip (List.toArray vs)).map (·.2)).toList=_
 rw [Array.toList_map,ksk_zip]
 clear h hn2
 cases vs with
 | nil =>
  cases ks with
  | nil=>rfl
  | cons k r=>simp at hl
 | cons v r =>
  cases r with
  | cons v2 r=>exact yO h2 (by simp)
  | nil =>
   cases ks with
   | nil=>simp at hl
   | cons k r =>
    cases r with
    | nil=>rfl
    | cons k2 r=>simp at hl
theorem zic {f:Value} {n:Nat} {body:Value->PUnit->Sem (ForInStep PUnit)} (J:List Value->Nat->Shared->Prop) (hn:n<64) (all:List Value) (hall:all.length=n)
  (hb:∀ x ks e (s:Shared) (C:Value->Nat->Shared->Prop),List.length ks<64->wpAny (model prog w) A (call f [x]) (fun k s'=>s'.heap.get? kS=some (seqObj "list" ks.toArray e)/\∀ c,(s'.heap.update kS (Obj.mapSeq (·.push k))).get? kS=some (seqObj "list" (List.toArray (ks ++ [k])) c)->C k c { s' with heap:=s'.heap.update kS (Obj.mapSeq (·.push k)) }) (fun _ _=>False) s ->
   wpAny (model prog w) A (body x ⟨⟩) (fun r s'=>r=.yield ⟨⟩/\∃ k c,C k c s') E s)
  (step:∀ ks e s x,all[ks.length]?=some x->J ks e s->wpAny (model prog w) A (call f [x]) (fun k s'=>s'.heap.get? kS=some (seqObj "list" ks.toArray e)/\∀ c,(s'.heap.update kS (Obj.mapSeq (·.push k))).get? kS=some (seqObj "list" (List.toArray (ks ++ [k])) c)->J (ks ++ [k]) c { s' with heap:=s'.heap.update kS (Obj.mapSeq (·.push k)) }) (fun _ _=>False) s) :
  ∀ (r ks:List Value) (e:Nat) (s:Shared),all.drop ks.length=r->ks.length<=n->J ks e s ->
   wpAny (model prog w) A (forIn r PUnit.unit body) (fun _ s'=>∃ ks e,ks.length=n/\J ks e s') E s
 | [],ks,e,s,hl,hle,h=>by
  rw [List.forIn_nil]
  have:all.length<=ks.length:=List.drop_eq_nil_iff.mp hl
  exact yD ⟨ks,e,by omega,h⟩
 | x :: r,ks,e,s,hl,hle,h=>by
  rw [List.forIn_cons]
  have hx:all[ks.length]?=some x:=by
   have:=ye (fun l=>l[0]?) hl
   simpa using this
  have hlt:ks.length<n:=by rw [<- hall]; exact (yG.mp hx).1
  refine yA (Ya (hb x ks e s (fun k c s'=>J (ks ++ [k]) c s') (by omega) (step ks e s x hx h)) (fun q s' hq=>?_) fun _ _ x=>x)
  obtain ⟨rfl,k,c,h2⟩:=hq
  show wpAny (model prog w) A (forIn r PUnit.unit body) _ E s'
  refine zic J hn all hall hb step r (ks ++ [k]) c s' ?_ (by rw [yP,YW]; omega) h2
  rw [yP,YW,<- List.drop_drop,hl]; rfl
theorem srt_rest {f:Value} {e1:Nat} {P:PySem.Fin->Shared->Prop} (J:List Value->Nat->Shared->Prop) (h64:vs.length<64) (hJ:∀ ks e s,J ks e s->s.heap.get? kS=some (seqObj "list" ks.toArray e))
  (step:∀ ks e s x,vs[ks.length]?=some x->J ks e s->wpAny (model prog w) A (call f [x]) (fun k s'=>s'.heap.get? kS=some (seqObj "list" ks.toArray e)/\∀ c,(s'.heap.update kS (Obj.mapSeq (·.push k))).get? kS=some (seqObj "list" (List.toArray (ks ++ [k])) c)->J (ks ++ [k]) c { s' with heap:=s'.heap.update kS (Obj.mapSeq (·.push k)) }) (fun _ _=>False) s)
  (fin:∀ ks e s,ks.length=vs.length->J ks e s->wpAny (model prog w) A (ksk_end a false vs.toArray e1 (.ref kS) (List.toArray ks)) P E s) (h0:J [] 0 s) :
  wpAny (model prog w) A (ksk_rest a f false vs.toArray e1 (.ref kS)) P E s:=by
 unfold ksk_rest; refine yA (wpAny_rule ?_)
 first
  | rw [List.forIn_toArray]
  | (rw [<- Array.forIn_toList]; simp only [List.toList_toArray])
  | rw [<- Array.forIn_toList]
 refine yA (Ya (zic (f:=f) (kS:=kS) J h64 vs rfl (fun x ks e s' C hz hx=>?_) step vs [] 0 s rfl (yf _) h0) (fun _ s' hd=>?_) fun _ _ x=>x)
 ·refine yA (YT (Ya hx (fun k s'' hk=>?_) fun _ _ hF=>hF.elim))
  obtain ⟨nk,c⟩:=hk
  have ea:(List.toArray ks).push k=List.toArray (ks ++ [k]):=by simp
  obtain ⟨c2,hc2⟩:∃ c2,(s''.heap.update kS (Obj.mapSeq (·.push k))).get? kS=some (seqObj "list" (List.toArray (ks ++ [k])) c2):=⟨_,by rw [<- ea]; exact get?_update_seq nk (·.push k)⟩
  try dsimp only
  refine yA (listUpdate_at nk rfl ?_ (by rw [yK,sizeLine_eq]; omega) (yr (Nat.le_of_eq (Array.size_push ..)) (by rw [yK,sizeLine_eq]; omega)))
  exact yD ⟨rfl,k,c2,c c2 hc2⟩
 ·obtain ⟨ks,e,hl,fj⟩:=hd
  try dsimp only
  refine yA (listItems_at (hJ _ _ _ fj) rfl ?_); exact fin ks e s' hl fj
theorem srt_tree {f:Value} {n:Nat} {P:PySem.Fin->Shared->Prop} (ho:s.heap.get? a=some (seqObj "list" vs.toArray n)) (h64:vs.length<64)
  (h:∀ e1 h',(∀ b o,b≠a->s.heap.get? b=some o->h'.get? b=some o)->h'.objs.size=s.heap.objs.size+2->h'.get? (s.heap.objs.size+1)=some (seqObj "list" #[] 0)->h'.get? a=some (seqObj "list" #[] e1) ->
   wpAny (model prog w) A (ksk_rest a f false vs.toArray e1 (.ref (s.heap.objs.size+1))) P E { s with heap:=h' }) :
  wpAny (model prog w) A (ksk_tree a f false) P E s:=by
 have ha:a<s.heap.objs.size:=yQ ho
 have s1:=Heap.SameBut.update s.heap a (Obj.mapSeq fun _=>(#[]:Array Value))
 obtain ⟨e1,ho1⟩:∃ e1,(s.heap.update a (Obj.mapSeq fun _=>(#[]:Array Value))).get? a=some (seqObj "list" #[] e1):=⟨_,get?_update_seq ho fun _=>#[]⟩
 have hkS:((s.heap.update a (Obj.mapSeq fun _=>(#[]:Array Value))).push (seqObj "tuple" vs.toArray 0)).objs.size=s.heap.objs.size+1:=by rw [size_push',Heap.size_update]
 unfold ksk_tree; refine yA (listItems_at ho rfl ?_)
 refine yA (listUpdate_at ho rfl ?_ (by rw [yK,sizeLine_eq]; omega) (yf _))
 refine yA (seqEpoch_at ho1 rfl ?_)
 refine yA (wpAny_newTuple ?_ (by show vs.length<=_; rw [sizeLine_eq]; omega))
 refine yA (wpAny_newList ?_ (yf _)); refine YS ?_
 have h':=h e1 (((s.heap.update a (Obj.mapSeq fun _=>(#[]:Array Value))).push (seqObj "tuple" vs.toArray 0)).push (seqObj "list" #[] 0)) (fun b o hb q=>yC _ (yC _ ((s1.2 b hb).trans q)))
  (by rw [size_push',hkS]) (by rw [<- hkS]; exact yI _ rfl) (yC _ (yC _ ho1))
 rw [<- hkS] at h'; exact h'
end
end So
namespace L2
open PySem PySem.Spec PyProof.Rows PySem.W
section
variable {X:Cx} {pins:List (Addr × Obj)} {σ:St} {H:Hp} {s:Shared} {h':Heap}
theorem Inv.turnedOwn {t':Nat} {ch:List Addr} {p:Addr} {o:HO} (I:Inv X pins σ H s) (hch:∀ b ∈ ch,zge X pins H b) (hp:p ∈ ch) (k:∀ b u,b ∉ ch->s.heap.get? b=some u->h'.get? b=some u) (new:zbN X.prog X.w (upd H p o) h' p o) :
  Inv X pins σ (upd H p o) { s with heap:=h',toks:=t' }:=by
 have fr:H p=none:=(hch p hp).1
 have sm:∀ b u,H b=some u->upd H p o b=some u:=fun b u e=>by rw [zN (zaQ e fr)]; exact e
 have nch:∀ b u,H b=some u->b ∉ ch:=fun b u e z=>by rw [(hch b z).1] at e; cases e
 refine I.step (g':=s.gens) (d':=s.drawn) (ch:=ch) (fun b hb=>?_) (fun b u _ _ hc e _=>k b u hc e) (fun b u _ _ hc e _=>⟨u.slots,k b u hc e⟩) (fun b u hc e n=>?_) (fun b u hc e=>⟨u,k b u hc e⟩) (fun b xs e=>sm _ _ e) (fun b ob u e=>sm _ _ e) (fun b ps e=>⟨#[],by rw [sm _ _ e]; simp⟩) (fun m hm=>?_) (fun b u e=>?_) I.bare
 ·obtain ⟨_,y1,_,y3,y4,y5⟩:=hch b hb
  exact ⟨y3,y1,y4,y5⟩
 ·rw [zN (fun z=>hc (by rw [z]; exact hp))]
  exact n
 ·obtain ⟨ob,es,ep,ho,r⟩:=hm
  exact ⟨ob,es,ep,k _ ob (fun z=>(hch _ z).2.1 rfl) ho,r⟩
 ·by_cases z:b=p
  ·subst z
   rw [zu] at e; cases e; exact new
  ·rw [zN z] at e
   refine (I.hok b u e).stay (fun c v hc q=>k c v ?_ q) (fun c q=>sm _ _ q) fun c xs q=>sm _ _ q
   rcases hc with rfl | hc
   ·exact nch _ u e
   ·exact nch c _ hc
theorem zob {A':Around} {k:Nat} {f:Addr} {fd:FuncData} {ps:List Str} {sp:Sp} {Q:VK} {us:List Value} {vs:List V} (F:FnOk X.prog X.w X.K X.mg X.base CX0 k f fd ps sp) (hr:Room k A') (hA:Env0 X.prog X.w X.K X.mg X.base A' X.stack s H) (hb:zeZ X.K fd ps [])
  (I:Inv X pins σ H s) (r:zaL vs us) (h:sp vs H Q E0):wpAny (model X.prog X.w) A' (call (.ref f) us) (EP X pins σ Q) (fun _ _=>False) s:=by
 have hl:(us ++ []).length=ps.length:=by rw [YJ,<- r.length]; exact F.len _ _ _ _ h
 have hb':=hb s us I.kIn hl; rw [YJ] at hb'
 refine wpAny_call (codeAny_mono (F.run A' X.stack s H ⟨us,[]⟩ us vs Q E0 hr hA hb' r h) fun r s' hq=>?_)
 cases r with
 | error e=>exact hq.elim
 | ok fl =>
  cases fl with
  | ret u=>exact I.after hq
  | next=>exact False.elim hq
  | brk=>exact False.elim hq
  | cont=>exact False.elim hq
def zpD (sp:Sp) (Fin:List V->Hp->Prop):List V->List V->Hp->Prop
 | [],ks,H=>Fin ks H
 | v :: r,ks,H=>sp [v] H (fun k H'=>zpD sp Fin r (ks ++ [k]) H') E0
def zjB (X:Cx) (ks:List V) (H:Hp) (lt:Nat->Nat->Bool):Prop:=∀ (A':Around) (pins:List (Addr × Obj)) (σ:St) (s:Shared) (kss:List Value),Inv X pins σ H s->zaL ks kss->2<=ks.length ->
 wpAny (model X.prog X.w) A' (keyKind' kss.toArray) (fun κ s'=>Inv X pins σ H s'/\∀ (i j:Nat) (C:Bool->Shared->Prop) s'',i<ks.length->j<ks.length->Inv X pins σ H s''->(∀ s3,Inv X pins σ H s3->C (lt i j) s3)->kas_ask X.prog X.w A' κ kss i j C s'') (fun _ _=>False) s
def zd3 (lt:Nat->Nat->Bool) (xs:List V):List V:=if xs.length<2 then xs else (So.run lt (kas_sort xs.length)).toList.map fun i=>xs.getD i .non
theorem zgS {xs:List V} {us:List Value} (r:zaL xs us) (i:Nat) (hi:i<xs.length):za8 (xs.getD i .non) (us.getD i Value.none):=by
 have hl:=r.length; obtain ⟨u,hu,ru⟩:=r.get (yB hi); simp only [List.getD,yB hi,Option.getD_some]; rw [hu]; exact ru
theorem zh6 {xs:List V} {us:List Value} (r:zaL xs us):∀ (l:List Nat),(∀ i,i ∈ l->i<xs.length)->zaL (l.map fun i=>xs.getD i .non) (l.map fun i=>us.getD i Value.none)
 | [],_=>.nil
 | i :: l,h=>.cons (zgS r i (h i (by simp))) (zh6 r l fun j hj=>h j (by simp [hj]))
theorem zfE {lt:Nat->Nat->Bool} (o:So.Ord lt) {n:Nat} (hn:1<=n):((So.run lt (kas_sort n)).toList.length=n)/\∀ i,i ∈ (So.run lt (kas_sort n)).toList->i<n:=by
 obtain ⟨b,_⟩:=So.sort o hn
 refine ⟨by rw [yw]; exact b.size,fun i hi=>?_⟩
 obtain ⟨k,hk,e⟩:=List.getElem_of_mem hi
 have hk':k<(So.run lt (kas_sort n)).size:=by simpa using hk
 have:=b.low k (by rw [b.size] at hk'; exact hk')
 rw [So.g_eq] at this; simp only [Array.getElem_toList] at e; rw [yi hk',e] at this; exact this
theorem zg6 {f:Addr} {sp:Sp} {l:Addr} {xs:List V} {Q:VK} {E':Value->Shared->Prop}
  (hrun:∀ (pins':List (Addr × Obj)) (H':Hp) (s':Shared) (x:V) (u:Value) (Q':VK),Inv X pins' σ H' s'->za8 x u->sp [x] H' Q' E0->wpAny (model X.prog X.w) X.A.in1.in1 (call (.ref f) [u]) (EP X pins' σ Q') (fun _ _=>False) s')
  (I:Inv X pins σ H s) (hl:SqL X.K H l xs) (h64:xs.length<64)
  (h:zpD sp (fun ks H'=>∃ lt,So.Ord lt/\zjB X ks H' lt/\∀ p,H' p=none->Q (.ref p) (upd H' p (.lst (zd3 lt xs)))) xs [] H) :
  wpAny (model X.prog X.w) X.A (call (.builtin "sorted") [.ref l] [(Str.ofString "key",.ref f)]) (EP X pins σ Q) E' s:=by
 obtain ⟨vs,rv,pl,hz⟩:=I.list hl; have hlen:=rv.length
 have h64':vs.length<64:=by omega
 refine call_function_entry_kw kind_sorted plain_sorted entry_sorted (ksk_s1 _ _) ?_
 unfold Builtin.«sorted»
 refine yA (m:=checkCount "sorted" 1 1 _) (yD ?_)
 refine yA (collect_list (zc0 pl) ?_ (by rw [sizeLine_eq]; omega))
 refine yA (wpAny_newList ?_ (by rw [sizeLine_eq]; omega))
 have hsz:((s.heap.push (seqObj "list" #[] 0)).update s.heap.objs.size (Obj.mapSeq (· ++ vs.toArray))).objs.size=s.heap.objs.size+1:=by
  rw [Heap.size_update,size_push']
 have hoL:(((s.heap.push (seqObj "list" #[] 0)).update s.heap.objs.size (Obj.mapSeq (· ++ vs.toArray))).push (seqObj "list" vs.toArray 0)).get? (s.heap.objs.size+1)=some (seqObj "list" vs.toArray 0):=by
  rw [<- hsz]; exact yI _ rfl
 have hsz2:(((s.heap.push (seqObj "list" #[] 0)).update s.heap.objs.size (Obj.mapSeq (· ++ vs.toArray))).push (seqObj "list" vs.toArray 0)).objs.size=s.heap.objs.size+2:=by rw [size_push',hsz]
 have keep:∀ b o,s.heap.get? b=some o->(((s.heap.push (seqObj "list" #[] 0)).update s.heap.objs.size (Obj.mapSeq (· ++ vs.toArray))).push (seqObj "list" vs.toArray 0)).get? b=some o:=fun b o q=>by
  have hlt:b<s.heap.objs.size:=yQ q
  rw [Heap.get?_push_ne _ _ _ (by rw [hsz]; exact ya (Nat.lt_succ_of_lt hlt)),Heap.get?_update_ne _ _ _ _ (ya hlt),Heap.get?_push_ne _ _ _ (ya hlt)]
  exact q
 show wpAny _ _ _ _ _ { s with heap:=((s.heap.push (seqObj "list" #[] 0)).update s.heap.objs.size (Obj.mapSeq (· ++ vs.toArray))).push (seqObj "list" vs.toArray 0) }
 rw [hsz]; refine yA (YS (wpAny_call_entry_kw slot_list_sort ⟨_,hoL,rfl⟩ entry_list_sort ?body (ksk_l1 _ _)))
 case body =>
  show wpAny (model X.prog X.w) X.A.in1.in1 (Builtin.«list.sort» ⟨[.ref (s.heap.objs.size+1)],[(Str.ofString "key",.ref f)]⟩) _ _ _
  rw [ksk_t1]
  refine So.srt_tree (s:={ s with heap:=((s.heap.push (seqObj "list" #[] 0)).update s.heap.objs.size (Obj.mapSeq (· ++ vs.toArray))).push (seqObj "list" vs.toArray 0) }) hoL h64' fun e1 h' keep' size' hk0 ha0=>?_
  dsimp only at keep' size' hk0
  rw [hsz2] at size' hk0
  have hDk:s.heap.objs.size+2+1≠s.heap.objs.size+1:=by omega
  have hD0:s.heap.objs.size<=s.heap.objs.size+1:=by omega
  have hK0:s.heap.objs.size<=s.heap.objs.size+2+1:=by omega
  have fD:=I.fpOk (H':=H) hD0 (I.hok.fresh hD0); have fK:=I.fpOk (H':=H) hK0 (I.hok.fresh hK0); rw [hsz2]; generalize hkS:s.heap.objs.size+2+1=kS at hk0 hDk fK; generalize hDD:s.heap.objs.size+1=D at ha0 hDk fD
  have I0:Inv X pins σ H { s with heap:=h' }:=I.kept (t':=s.toks) fun b u q=>keep' b u (fun z=>yO (yQ q) (by rw [z]; exact Nat.not_lt.mpr (Nat.le_succ _))) (keep b u q)
  have pin2:∀ {H':Hp} {s':Shared} {ks:List Value} {e:Nat},Inv X pins σ H' s'->s'.heap.get? kS=some (seqObj "list" ks.toArray e)->s'.heap.get? D=some (seqObj "list" #[] e1)->H' kS=none->H' D=none->Inv X ((kS,seqObj "list" ks.toArray e) :: (D,seqObj "list" #[] e1) :: pins) σ H' s':=fun I' g1 g2 n1 n2 =>
   I'.pins_of fun p hp=>by
    rcases yN.mp hp with rfl | hp
    ·exact ⟨g1,n1,fK.2.1,fK.2.2.1,fun v z=>by cases z⟩
    ·rcases yN.mp hp with rfl | hp
     ·exact ⟨g2,n2,fD.2.1,fD.2.2.1,fun v z=>by cases z⟩
     ·exact I'.pin p (yb _ hp)
  have unpin:∀ {H':Hp} {s':Shared} {ks:List Value} {e:Nat},Inv X ((kS,seqObj "list" ks.toArray e) :: (D,seqObj "list" #[] e1) :: pins) σ H' s'->Inv X pins σ H' s'/\(s'.heap.get? kS=some (seqObj "list" ks.toArray e)/\H' kS=none)/\(s'.heap.get? D=some (seqObj "list" #[] e1)/\H' D=none):=fun I'=>by
   have p1:=I'.pin (kS,_) (yb _ (.head _)); have p2:=I'.pin (D,_) (yb _ (.tail _ (.head _)))
   exact ⟨I'.pins_of fun p hp=>I'.pin p (yb _ (.tail _ (.tail _ hp))),⟨p1.1,p1.2.1⟩,⟨p2.1,p2.2.1⟩⟩
  have fin3:∀ {H':Hp} {s':Shared} {ks:List Value} {e:Nat} {ys:List V} {out:List Value},Inv X ((kS,seqObj "list" ks.toArray e) :: (D,seqObj "list" #[] e1) :: pins) σ H' s'->zaL ys out->ys.length<64->(∀ p,H' p=none->Q (.ref p) (upd H' p (.lst ys)))->So.Fin3 D kS ks e e1 out (EP X pins σ Q (.ref D)) s':=fun {H' s' ks e ys out} I' r hy hq=>by
   obtain ⟨I2,⟨g1,n1⟩,⟨g2,n2⟩⟩:=unpin I'
   refine ⟨g1,g2,fun h2 c c2 kp sz q1 q2=>⟨.ref D,upd H' D (.lst ys),?_,rfl,hq D n2⟩⟩
   refine I2.turnedOwn (t':=s'.toks) (ch:=[kS,D]) (fun b hb=>?_) (by simp) (fun b u hb e=>kp b u (fun z=>hb (by simp [z])) (fun z=>hb (by simp [z])) e) ⟨by rw [sizeLine_eq]; omega,out,c2,r,q2⟩
   simp at hb
   rcases hb with rfl | rfl
   ·exact ⟨n1,fK.2⟩
   ·exact ⟨n2,fD.2⟩
  refine So.srt_rest (J:=fun ks e s'=>∃ (kv:List V) (H':Hp),zaL kv ks/\Inv X ((kS,seqObj "list" ks.toArray e) :: (D,seqObj "list" #[] e1) :: pins) σ H' s'/\zpD sp (fun ks H'=>∃ lt,So.Ord lt/\zjB X ks H' lt/\∀ p,H' p=none->Q (.ref p) (upd H' p (.lst (zd3 lt xs)))) (xs.drop ks.length) kv H') h64' ?_ ?_ ?_ ?_
  ·rintro ks e s' ⟨kv,H',_,I',_⟩
   exact (unpin I').2.1.1
  ·rintro ks e s' x hx ⟨kv,H',rk,I',hk⟩
   have hlt:ks.length<xs.length:=by rw [hlen]; exact (yG.mp hx).1
   obtain ⟨x',hx',rx⟩:=rv.get (yB hlt); rw [hx] at hx'; cases hx'; rw [YK hlt] at hk
   refine Ya (hrun _ _ _ _ _ _ I' rx hk) (fun kk s3 he=>?_) fun _ _ z=>z
   obtain ⟨v,H3,I3,r3,hk3⟩:=he
   obtain ⟨I4,⟨g1,n1⟩,⟨g2,n2⟩⟩:=unpin I3
   refine ⟨g1,fun c hc=>⟨kv ++ [v],H3,rk.append (.cons r3 .nil),?_,?_⟩⟩
   ·have sb:=Heap.SameBut.update s3.heap kS (Obj.mapSeq (·.push kk))
    have I5:Inv X pins σ H3 { s3 with heap:=s3.heap.update kS (Obj.mapSeq (·.push kk)) }:=I4.turned (t':=s3.toks) (it:=kS) (fun b o hb e=>(sb.2 b hb).trans e) n1 fK.2.1 fK.2.2.2.1 fK.2.2.2.2.1 fK.2.2.2.2.2
    exact pin2 I5 hc ((sb.2 D (fun z=>hDk z.symm)).trans g2) n1 n2
   ·rw [yP,YW]
    exact hk3
  ·rintro ks e s' hkl ⟨kv,H',rk,I',hk⟩
   have hkl2:kv.length=xs.length:=by rw [rk.length,hkl,hlen]
   rw [show xs.drop ks.length=[] from YQ (by omega)] at hk
   obtain ⟨lt,od,cmp,hq⟩:=hk
   by_cases hn:vs.length<2
   ·refine So.srt_end1 hDk hkl hn ((fin3 (ys:=zd3 lt xs) I' ?_ ?_ hq).mono fun s4 hq=>⟨_,rfl,yD ⟨_,rfl,hq⟩⟩)
    ·unfold zd3
     rw [yR (by omega)]
     exact rv
    ·unfold zd3
     rw [yR (by omega)]
     exact h64
   ·have hN:1<=vs.length:=by omega
    have hsm:=zfE od hN
    refine So.srt_end (e:=e) hDk hkl (by omega) h64' (Ya (cmp X.A.in1.in1 _ σ s' ks I' rk (by omega)) (fun κ s3 hc=>?_) fun _ _ z=>z)
    obtain ⟨I3,hc⟩:=hc
    refine So.wp_of (lt:=lt) (N:=vs.length) (J:=fun s=>Inv X ((kS,seqObj "list" ks.toArray e) :: (D,seqObj "list" #[] e1) :: pins) σ H' s) (fun i j C s4 hi hj I4 hC=>hc i j C s4 (by omega) (by omega) I4 hC) (kas_sort vs.length) s3 (So.ok_sort od hN) I3 fun s4 I4=>?_
    refine (fin3 (ys:=zd3 lt xs) I4 ?_ ?_ hq).mono fun s4 hq=>⟨_,rfl,yD ⟨_,rfl,hq⟩⟩
    ·unfold zd3
     rw [yM (by omega),hlen]
     exact zh6 rv _ fun i hi=>by rw [hlen]; exact hsm.2 i hi
    ·unfold zd3
     rw [yM (by omega),yE,hlen,hsm.1]
     exact h64'
  ·exact ⟨[],H,.nil,pin2 I0 hk0 ha0 fK.1 fD.1,h⟩
theorem zg7 {k:Nat} {f:Addr} {fd:FuncData} {ps:List Str} {sp:Sp} {l:Addr} {xs:List V} {Q:VK} {E':Value->Shared->Prop} (F:FnOk X.prog X.w X.K X.mg X.base CX0 k f fd ps sp) (hr:Room (k+2) X.A) (hb:zeZ X.K fd ps []) (I:Inv X pins σ H s) (hl:SqL X.K H l xs) (h64:xs.length<64)
  (h:zpD sp (fun ks H'=>∃ lt,So.Ord lt/\zjB X ks H' lt/\∀ p,H' p=none->Q (.ref p) (upd H' p (.lst (zd3 lt xs)))) xs [] H) :
  wpAny (model X.prog X.w) X.A (call (.builtin "sorted") [.ref l] [(Str.ofString "key",.ref f)]) (EP X pins σ Q) E' s :=
 zg6 (fun _ _ _ _ _ _ I' rx hk=>zob F hr.in1.in1 I'.env0.in1.in1 hb I' (.cons rx .nil) hk) I hl h64 h
end
section
variable {X:Cx}
def ltI (is:List Int):Nat->Nat->Bool:=fun i j=>decide (is.getD i 0<is.getD j 0)
theorem zso (is:List Int):So.Ord (ltI is):=⟨fun a b h=>by
  unfold ltI at h ⊢
  simp at h ⊢
  omega,fun a b c h1 h2=>by
  unfold ltI at h1 h2 ⊢
  simp at h1 h2 ⊢
  omega⟩
theorem ziE:∀ {is:List Int} {us:List Value},zaL (is.map V.int) us->IntsAre us is
 | [],_,.nil=>.nil
 | i :: is,_,.cons r t=>by
  obtain ⟨tk,rfl⟩:=r; exact .cons i tk (ziE t)
theorem zsS (is:List Int) {H:Hp}:zjB X (is.map V.int) H (ltI is):=by
 intro A' pins σ s kss I r h2; rw [yE] at h2; have hi:=ziE r
 have hl:kss.length=is.length:=by have:=r.length; simpa using this.symm
 rw [ksk_kind (keys:=kss.toArray) (kz:=is) (by simpa using hi) (by rw [yK]; omega)]
 refine yD ⟨I,fun i j C s'' h1 h2 I2 hC=>?_⟩
 rw [yE] at h1 h2; unfold kas_ask
 have g:∀ i,i<is.length->∃ t,kss.getD i Value.none=.int (is.getD i 0) t:=fun i h=>by
  have:=zgS r i (by rw [yE]; exact h)
  rw [show (is.map V.int).getD i .non=V.int (is.getD i 0) by simp [List.getD,yJ,yB h]] at this
  exact this
 obtain ⟨t1,e1⟩:=g i h1; obtain ⟨t2,e2⟩:=g j h2; rw [e1,e2]; exact kat_lt_int (hC _ I2)
def ltP (ps:List (Int × List Nat)):Nat->Nat->Bool:=fun i j=>decide ((ps.getD i (0,[])).1<(ps.getD j (0,[])).1\/((ps.getD i (0,[])).1=(ps.getD j (0,[])).1/\(ps.getD i (0,[])).2<(ps.getD j (0,[])).2))
theorem zhA (ps:List (Int × List Nat)):So.Ord (ltP ps):=⟨fun a b h=>by
  unfold ltP at h ⊢
  simp only [ym,decide_eq_false_iff_not] at h ⊢; generalize ps.getD a (0,[])=x at h ⊢; generalize ps.getD b (0,[])=y at h ⊢
  rintro (h' | ⟨h',h''⟩)
  ·rcases h with h | ⟨h,_⟩ <;> omega
  ·rcases h with h | ⟨_,h⟩
   ·omega
   ·exact List.lt_irrefl _ (List.lt_trans h h''),fun a b c h1 h2=>by
  unfold ltP at h1 h2 ⊢
  simp only [decide_eq_false_iff_not,not_or,not_and] at h1 h2 ⊢; generalize ps.getD a (0,[])=x at h1 h2 ⊢; generalize ps.getD b (0,[])=y at h1 h2 ⊢; generalize ps.getD c (0,[])=z at h1 h2 ⊢
  refine ⟨by omega,fun e=>?_⟩
  have e1:y.1=x.1:=by omega
  have e2:z.1=y.1:=by omega
  have q1:=h1.2 e1; have q2:=h2.2 e2; intro q; rw [List.not_lt] at q1 q2; exact yO q (List.not_lt.mpr (List.le_trans q1 q2))⟩
def zpE (H:Hp):List Addr->List (Int × List Nat)->Prop:=Paired fun a p=>H a=some (.tup [.int p.1,.str (st p.2)])
theorem zhS {s:Shared} {pins:List (Addr × Obj)} {σ:St} {H:Hp} (I:Inv X pins σ H s) {a:Addr} {p:Int × List Nat} (h:H a=some (.tup [.int p.1,.str (st p.2)])) :
  ∃ o n t1 t2,s.heap.get? a=some o/\o.cls=.type "tuple"/\o.data=.seq (List.toArray [Value.int p.1 t1,Value.str (st p.2) t2]) n:=by
 obtain ⟨its,r,⟨o,e,c,n,d⟩,_⟩:=I.tuple (SqT.of h)
 obtain ⟨u,w',rfl,r1,r2⟩:=znU r; obtain ⟨t1,rfl⟩:=r1; obtain ⟨t2,rfl⟩:=r2; exact ⟨o,n,t1,t2,e,c,d⟩
theorem zqQ {s:Shared} {pins:List (Addr × Obj)} {σ:St} {H:Hp} (I:Inv X pins σ H s):∀ {as:List Addr} {ps:List (Int × List Nat)},zpE H as ps->∃ fs:List Value,fs.length=as.length/\KatTups s.heap (as.map Value.ref) fs/\∀ v,v ∈ fs->∃ i t,v=Value.int i t
 | [],[],_=>⟨[],rfl,trivial,fun _ z=>by simp at z⟩
 | a :: as,p :: ps,.cons h t=>by
  obtain ⟨fs,hl,kt,hf⟩:=zqQ I t; obtain ⟨o,n,t1,t2,e,c,d⟩:=zhS I h
  refine ⟨.int p.1 t1 :: fs,by simp [hl],KatTups.cons e c d rfl kt,fun v hv=>?_⟩
  rcases yN.mp hv with rfl | hv
  ·exact ⟨_,_,rfl⟩
  ·exact hf v hv
theorem zim:∀ {as:List Addr} {us:List Value},zaL (as.map V.ref) us->us=as.map Value.ref
 | [],_,.nil=>rfl
 | a :: as,_,.cons r t=>by rw [zim t]; cases r; rfl
theorem zf4 {H:Hp}:∀ {as:List Addr} {ps:List (Int × List Nat)} (i:Nat),zpE H as ps->i<as.length->H (as.getD i 0)=some (.tup [.int (ps.getD i (0,[])).1,.str (st (ps.getD i (0,[])).2)])
 | _ :: _,_ :: _,0,.cons h _,_=>h
 | _ :: _,_ :: _,i+1,.cons _ t,hi=>by
  have:=zf4 i t (by simpa using hi)
  simpa using this
theorem zsR {H:Hp} {as:List Addr} {ps:List (Int × List Nat)} (k:zpE H as ps):zjB X (as.map V.ref) H (ltP ps):=by
 intro A' pins σ s kss I r h2; rw [yE] at h2; have e:=zim r; subst e; obtain ⟨fs,hl,kt,hf⟩:=zqQ I k
 refine kat_kind (T:=.type "int") kt (by omega) (fun v hv=>?_) rfl ⟨I,fun i j C s'' h1 h2 I2 hC=>?_⟩
 ·obtain ⟨i,t,rfl⟩:=hf v hv
  exact Looks.of_pure rfl
 ·rw [yE] at h1 h2
  unfold kas_ask
  have g:∀ i,i<as.length->(as.map Value.ref).getD i Value.none=.ref (as.getD i 0):=fun i h=>by simp [List.getD,yJ,yB h]
  rw [g i h1,g j h2]; obtain ⟨o,n,t1,t2,e1,c1,d1⟩:=zhS I2 (zf4 i k h1); obtain ⟨o',n',t1',t2',e1',c1',d1'⟩:=zhS I2 (zf4 j k h2); unfold ltP at hC; generalize ps.getD i (0,[])=p at *; generalize ps.getD j (0,[])=q at *; refine kat_lt e1 d1 e1' d1' ?_; refine kat_cons (wpAny_eqBool_int ?_)
  refine kat_go (fun he=>kat_yes (kat_cons (wpAny_eqBool_str (kat_go (fun he2=>kat_yes (kat_nil ?_)) fun he2=>kat_no ?_)))) fun he=>kat_no ?_
  ·have e1:p.1=q.1:=by simpa using he
   have e2:st p.2=st q.2:=by simpa using he2
   have e3:p.2=q.2:=by rw [<- zaE p.2,e2,zaE]
   have hz:=hC _ I2
   rw [show decide (p.1<q.1\/p.1=q.1/\p.2<q.2)=false by rw [e1,e3]; simp] at hz
   exact hz
  ·have e1:p.1=q.1:=by simpa using he
   have hz:=hC _ I2; refine kat_one _ _ (lt_str ?_)
   show C (decide ((st p.2).cps.toList<(st q.2).cps.toList)) s''
   simp only [zaE]
   rw [show decide (p.1<q.1\/p.1=q.1/\p.2<q.2)=decide (p.2<q.2) by rw [e1]; simp] at hz
   exact hz
  ·have e1:¬ p.1=q.1:=by simpa using he
   have hz:=hC _ I2; refine oneLt_int ?_
   rw [show decide (p.1<q.1\/p.1=q.1/\p.2<q.2)=decide (p.1<q.1) by simp [e1]] at hz
   exact hz
def zpL (K:W.Frag) (X:Cx) (sp:Sp) (t:TA):TE:=fun σ H Q=>t σ H fun vs H1=>∃ l xs,vs=[.ref l]/\SqL K H1 l xs/\xs.length<64/\zpD sp (fun ks H'=>∃ lt,So.Ord lt/\zjB X ks H' lt/\∀ p,H' p=none->Q (.ref p) (upd H' p (.lst (zd3 lt xs)))) xs [] H1
theorem zmj {k:Nat} {f:Addr} {fd:FuncData} {ps:List Str} {sp:Sp} {x:Str} {e:Expr} {t:TA} {p q kpos pos:Pos} (F:FnOk X.prog X.w X.K X.mg X.base CX0 k f fd ps sp) (hr:Room (k+2) X.A) (hb:zeZ X.K fd ps []) (hmf:X.mg x=some (.ref f)) (hm:X.mg "sorted"=none) (ha:PA X [e] t)
  (hgs:Gl X "sorted":=by rfl) (hg:Gl X x:=by rfl) (hdb:(x == ("__debug__":Str))=false:=by decide)
  (he:backTo pos (starEach [e] X.env)=(false,eval e X.env) :: backTo pos (starEach [] X.env):=by rfl)
  (hplain:(backTo pos (starEach [e] X.env)).any (·.1)=false:=by rfl) :
  PE X (.Call (.Name "sorted" p) [e] [⟨some "key",.Name x q,kpos⟩] pos) (zpL X.K X sp t):=by
 intro pins s σ H Q I h; refine wpAny_Call_Name_kw (zc7 I hgs hm boot_sorted ?_)
 refine callWith_kw (thn (ha pos pins s σ H _ I h) fun us s1 ⟨vs,H1,I1,r,q⟩=>?_) he hplain rfl rfl
 obtain ⟨l,xs,rfl,hl,h64,hk⟩:=q; obtain ⟨u,rfl,ru⟩:=zct r; cases ru
 refine thn (zor (nm:=some "key") (kpos:=kpos) (zkl (v:=.ref f) hg hmf rfl hdb) zqi pos pins s1 σ H1 (fun zs H2=>zs=[.ref f]/\H2=H1) I1 ⟨rfl,rfl⟩) fun ws s2 ⟨zs,H2,I2,rz,e1,e2⟩=>?_
 subst e1 e2
 obtain ⟨w',rfl,rw'⟩:=zct rz; cases rw'; exact zg7 F hr hb I2 hl h64 hk
end
end L2
namespace PL
open PySem L2
def zs6 (ks:List D) (lt:Nat->Nat->Bool):Prop:=(∃ is:List Int,ks=is.map .int/\lt=ltI is)\/∃ ps:List (Int × List Nat),ks=ps.map (fun p=>.tup [.int p.1,.str p.2])/\lt=ltP ps
def zi2 (lt:Nat->Nat->Bool) (ds:List D):List D:=if ds.length<2 then ds else (So.run lt (W.kas_sort ds.length)).toList.map fun i=>ds.getD i .non
theorem zs6.ord {ks:List D} {lt:Nat->Nat->Bool} (h:zs6 ks lt):So.Ord lt:=by
 rcases h with ⟨is,_,rfl⟩ | ⟨ps,_,rfl⟩
 ·exact zso is
 ·exact zhA ps
theorem zgY {K:W.Frag} {H:Hp}:∀ {vs:List V} {is:List Int},zbv K H vs (is.map .int)->vs=is.map V.int
 | [],[],_=>rfl
 | v :: vs,i :: is,.cons r t=>by rw [r.intI,zgY t]; rfl
 | [],_ :: _,h=>nomatch h
 | _ :: _,[],h=>nomatch h
theorem zgX {K:W.Frag} {H:Hp}:∀ {vs:List V} {ps:List (Int × List Nat)},zbv K H vs (ps.map fun p=>.tup [.int p.1,.str p.2])->∃ as:List Addr,vs=as.map V.ref/\zpE H as ps
 | [],[],_=>⟨[],rfl,.nil⟩
 | v :: vs,p :: ps,.cons r t=>by
  obtain ⟨as,rfl,k⟩:=zgX t; obtain ⟨a,us,rfl,ha,dl⟩:=r.tupJ; obtain ⟨v1,v2,rfl,d1,d2⟩:=zjv dl; rw [d1.intI,d2.strI] at ha; exact ⟨a :: as,rfl,.cons ha k⟩
 | [],_ :: _,h=>nomatch h
 | _ :: _,[],h=>nomatch h
theorem zgN {H H':Hp} (e:zaG H H'):∀ {as:List Addr} {ps:List (Int × List Nat)},zpE H as ps->zpE H' as ps
 | _,_,.nil=>.nil
 | _,_,.cons h t=>.cons (e _ _ h) (zgN e t)
theorem zm5 {K:W.Frag} {H:Hp} {vs:List V} {ds:List D} (h:zbv K H vs ds) (i:Nat) (hi:i<vs.length):Den K H (vs.getD i .non) (ds.getD i .non):=by
 have hl:=zl h
 have:=paired_get i h (yB hi) (yB (by omega:i<ds.length))
 simpa [List.getD,yB hi,yB (by omega:i<ds.length)] using this
theorem zk0 {K:W.Frag} {H:Hp} {vs:List V} {ds:List D} (h:zbv K H vs ds):∀ (l:List Nat),(∀ i,i ∈ l->i<vs.length)->zbv K H (l.map fun i=>vs.getD i .non) (l.map fun i=>ds.getD i .non)
 | [],_=>.nil
 | i :: l,q=>.cons (zm5 h i (q i (by simp))) (zk0 h l fun j hj=>q j (by simp [hj]))
theorem zlO {K:W.Frag} {H:Hp} {lt:Nat->Nat->Bool} (o:So.Ord lt) {vs:List V} {ds:List D} (h:zbv K H vs ds):zbv K H (zd3 lt vs) (zi2 lt ds):=by
 have hl:=zl h; unfold zd3 zi2; rw [hl]; split
 ·exact h
 ·rename_i hn
  exact zk0 h _ fun i hi=>by rw [hl]; exact (zfE o (by omega)).2 i hi
section
variable {X:Cx}
def zp (sp:Sp') (t:TA'):TO':=fun Γ Q=>t Γ fun as Γ1=>∃ ds ks lt,as=[.lst ds]/\ds.length<64/\ks.length=ds.length/\(∀ (i:Nat) x k,ds[i]?=some x->ks[i]?=some k->sp [x] fun r=>r=.val k)/\zs6 ks lt/\Q (.lst (zi2 lt ds)) Γ1
theorem ziC {K:W.Frag} {sp:Sp'} {Fin:List V->Hp->Prop} {Hi1 H1:Hp}:∀ (r:List V) (rd kd:List D) (acc:List V) (accD:List D) (Hi H:Hp),Ext Hi1 H1 Hi H->zbv K Hi r rd->kd.length=rd.length->(∀ (i:Nat) x k,rd[i]?=some x->kd[i]?=some k->sp [x] fun r=>r=.val k)->zbv K Hi acc accD ->
  (∀ acc Hi H,Ext Hi1 H1 Hi H->zbv K Hi acc (accD ++ kd)->Fin acc H)->zpD (zlM K sp) Fin r acc H
 | [],[],kd,acc,accD,Hi,H,ex,_,hl,_,da,fin=>by
  have:kd=[]:=List.length_eq_zero_iff.mp (by simpa using hl)
  subst this
  exact fin acc Hi H ex (by rw [YJ]; exact da)
 | v :: r,d :: rd,k :: kd,acc,accD,Hi,H,ex,.cons d1 t,hl,hsp,da,fin=>by
  refine ⟨Hi,[d],fun r=>r=.val k,ex.fz,.cons d1 .nil,hsp 0 d k rfl rfl,fun Hi' H' v' r' e2 ro hq=>?_⟩
  subst hq
  refine ziC r rd kd (acc ++ [v']) (accD ++ [k]) Hi' H' (ex.trans e2) (zbv.mono t e2.hi) (by simpa using hl) (fun i x k h1 h2=>hsp (i+1) x k (by simpa using h1) (by simpa using h2)) (paired_app (da.mono e2.hi) (.cons ro .nil)) fun acc Hi H e3 da=>?_
  exact fin acc Hi H e3 (by simpa using da)
 | [],_ :: _,_,_,_,_,_,_,h,_,_,_,_=>nomatch h
 | _ :: _,[],_,_,_,_,_,_,h,_,_,_,_=>nomatch h
 | _ :: _,_ :: _,[],_,_,_,_,_,_,hl,_,_,_=>by simp at hl
theorem zmd {k:Nat} {x:Str} {ps:List Str} {sp:Sp'} {e:Expr} {t:TA'} {p q kpos pos:Pos} (G:Fn X.prog X.w X.K X.mg X.base k x ps sp) (hr:Room (k+2) X.A) (hm:X.mg "sorted"=none) (ha:PA' X [e] t)
  (hgs:Gl X "sorted":=by rfl) (hg:Gl X x:=by rfl) (hdb:(x == ("__debug__":Str))=false:=by decide)
  (he:backTo pos (starEach [e] X.env)=(false,eval e X.env) :: backTo pos (starEach [] X.env):=by rfl) (hplain:(backTo pos (starEach [e] X.env)).any (·.1)=false:=by rfl) :
  PO' X (.Call (.Name "sorted" p) [e] [⟨some "key",.Name x q,kpos⟩] pos) (zp sp t):=by
 obtain ⟨f,fd,F,b,kp,m,_⟩:=G.ex; refine ⟨PE.weak (zmj F hr b m hm ha.pa hgs hg hdb he hplain) ?_⟩
 rintro σ H Q ⟨W,Hi,Γ,Q',g,h,fin⟩
 refine ⟨W,Hi,Γ,_,g,h,?_⟩
 rintro vs H1 Hi1 Γ1 as s1 g1 dl ⟨ds,ks,lt,rfl,h64,hkl,hsp,hkd,q⟩
 obtain ⟨v,rfl,den⟩:=zcK dl; obtain ⟨l,xs,rfl,hl,dx⟩:=den.lstI
 refine ⟨l,xs,rfl,zai g1.sub hl,by rw [zl dx]; exact h64,?_⟩
 refine ziC xs ds ks [] [] Hi1 H1 (Ext.refl g1.fz) dx hkl hsp .nil fun acc Hi2 H2 ex da=>?_
 rw [List.nil_append] at da
 refine ⟨lt,hkd.ord,?_,fun p hp=>?_⟩
 ·rcases hkd with ⟨is,rfl,rfl⟩ | ⟨ps,rfl,rfl⟩
  ·rw [zgY da]
   exact zsS is
  ·obtain ⟨as,rfl,kt⟩:=zgX da
   exact zsR (zgN ex.fz.sub kt)
 ·have g2:=g1.ext ex
  exact fin p _ Hi2 Γ1 (.lst (zi2 lt ds)) (s1.trans ex.hi) (g2.ext (Ext.newO g2.fz hp _ (fun _ z=>by cases z))) (New.mk' g2 hp ⟨_,zu,zlO hkd.ord (dx.mono ex.hi)⟩) q
end
end PL
namespace L2
open PySem PySem.Spec PyProof.Rows
section
variable {P:Program} {w:World} {K:PySem.W.Frag} {mg:Str->Option Value} {base:Heap}
end
section
variable {X:Cx} {pins:List (Addr × Obj)} {σ:St} {H:Hp} {s:Shared}
end
section
variable {X:Cx}
end
end L2
namespace PL
open PySem L2
section
variable {P:Program} {w:World} {K:PySem.W.Frag} {mg:Str->Option Value} {base:Heap}
end
section
variable {X:Cx}
end
end PL
namespace L2
open PySem PySem.Spec PyProof.Rows
end L2
namespace PL
open PySem L2
section
variable {P:Program} {w:World} {K:PySem.W.Frag} {mg:Str->Option Value} {base:Heap} {k:Nat} {x qual:Str} {ps:List Str} {sp:Sp'}
end
section
variable {X:Cx} {pos:Pos}
end
end PL
namespace MS
open PySem L2 PL
theorem zkI:∀ (N:Nat) (l:List Nat),l.Nodup->(∀ x,x ∈ l->x<N)->l.length<=N
 | 0,l,_,h=>by
  cases l with
  | nil=>simp
  | cons a r=>exact yO (h a (by simp)) (by omega)
 | N+1,l,hd,h=>by
  by_cases e:N ∈ l
  ·have:=zkI N (l.erase N) (hd.erase N) fun x hx=>by
    have h1:=h x (List.mem_of_mem_erase hx)
    have h2:x≠N:=fun z=>by rw [z] at hx; exact (hd.not_mem_erase) hx
    omega
   rw [List.length_erase_of_mem e] at this; omega
  ·have:=zkI N l hd fun x hx=>by
    have h1:=h x hx
    have h2:x≠N:=fun z=>e (z ▸ hx)
    omega
   omega
theorem zq5:∀ (N:Nat) (l:List Nat),l.Nodup->(∀ x,x ∈ l->x<N)->l.length=N->∀ i,i<N->i ∈ l
 | 0,_,_,_,_,i,hi=>yO hi (by omega)
 | N+1,l,hd,h,hl,i,hi=>by
  by_cases e:N ∈ l
  ·by_cases z:i=N
   ·rw [z]; exact e
   ·refine List.mem_of_mem_erase (zq5 N (l.erase N) (hd.erase N) (fun x hx=>?_) (by rw [List.length_erase_of_mem e]; omega) i (by omega))
    have h1:=h x (List.mem_of_mem_erase hx)
    have h2:x≠N:=fun z=>by rw [z] at hx; exact (hd.not_mem_erase) hx
    omega
  ·have:=zkI N l hd fun x hx=>by
    have h1:=h x hx
    have h2:x≠N:=fun z=>e (z ▸ hx)
    omega
   omega
theorem irr {lt:Nat->Nat->Bool} (o:So.Ord lt) {a:Nat} (h:So.L lt a a):False:=by
 rcases h with h | ⟨_,h⟩
 ·have:=o.asym a a h
  rw [h] at this; cases this
 ·omega
theorem zcI {lt:Nat->Nat->Bool} (o:So.Ord lt) {N:Nat} (hN:1<=N):(So.run lt (W.kas_sort N)).toList.Nodup/\(So.run lt (W.kas_sort N)).toList.length=N/\(∀ i,i ∈ (So.run lt (W.kas_sort N)).toList↔i<N):=by
 obtain ⟨b,s⟩:=So.sort o hN
 have hl:(So.run lt (W.kas_sort N)).toList.length=N:=by rw [yw]; exact b.size
 have lo:=(zfE o hN).2
 have gg:∀ i (hi:i<(So.run lt (W.kas_sort N)).toList.length),So.g (So.run lt (W.kas_sort N)) i=(So.run lt (W.kas_sort N)).toList[i]:=fun i hi=>by
  rw [So.g_eq]
  have hi':i<(So.run lt (W.kas_sort N)).size:=by simpa using hi
  rw [yi hi']; simp
 have nd:(So.run lt (W.kas_sort N)).toList.Nodup:=by
  rw [List.nodup_iff_pairwise_ne,List.pairwise_iff_getElem]; intro i j hi hj hij e
  have z:=s i j hij (by omega)
  rw [gg i hi,gg j hj,e] at z; exact irr o z
 exact ⟨nd,hl,fun i=>⟨lo i,zq5 N _ nd lo hl i⟩⟩
section
variable {α:Type} {lt:Nat->Nat->Bool}
def srt (lt:Nat->Nat->Bool) (d:α) (ps:List α):List α:=if ps.length<2 then ps else (So.run lt (W.kas_sort ps.length)).toList.map fun i=>ps.getD i d
theorem zn2 (o:So.Ord lt) (d:α) (ps:List α) (q:α):q ∈ srt lt d ps↔q ∈ ps:=by
 unfold srt; split
 ·rfl
 ·rename_i h
  obtain ⟨_,_,m⟩:=zcI o (N:=ps.length) (by omega)
  rw [yU]; constructor
  ·rintro ⟨i,hi,rfl⟩
   have hi':=(m i).mp hi; simp only [List.getD,yB hi',Option.getD_some]; exact Ye hi'
  ·intro hq
   obtain ⟨i,hi,e⟩:=List.getElem_of_mem hq
   exact ⟨i,(m i).mpr hi,by simp only [List.getD,yB hi,Option.getD_some]; exact e⟩
theorem zjQ (o:So.Ord lt) (d:α) (ps:List α):(srt lt d ps).length=ps.length:=by
 unfold srt; split
 ·rfl
 ·rename_i h
  obtain ⟨_,hl,_⟩:=zcI o (N:=ps.length) (by omega)
  rw [yE,hl]
theorem zjP (o:So.Ord lt) (d:α) {ps:List α} (hd:ps.Nodup):(srt lt d ps).Nodup:=by
 unfold srt; split
 ·exact hd
 ·rename_i h
  obtain ⟨nd,_,m⟩:=zcI o (N:=ps.length) (by omega)
  rw [List.nodup_iff_pairwise_ne,List.pairwise_map]; refine List.Pairwise.imp_of_mem ?_ (List.nodup_iff_pairwise_ne.mp nd); intro i j hi hj hij e; have hi':=(m i).mp hi; have hj':=(m j).mp hj; simp only [List.getD,yB hi',yB hj',Option.getD_some] at e; exact hij ((List.getElem_inj hd).mp e)
theorem zn3 (f:α->D) (d:α) (ps:List α) (o:So.Ord lt):zi2 lt (ps.map f)=(srt lt d ps).map f:=by
 unfold zi2 srt; rw [yE]; split
 ·rfl
 ·rename_i h
  obtain ⟨_,_,m⟩:=zcI o (N:=ps.length) (by omega)
  rw [yh]
  refine yu fun i hi=>?_
  have hi':=(m i).mp hi; simp [List.getD,yB hi']
end
end MS
namespace M04
open PySem L2 Lb PL MT MS
abbrev Nd:=List (Pl × Pl)
def keys (ns:Nd):List Pl:=ns.map (·.1)
structure NOk (ns:Nd):Prop where
 nil:[] ∈ keys ns
 nd:(keys ns).Nodup
 len:∀ q,q ∈ keys ns->q.length<=8
 up:∀ q,q ∈ keys ns->q.dropLast ∈ keys ns
 lab:∀ q,q ∈ keys ns->∀ l,l ∈ q->zS l=true
 many:ns.length<=60
def zbk (q:Pl):List Nat:=q.getLast?.getD []
def zcH (l:List Nat):Int × List Nat:=((PySem.intText? (st (cut l))).getD 0,zdn l)
def zsF (q:Pl):Int × List Nat:=zcH (zbk q)
def zcd (ns:Nd) (p:Pl):List Pl:=(keys ns).filter fun q=>decide (q.length=p.length+1) && decide (q.dropLast=p)
def za5 (ns:Nd) (p:Pl):List Pl:=srt (ltP ((zcd ns p).map zsF)) [] (zcd ns p)
def zbK (ns:Nd) (p:Pl):Pl:=(ns.lookup p).getD []
theorem zdV (p:Pl) (l:List Nat):zbk (p ++ [l])=l:=by simp [zbk]
theorem zn4 {p q:Pl} (h1:q.length=p.length+1) (h2:q.dropLast=p):q=p ++ [zbk q]:=by
 have hne:q≠[]:=fun z=>by rw [z] at h1; simp at h1
 rw [<- h2]; unfold zbk; rw [List.getLast?_eq_some_getLast hne]; exact (List.dropLast_concat_getLast hne).symm
theorem zeK {ns:Nd} {p q:Pl}:q ∈ zcd ns p↔q ∈ keys ns/\q=p ++ [zbk q]:=by
 unfold zcd; rw [List.mem_filter]; simp only [yg,ym]; constructor
 ·rintro ⟨h,h1,h2⟩
  exact ⟨h,zn4 h1 h2⟩
 ·rintro ⟨h,e⟩
  refine ⟨h,?_,?_⟩
  ·rw [e]; simp
  ·rw [e]; simp
theorem za2 {ns:Nd} {p q:Pl}:q ∈ za5 ns p↔q ∈ keys ns/\q=p ++ [zbk q]:=by
 unfold za5; rw [zn2 (zhA _),zeK]
theorem zjo {ns:Nd} (o:NOk ns) (p:Pl):(za5 ns p).Nodup:=zjP (zhA _) _ (o.nd.sublist List.filter_sublist)
def zad:Nat->Nd->Pl->Tr
 | 0,ns,p=>.node (zbk p) (zbK ns p) []
 | n+1,ns,p=>.node (zbk p) (zbK ns p) ((za5 ns p).map (zad n ns))
theorem zcR (n:Nat) (ns:Nd) (p:Pl):(zad n ns p).lab=zbk p:=by cases n <;> rfl
def zdm:Nat->Nd->Pl->List Pl
 | 0,_,p=>[p]
 | n+1,ns,p=>p :: (za5 ns p).flatMap (zdm n ns)
mutual
def zdg:Tr->Pl->List Pl
 | .node _ _ ks,p=>p :: zdf ks p
def zdf:List Tr->Pl->List Pl
 | [],_=>[]
 | k :: ks,p=>zdg k (p ++ [k.lab]) ++ zdf ks p
end
theorem zit (p:Pl):∀ ks:List Tr,zdf ks p=ks.flatMap fun k=>zdg k (p ++ [k.lab])
 | []=>by simp [zdf]
 | k :: ks=>by simp [zdf,zit p ks]
theorem zeA (t:Tr) (p:Pl):zdg t p=p :: t.kds.flatMap fun k=>zdg k (p ++ [k.lab]):=by
 cases t with
 | node l ws ks=>simp [zdg,zit,Tr.kds]
theorem ze6 {α β:Type} {l:List α} {f g:α->List β} (h:∀ a,a ∈ l->f a=g a):l.flatMap f=l.flatMap g:=by
 induction l with
 | nil=>rfl
 | cons a l ih =>
  rw [List.flatMap_cons,List.flatMap_cons,h a (by simp),ih fun b hb=>h b (by simp [hb])]
theorem zfS (ns:Nd):∀ (n:Nat) (p:Pl),zdg (zad n ns p) p=zdm n ns p
 | 0,p=>by simp [zad,zdg,zdf,zdm]
 | n+1,p=>by
  rw [zeA]
  show p :: ((za5 ns p).map (zad n ns)).flatMap _=p :: _
  rw [List.flatMap_map]
  congr 1
  refine ze6 fun q hq=>?_
  have e:=(za2.mp hq).2; rw [zcR,<- e]; exact zfS ns n q
theorem zcG {ns:Nd} (o:NOk ns) {p:Pl} (h:8<=p.length):za5 ns p=[]:=by
 rw [List.eq_nil_iff_forall_not_mem]; intro q hq; obtain ⟨h1,h2⟩:=za2.mp hq
 have:=o.len q h1
 rw [h2] at this
 simp at this
 omega
theorem zgI {α:Type} [DecidableEq α]:∀ (l ks:List α),l.Nodup->(∀ x,x ∈ l->x ∈ ks)->l.length<=ks.length
 | [],_,_,_=>by simp
 | a :: l,ks,hd,h=>by
  have ha:=h a (by simp)
  have hd':=YC.mp hd
  have:=zgI l (ks.erase a) hd'.2 fun x hx=>(List.mem_erase_of_ne (show x≠a from fun z=>hd'.1 (by rw [<- z]; exact hx))).mpr (h x (by simp [hx]))
  rw [List.length_erase_of_mem ha] at this
  have:0<ks.length:=List.length_pos_of_mem ha
  simp only [YA]; omega
theorem zfm {α β:Type} {f:α->List β}:∀ {l:List α},l.Nodup->(∀ a,a ∈ l->(f a).Nodup)->(∀ a b x,a ∈ l->b ∈ l->x ∈ f a->x ∈ f b->a=b)->(l.flatMap f).Nodup
 | [],_,_,_=>by simp
 | a :: l,hd,h1,h2=>by
  have hd':=YC.mp hd; rw [List.flatMap_cons,List.nodup_append]
  refine ⟨h1 a (by simp),zfm hd'.2 (fun b hb=>h1 b (by simp [hb])) (fun b c x hb hc=>h2 b c x (by simp [hb]) (by simp [hc])),fun x hx y hy e=>?_⟩
  subst e; obtain ⟨b,hb,hy⟩:=List.mem_flatMap.mp hy
  have:=h2 a b x (by simp) (by simp [hb]) hx hy
  exact hd'.1 (this ▸ hb)
theorem zdv {ns:Nd}:∀ (n:Nat) (p q:Pl),p ∈ keys ns->q ∈ zdm n ns p->q ∈ keys ns/\p <+: q
 | 0,p,q,hp,h=>by
  have:q=p:=by simpa [zdm] using h
  rw [this]; exact ⟨hp,List.prefix_refl _⟩
 | n+1,p,q,hp,h=>by
  rcases yN.mp h with rfl | h
  ·exact ⟨hp,List.prefix_refl _⟩
  ·obtain ⟨c,hc,h⟩:=List.mem_flatMap.mp h
   obtain ⟨h1,h2⟩:=za2.mp hc; obtain ⟨h3,h4⟩:=zdv n c q h1 h
   have h5:p <+: c:=by rw [h2]; exact List.prefix_append _ _
   exact ⟨h3,h5.trans h4⟩
theorem zmc {c d q:Pl} (h1:c <+: q) (h2:d <+: q) (h:c.length=d.length):c=d:=by
 rw [List.prefix_iff_eq_take.mp h1,List.prefix_iff_eq_take.mp h2,h]
theorem zdk {ns:Nd} {p q:Pl} (h:q ∈ za5 ns p):q.length=p.length+1:=by
 have:=(za2.mp h).2
 rw [this]; simp
theorem ze9 {ns:Nd} (o:NOk ns):∀ (n:Nat) (p:Pl),(zdm n ns p).Nodup
 | 0,p=>by simp [zdm]
 | n+1,p=>by
  show (p :: _).Nodup
  rw [YC]
  refine ⟨fun h=>?_,zfm (zjo o p) (fun c _=>ze9 o n c) fun c d q hc hd h1 h2=>?_⟩
  ·obtain ⟨c,hc,h⟩:=List.mem_flatMap.mp h
   have h4:=(zdv n c p (za2.mp hc).1 h).2.length_le
   have:=zdk hc
   omega
  ·exact zmc (zdv n c q (za2.mp hc).1 h1).2 (zdv n d q (za2.mp hd).1 h2).2 (by rw [zdk hc,zdk hd])
theorem zh5 {ns:Nd} (o:NOk ns) (n:Nat) {p:Pl} (hp:p ∈ keys ns):(zdm n ns p).length<=60:=by
 have:=zgI (zdm n ns p) (keys ns) (ze9 o n p) fun q hq=>(zdv n p q hp hq).1
 have h:=o.many; unfold keys at this; rw [yE] at this; omega
end M04
namespace PySem
section
variable {prog:Program} {w:World} {A:Around} {E:Value->Shared->Prop} {s:Shared} {dd:Addr} {ob:Obj} {ens:Array DictEntry} {tick:Nat}
open PyProof.Rows in
end
end PySem
namespace L2
open PySem PySem.Spec PyProof.Rows PySem.W
section
variable {X:Cx} {pins:List (Addr × Obj)} {σ:St} {H:Hp} {s:Shared} {a:Addr}
end
section
variable {X:Cx} {o e f:Expr} {apos cpos:Pos} {td ty tx:TE}
end
section
variable {X:Cx} {pins:List (Addr × Obj)} {σ:St} {H:Hp} {s:Shared} {h':Heap}
end
end L2
namespace PL
open PySem L2
section
variable {X:Cx}
end
end PL
namespace M70
open PySem L2 Lb PL MT MS M04
open PySem.NumText (digitsVal)
theorem zh0 (l:List Nat) (c:Nat):digitsVal (l ++ [c])=digitsVal l * 10+(c-48):=by simp [digitsVal,List.foldl_append]
theorem ziK:∀ (n:Nat) {l:List Nat},l.length<=n->(∀ c ∈ l,Dig c)->l≠[]->l[0]?≠some 48->1<=digitsVal l
 | 0,l,hl,_,hn,_=>yO (List.length_eq_zero_iff.mp (by omega)) hn
 | n+1,l,hl,hd,hn,h0=>by
  rcases List.eq_nil_or_concat l with e | ⟨l',c,e⟩
  ·exact yO e hn
  ·rw [List.concat_eq_append] at e
   subst e; rw [zh0]
   by_cases z:l'=[]
   ·subst z
    have:=hd c (by simp)
    have:c≠48:=fun e=>h0 (by simp [e])
    unfold Dig at *
    simp [digitsVal]; omega
   ·have:=ziK n (l:=l') (by simp at hl; omega) (fun c hc=>hd c (by simp [hc])) z (by
     rw [List.getElem?_append_left (by cases l' with | nil=>exact yO rfl z | cons _ _=>simp)] at h0
     exact h0)
    omega
theorem zq2:∀ (n:Nat) {l m:List Nat},l.length<=n->(∀ c ∈ l,Dig c)->(∀ c ∈ m,Dig c)->l[0]?≠some 48->m[0]?≠some 48->digitsVal l=digitsVal m->l=m:=by
 intro n
 induction n with
 | zero =>
  intro l m hl h1 h2 h3 h4 e
  have:l=[]:=List.length_eq_zero_iff.mp (by omega)
  subst this
  by_cases z:m=[]
  ·rw [z]
  ·have:=ziK _ (yF _) h2 z h4
   rw [<- e] at this; simp [digitsVal] at this
 | succ n ih =>
  intro l m hl h1 h2 h3 h4 e
  rcases List.eq_nil_or_concat l with z | ⟨l',c,z⟩
  ·subst z
   by_cases z:m=[]
   ·rw [z]
   ·have:=ziK _ (yF _) h2 z h4
    rw [<- e] at this; simp [digitsVal] at this
  ·rcases List.eq_nil_or_concat m with y | ⟨m',d,y⟩
   ·subst y
    have:=ziK _ (yF _) h1 (by rw [z]; simp) h3
    rw [e] at this; simp [digitsVal] at this
   ·rw [List.concat_eq_append] at z y
    subst z y
    rw [zh0,zh0] at e
    have hc:=h1 c (by simp)
    have hd:=h2 d (by simp)
    unfold Dig at hc hd
    have e1:digitsVal l'=digitsVal m':=by omega
    have e2:c=d:=by omega
    have hd:∀ (a:List Nat) (x:Nat),(a ++ [x])[0]?≠some 48->a[0]?≠some 48:=fun a x h=>by
     cases a with
     | nil=>simp
     | cons y r=>simpa using h
    rw [ih (by simp at hl; omega) (fun x hx=>h1 x (by simp [hx])) (fun x hx=>h2 x (by simp [hx])) (hd _ _ h3) (hd _ _ h4) e1,e2]
theorem zg0 {l:List Nat} (h:zS l=true):(∀ c ∈ cut l,Dig c)/\(cut l)[0]?≠some 48/\PySem.intText? (st (cut l))=some ((digitsVal (cut l):Nat):Int):=by
 unfold zS at h; simp only [yg,ym,yW] at h
 obtain ⟨⟨⟨⟨a1,a2⟩,b⟩,c⟩,d⟩:=h
 have hd:∀ x ∈ cut l,Dig x:=fun x hx=>(zeb x).mp (by simpa [dig] using c x hx)
 refine ⟨hd,b,?_⟩
 have q:=PySem.intText_digits (x:=st (cut l)) (by rw [zaE]; exact hd) (by rw [zaE]; exact fun z=>by rw [z] at a1; simp at a1) (by rw [zbC]; omega)
 rw [zaE] at q; exact q
theorem zmU {l m:List Nat} (hl:zS l=true) (hm:zS m=true) (e:zcH l=zcH m):l=m:=by
 obtain ⟨a1,a2,a3⟩:=zg0 hl; obtain ⟨b1,b2,b3⟩:=zg0 hm; unfold zcH at e; rw [a3,b3] at e
 injection e with e1 e2
 have e3:digitsVal (cut l)=digitsVal (cut m):=by
  simp only [Option.getD_some] at e1; omega
 rw [<- zcM l,<- zcM m,e2,zq2 _ (yF _) a1 b1 a2 b2 e3]
def klt (p q:Int × List Nat):Prop:=p.1<q.1\/(p.1=q.1/\p.2<q.2)
theorem zoY (p:Int × List Nat):¬ klt p p:=by
 rintro (h | ⟨_,h⟩)
 ·omega
 ·exact List.lt_irrefl _ h
theorem zoX (p q:Int × List Nat):klt p q\/klt q p\/p=q:=by
 unfold klt
 rcases Int.lt_trichotomy p.1 q.1 with h | h | h
 ·exact .inl (.inl h)
 ·by_cases h1:p.2<q.2
  ·exact .inl (.inr ⟨h,h1⟩)
  ·by_cases h2:q.2<p.2
   ·exact .inr (.inl (.inr ⟨h.symm,h2⟩))
   ·refine .inr (.inr (Prod.ext h ?_))
    exact List.le_antisymm (List.not_lt.mp h2) (List.not_lt.mp h1)
 ·exact .inr (.inl (.inl h))
def Ris (L:List (List Nat)):Prop:=L.Pairwise fun a b=>klt (zcH a) (zcH b)
theorem Ris.nodup {L:List (List Nat)} (h:Ris L):L.Nodup:=by
 rw [List.nodup_iff_pairwise_ne]; refine List.Pairwise.imp ?_ h; intro a b hk e; rw [e] at hk; exact zoY _ hk
theorem zjT {ls:List (List Nat)} (nd:ls.Nodup) (hp:∀ l ∈ ls,zS l=true):Ris (srt (ltP (ls.map zcH)) [] ls):=by
 unfold srt; split
 ·rename_i h
  match ls,h with
  | [],_=>exact .nil
  | [a],_=>exact List.pairwise_singleton _ _
 ·rename_i h
  have o:=zhA (ls.map zcH)
  obtain ⟨nd2,hl,m⟩:=zcI o (N:=ls.length) (by omega)
  obtain ⟨b,s⟩:=So.sort o (N:=ls.length) (by omega)
  have hsz:(So.run (ltP (ls.map zcH)) (W.kas_sort ls.length)).size=ls.length:=b.size
  unfold Ris; rw [List.pairwise_map,List.pairwise_iff_getElem]; intro i j hi hj hij
  have z:=s i j hij (by omega)
  have gg:∀ i (hi:i<(So.run (ltP (ls.map zcH)) (W.kas_sort ls.length)).toList.length),So.g (So.run (ltP (ls.map zcH)) (W.kas_sort ls.length)) i=(So.run (ltP (ls.map zcH)) (W.kas_sort ls.length)).toList[i]:=fun i hi=>by
   rw [So.g_eq]
   have hi':i<(So.run (ltP (ls.map zcH)) (W.kas_sort ls.length)).size:=by simpa using hi
   rw [yi hi']; simp
  rw [gg i hi,gg j hj] at z; have ha:=(m _).mp (Ye hi); have hb:=(m _).mp (Ye hj)
  have hne:(So.run (ltP (ls.map zcH)) (W.kas_sort ls.length)).toList[i]≠(So.run (ltP (ls.map zcH)) (W.kas_sort ls.length)).toList[j]:=fun e=>by
   have:=(List.getElem_inj nd2).mp e
   omega
  generalize (So.run (ltP (ls.map zcH)) (W.kas_sort ls.length)).toList[i]=a at *; generalize (So.run (ltP (ls.map zcH)) (W.kas_sort ls.length)).toList[j]=c at *; simp only [List.getD,yB ha,yB hb,Option.getD_some]
  have k1:∀ x (hx:x<ls.length),(ls.map zcH).getD x (0,[])=zcH ls[x]:=fun x hx=>by simp [List.getD,yJ,yB hx]
  have lt_iff:∀ x y (hx:x<ls.length) (hy:y<ls.length),ltP (ls.map zcH) x y=true↔klt (zcH ls[x]) (zcH ls[y]):=fun x y hx hy=>by
   unfold ltP klt; rw [k1 x hx,k1 y hy]; simp only [ym]
  rcases z with z | ⟨z,_⟩
  ·exact (lt_iff a c ha hb).mp z
  ·rcases zoX (zcH ls[a]) (zcH ls[c]) with y | y | y
   ·exact y
   ·rw [(lt_iff c a hb ha).mpr y] at z
    cases z
   ·exact yO ((List.getElem_inj nd).mp (zmU (hp _ (Ye ha)) (hp _ (Ye hb)) y)) hne
end M70
namespace M71
open PySem L2 Lb PL MT MS M04 M70
end M71
namespace L2
open PySem PySem.Spec PyProof.Rows
section
variable {X:Cx}
end
end L2
namespace PL
open PySem L2
section
variable {X:Cx}
end
end PL
namespace M71
open PySem L2 Lb PL MT MS M04 M70
end M71
namespace PL
open PySem L2
section
variable {K:W.Frag} {n:Nat} {W:Wd} {Hi H:Hp} {Γ:Sts} {σ:St} {i:Nat} {o:OD} {b:Addr}
end
section
variable {X:Cx}
end
theorem ziQ:bootBuiltins "abs"=some (.builtin "abs"):=by decide +kernel
section
variable {X:Cx}
def zti:RC':=fun ds Q=>∃ i,ds=[.int i]/\Q (.int (if i<0 then -i else i))
theorem zrb:Cal X (.builtin "abs") zti:=⟨_,zm8,by
 rintro Hi H vs ds Q Q2 s dl ⟨i,rfl,q⟩ fin
 obtain ⟨v,rfl,den⟩:=zcK dl
 exact ⟨i,by rw [den.intI],fin Hi H _ _ (Ext.refl s) (.int _) q⟩⟩
@[simp] theorem zl7 {i:Int} {Q:D->Prop}:zti [.int i] Q↔Q (.int (if i<0 then -i else i)):=by
 constructor
 ·rintro ⟨j,e,q⟩
  cases e; exact q
 ·exact fun q=>⟨i,rfl,q⟩
theorem zoT (i j:Int) (l m:List Nat):zjC [.int i,.str (st l)] [.int j,.str (st m)]=decide (i<j\/(i=j/\l<m)):=by
 rw [zeM]
 by_cases h:i=j
 ·rw [yR (ye V.int h),zeM]
  by_cases e:l=m
  ·subst e
   rw [yR rfl]
   have hn:¬ (i<j\/(i=j/\l<l)):=by
    rintro (z | ⟨_,z⟩)
    ·omega
    ·exact List.lt_irrefl _ z
   exact (yS hn).symm
  ·rw [yM (fun q=>e (L2.st_inj (V.str.inj q)))]
   show decide ((st l).cps.toList<(st m).cps.toList)=_
   rw [zaE,zaE]
   refine decide_eq_decide.mpr ⟨fun z=>.inr ⟨h,z⟩,?_⟩
   rintro (z | ⟨_,z⟩)
   ·omega
   ·exact z
 ·rw [yM (fun q=>h (V.int.inj q))]
  show decide (i<j)=_
  refine decide_eq_decide.mpr ⟨.inl,?_⟩
  rintro (z | ⟨z,_⟩)
  ·exact z
  ·exact yO z h
def ztL:R2':=fun x y Q=>∃ i l j m,x=.tup [.int i,.str l]/\y=.tup [.int j,.str m]/\Q (.bl (decide (i<j\/(i=j/\l<m))))
theorem zsw (hu:X.A.units<cLine):Op2 X (compareOp .Lt) ztL:=⟨_,zqz hu,by
 rintro Hi H x y dx dy Q Q2 s d1 d2 ⟨i,l,j,m,rfl,rfl,q⟩ fin
 obtain ⟨a,xs,rfl,hx,dl⟩:=d1.tupI; obtain ⟨b,ys,rfl,hy,dm⟩:=d2.tupI; obtain ⟨v,w,rfl,e1,e2⟩:=zjv dl; obtain ⟨v',w',rfl,e1',e2'⟩:=zjv dm; rw [e1.intI,e2.strI] at hx; rw [e1'.intI,e2'.strI] at hy
 refine ⟨a,b,_,_,rfl,rfl,zaz s.sub hx,zaz s.sub hy,(show _/\_/\True from ⟨rfl,rfl,True.intro⟩),?_⟩
 rw [zoT]; exact fin Hi H _ _ (Ext.refl s) (.bl _) q⟩
end
section
variable {P:Program} {w:World} {K:W.Frag} {mg:Str->Option Value} {base:Heap}
end
section
variable {X:Cx}
end
section
variable {X:Cx} {e a b c:Expr} {pos:Pos}
end
end PL
namespace L2
open PySem PySem.Spec PyProof.Rows
section
variable {X:Cx}
end
end L2
namespace PL
open PySem L2
section
variable {X:Cx}
end
end PL
namespace PL
open PySem L2 PySem.Spec PyProof.Rows
section
variable {X:Cx}
end
end PL
namespace L2
open PySem PySem.Spec PyProof.Rows Zp
section
variable {X:Cx}
end
end L2
namespace PL
open PySem L2
section
variable {X:Cx}
end
end PL
namespace L2
open PySem PySem.Spec PyProof.Rows
section
variable {prog:Program} {w:World} {K:Type} [DecidableEq K] {knd:HeapKind prog w K} {A:Around} {E:Value->Shared->Prop} {s:Shared} {d a:Addr} {k:K} {xs:List (K × Addr × Value)}
end
section
variable {X:Cx} {pins:List (Addr × Obj)} {σ:St} {H:Hp} {s:Shared} {a:Addr} {y d:V} {u r:Value} {o:Option V} {A:Around} {E:Value->Shared->Prop}
end
section
variable {X:Cx} {o e:Expr} {apos cpos:Pos} {td ty:TE}
end
end L2
namespace PL
open PySem L2
section
variable {X:Cx}
def zar:TO':=fun Γ Q=>Q (.dit []) Γ
theorem zop {pos:Pos}:PO' X (.Dict [] [] pos) zar:=by
 refine ⟨PE.weak zoB ?_⟩
 rintro σ H Q ⟨W,Hi,Γ,Q',g,q,fin⟩
 intro p hp
 exact fin p _ Hi Γ (.dit []) (zaG.refl _) (g.ext (Ext.newO g.fz hp _ (fun _ z=>by cases z))) (New.mk' g hp ⟨[],0,zu,.nil⟩) q
open Classical in
end
end PL
namespace Itm
open PySem
section
variable {prog:Program} {w:World} {A:Around} {E:Value->Shared->Prop} {s:Shared} {d:Addr} {o:Obj} {es:Array DictEntry} {ep:Nat}
end
end Itm
namespace L2
open PySem PySem.Spec PyProof.Rows Zp
section
variable {X:Cx}
end
end L2
namespace PL
open PySem L2
section
variable {X:Cx}
end
section
variable {P:Program} {w:World} {K:PySem.W.Frag} {mg:Str->Option Value} {base:Heap}
end
end PL
namespace EnK
open PySem
open AutoSeq1 (wpAny_loadPart')
section
variable {prog:Program} {w:World} {A:Around} {E:Value->Shared->Prop} {s:Shared}
end
end EnK
namespace L2
open PySem PySem.Spec PyProof.Rows Zp EnK
section
variable {X:Cx}
end
end L2
namespace PL
open PySem L2
section
variable {X:Cx}
end
section
variable {P:Program} {w:World} {K:PySem.W.Frag} {mg:Str->Option Value} {base:Heap}
end
section
variable {X:Cx}
end
end PL
namespace L2
open PySem PySem.Spec PyProof.Rows PySem.W
section
variable {X:Cx} {pins:List (Addr × Obj)} {σ:St} {H:Hp} {s:Shared}
end
section
variable {X:Cx}
abbrev I3:=Int × Int × Int
end
section
variable {X:Cx} {o e:Expr} {apos cpos:Pos} {td ty:TE}
end
end L2
namespace PL
open PySem L2
section
variable {X:Cx}
def ztE:D->Option (List Nat)
 | .str l=>some l
 | _=>none
end
end PL
namespace L2
open PySem PySem.Spec PyProof.Rows PySem.W
abbrev Jt:=Shared->Hp->Prop
section
variable {X:Cx} {pins:List (Addr × Obj)} {σ:St} {H:Hp} {s:Shared} {J:Jt} {k:Nat} {f:Addr} {fd:FuncData} {ps:List Str} {sp:Sp}
end
end L2
namespace PL
open PySem L2
section
variable {P:Program} {w:World} {K:W.Frag} {mg:Str->Option Value} {base:Heap} {J:Jt} {k:Nat} {x:Str} {ps:List Str} {sp:Sp'}
end
section
variable {X:Cx} {J:Jt} {k:Nat} {x:Str} {ps:List Str} {sp:Sp'} {p pos:Pos} {e:Expr} {es:List Expr} {t:TA'}
end
section
variable {P:Program} {w:World} {K:W.Frag} {mg:Str->Option Value} {base:Heap}
end
section
variable {X:Cx}
end
section
variable {P:Program} {w:World} {K:W.Frag} {mg:Str->Option Value} {base:Heap}
end
section
variable {X:Cx}
end
end PL
namespace HT
open PySem PyProof.Rows
section
variable {prog:Program} {w:World} {A:Around} {E:Value->Shared->Prop} {s:Shared}
end
end HT
namespace L2
open PySem PySem.Spec PyProof.Rows
section
variable {X:Cx} {e st:Expr} {te:TE} {ts:TO} {pos p2:Pos}
theorem zlC:∀ {xs:List V} {us:List Value},zaL xs us->zaL xs.reverse us.reverse:=by
 intro xs us r
 induction r with
 | nil=>exact .nil
 | cons a _ ih =>
  rw [List.reverse_cons,List.reverse_cons]; exact ih.append (.cons a .nil)
end
end L2
namespace PL
open PySem L2
section
variable {X:Cx} {e st:Expr} {te:TE'} {ts:TP'} {pos p2:Pos}
theorem zpp {K:W.Frag} {Hi:Hp} {vs:List V} {ds:List D} (h:zbv K Hi vs ds):zbv K Hi vs.reverse ds.reverse:=by
 induction h with
 | nil=>exact .nil
 | cons a _ ih =>
  rw [List.reverse_cons,List.reverse_cons]; exact paired_app ih (.cons a .nil)
end
end PL
namespace L2
open PySem PySem.Spec PyProof.Rows
section
variable {X:Cx}
end
end L2
namespace PL
open PySem L2
section
variable {X:Cx}
end
end PL
namespace L2
open PySem PySem.Spec PyProof.Rows
section
variable {prog:Program} {w:World} {A:Around} {E:Value->Shared->Prop} {s:Shared}
theorem zjG (hd:A.handled=none) (it l:Addr) (items:Array Value) (ne:it≠l):WalksS prog w A it [it,l] [it] (fun a b=>b=a) items.size (fun i v=>items[items.size-1-i]?=some v) (fun i s=>s.heap.IsRevIter it l ((items.size:Int)-1-(i:Int))/\s.heap.IsList l items/\i<=items.size) where
 sub:=by simp
 grefl:=fun _=>rfl
 gtrans:=fun _ _ _ h h'=>h'.trans h
 frame:=fun i s h' tk st _ k=>by
  obtain ⟨⟨o,ho,hc,hd⟩,⟨o2,ho2,hc2,n,hd2⟩,hi⟩:=st
  exact ⟨⟨o,k it (by simp) o ho,hc,hd⟩,⟨o2,k l (by simp) o2 ho2,hc2,n,hd2⟩,hi⟩
 item:=fun i s Q E hi st q=>by
  obtain ⟨s1,s2,_⟩:=st
  rw [show (items.size:Int)-1-(i:Int)=((items.size-1-i:Nat):Int) by omega] at s1
  have hx:items[items.size-1-i]?=some (items[items.size-1-i]'(by omega)):=yi (by omega)
  refine wpAny_pyNext_rev_item s1 s2 hx fun h' st' sb=>q _ _ hx ⟨?_,?_,hi⟩ ⟨fun b o hb e=>?_,rfl,rfl,rfl,yF _⟩
  ·show h'.IsRevIter it l _
   rw [show (items.size:Int)-1-((i+1:Nat):Int)=((items.size-1-i:Nat):Int)-1 by omega]
   exact st'
  ·obtain ⟨o2,ho2,hc2,n,hd2⟩:=s2
   exact ⟨o2,(sb.2 l (fun z=>ne z.symm)).trans ho2,hc2,n,hd2⟩
  ·exact (sb.2 b (by simpa using hb)).trans e
 done:=fun s Q E st q=>by
  obtain ⟨s1,s2,_⟩:=st
  rw [show (items.size:Int)-1-(items.size:Int)=-1 by omega] at s1
  exact wpAny_pyNext_rev_end hd s1 fun h' eb=>q _ ⟨fun b o hb e=>eb b o (by simpa using hb) e,rfl,rfl,rfl,yF _⟩
 self:=fun i s Q E st q=>wpAny_pyIter_revIter st.1 q
theorem zb8 {α:Type} {M:Model} {c:Prop} [Decidable c] {t e:Sem α} {Q:α->Shared->Prop} (hc:¬ c) (h:wpAny M A e Q E s):wpAny M A (if c then t else e) Q E s:=by rw [yM hc]; exact h
theorem zhV {α:Type} {M:Model} {c:Prop} [Decidable c] {t e:Sem α} {Q:α->Shared->Prop} (hc:c) (h:wpAny M A t Q E s):wpAny M A (if c then t else e) Q E s:=by rw [yR hc]; exact h
theorem zmB:typeLookup (Value.type "list_reverseiterator") (Str.ofString "__len__")=pure none:=by first | rfl | with_unfolding_all rfl
theorem zpg:typeLookup (Value.type "list_reverseiterator") (Str.ofString "__length_hint__")=pure (some (Value.builtin "list_reverseiterator.__length_hint__")):=by first | rfl | with_unfolding_all rfl
theorem zmY {it:Addr} {Q:Bool->Shared->Prop} (hT:s.TypeIs (.ref it) "list_reverseiterator") (h:Q false s):wpAny (model prog w) A (Builtin.List.listLengthHint (.ref it)) Q E s:=by
 unfold Builtin.List.listLengthHint; refine yA (wpAny_specialOf hT zmB ?_)
 refine zb8 (by decide) (zb8 (by decide) ?_)
 refine yA (wpAny_specialOf hT zpg ?_)
 refine yA (wpAny_isInstance hT (show isSubtype (Value.type "list_reverseiterator") (Value.type "list_reverseiterator")=pure true by first | rfl | with_unfolding_all rfl) ?_)
 refine zb8 (by decide) (zhV (by decide) (zb8 (by decide) ?_))
 exact yD h
theorem zh2 {it l:Addr} {items:Array Value} {Q:List Value->Shared->Prop} (hd:A.handled=none) (st:s.heap.IsRevIter it l ((items.size:Int)-1)) (hl:s.heap.IsList l items) (ne:it≠l) (hsz:items.size<=sizeLine)
  (h:∀ s',Moved [it] (fun a b=>b=a) s s'->Q items.toList.reverse s'):wpAny (model prog w) A (collect (.ref it)) Q E s:=by
 have W:=zjG (prog:=prog) (w:=w) (A:=A.in1) hd it l items ne; unfold collect; refine yA (wpAny_runValue (codeAny_builtin PySem.F.entry_proto_collect ?_)); rw [Around.under_plainId PySem.F.plain_proto_collect]
 unfold Builtin.«proto.collect»
 refine yA (yc (yD ⟨plainId_quiet PySem.F.plain_list_iadd _,codeAny_builtin PySem.F.entry_list_iadd ?_⟩)); rw [Around.under_plainId PySem.F.plain_list_iadd]
 unfold Builtin.«list.__iadd__»
 refine yA (yD ?_)
 have hT:({ s with heap:=s.heap.push { cls:=Value.type "list",data:=Data.seq #[] } }:Shared).TypeIs (.ref it) "list_reverseiterator":=by
  obtain ⟨o,ho,hc,_⟩:=st; exact ⟨o,yC _ ho,hc⟩
 have lt:it<s.heap.objs.size:=by obtain ⟨o,ho,_⟩:=st; exact yQ ho
 have ltl:l<s.heap.objs.size:=by obtain ⟨o,ho,_⟩:=hl; exact yQ ho
 have st0:({ s with heap:=s.heap.push { cls:=Value.type "list",data:=Data.seq #[] } }:Shared).heap.IsRevIter it l ((items.size:Int)-1-((0:Nat):Int))/\({ s with heap:=s.heap.push { cls:=Value.type "list",data:=Data.seq #[] } }:Shared).heap.IsList l items/\0<=items.size:=by
  refine ⟨?_,?_,yf _⟩
  ·obtain ⟨o,ho,hc,hd⟩:=st
   rw [show (items.size:Int)-1-((0:Nat):Int)=(items.size:Int)-1 by omega]
   exact ⟨o,yC _ ho,hc,hd⟩
  ·obtain ⟨o,ho,hc,n,hd⟩:=hl
   exact ⟨o,yC _ ho,hc,n,hd⟩
 show wpAny _ _ (Builtin.List.listExtendWith (.ref s.heap.objs.size) (.ref it) (.ref s.heap.objs.size)) _ _ _
 unfold Builtin.List.listExtendWith; refine yA (wpAny_typeOf hT ?_)
 have hno:¬ ((Builtin.List.listSameRef (.ref s.heap.objs.size) (.ref it) || Value.type "list_reverseiterator" == Value.type "list" || Value.type "list_reverseiterator" == Value.type "tuple")=true):=by
  have:Builtin.List.listSameRef (.ref s.heap.objs.size) (.ref it)=false:=by
   unfold Builtin.List.listSameRef; simp
   exact fun z=>yO z (Nat.ne_of_gt lt)
  rw [this]
  decide
 rw [yM hno]; refine yA (wpAny_pyIter_revIter st0.1 ?_); refine yA (YS (zmY hT ?_))
 refine zb8 (by decide) ?_
 refine yD ⟨plainId_quiet PySem.F.plain_extend_loop _,?_⟩
 refine codeAny_extend_loopS W hsz s.heap.objs.size (by simp; exact ⟨Nat.ne_of_gt lt,Nat.ne_of_gt ltl⟩) _ _ 0 _ #[] 0 rfl (yf _) st0 (yI _ rfl) ⟨rfl,fun j v z=>by simp at z⟩ fun s' acc c m e it'=>?_
 show wpAny _ _ (load s.heap.objs.size >>= _) _ _ _
 refine yA (wpAny_load e ?_); refine yD ?_
 have ea:acc.toList=items.toList.reverse:=by
  refine List.ext_getElem? fun j=>?_
  rw [Array.getElem?_toList]
  by_cases hj:j<items.size
  ·have hj':j<acc.size:=by rw [it'.1]; exact hj
   have:=it'.2 j _ (yi hj')
   rw [yi hj',<- this,List.getElem?_reverse (by simpa using hj)]
   simp
  ·rw [Array.getElem?_eq_none (by rw [it'.1]; omega),List.getElem?_eq_none (by simpa using Nat.le_of_not_lt hj)]
 rw [ea]; exact h s' (m.drop_new (yF _))
theorem zf2 {it l:Addr} {items:Array Value} {Q:Value->Shared->Prop} (hd:A.handled=none) (st:s.heap.IsRevIter it l ((items.size:Int)-1)) (hl:s.heap.IsList l items) (ne:it≠l) (hsz:items.size<=sizeLine)
  (h:∀ s',Moved [it] (fun a b=>b=a) s s'->Q (.ref s'.heap.objs.size) { s' with heap:=s'.heap.push { cls:=.type "tuple",data:=.seq items.toList.reverse.toArray } }) :
  codeAny (model prog w) A (Code.call (Value.builtin "tuple.__new__") { pos:=[Value.type "tuple",Value.ref it] }) (wants Q E) s:=by
 have hT:s.TypeIs (.ref it) "list_reverseiterator":=by
  obtain ⟨o,ho,hc,_⟩:=st; exact ⟨o,ho,hc⟩
 refine codeAny_of_tree ?_; refine yA (YR (PySem.F.newCall_tuple_1 (.ref it)) (yD ⟨plainId_quiet PySem.F.plain_tuple_new _,codeAny_builtin PySem.F.entry_tuple_new ?_⟩)); rw [Around.under_plainId PySem.F.plain_tuple_new]
 show wpAny _ _ (Builtin.«tuple.__new__» { pos:=[Value.type "tuple",Value.ref it] }) _ _ _
 unfold Builtin.«tuple.__new__»
 refine yA (yD (zb8 (by decide) (yA (YR sub_tuple_self (zb8 (by decide) (zb8 (by decide) ?_))))))
 refine yA (YR madeHere_tuple (yA (YR init_tuple_lookup (zhV (by decide) (yA (zhV rfl (yD ?_)))))))
 refine yA ?_; unfold checkCount; refine wpAny_ite_false rfl (wpAny_ite_false rfl (wpAny_ite_false rfl (yD ?_))); refine wpAny_ite_true rfl (yA ?_); unfold Builtin.Tuple.tupleIsExact
 refine yA (wpAny_typeOf hT (yD (zb8 (by decide) ?_)))
 refine yA (zh2 hd st hl ne hsz fun s' m=>?_)
 have hz:sizeOk (.seq items.toList.reverse.toArray):=by
  show items.toList.reverse.toArray.size<=sizeLine
  simpa using hsz
 refine yA (yD ?_); refine yA ?_; unfold Builtin.Tuple.tupleExact; exact yc (yD (h s' m)) hz
theorem ze7 {it l:Addr} {items:Array Value} {Q:Value->Shared->Prop} (hd:A.handled=none) (st:s.heap.IsRevIter it l ((items.size:Int)-1)) (hl:s.heap.IsList l items) (ne:it≠l) (hsz:items.size<=sizeLine)
  (h:∀ s',Moved [it] (fun a b=>b=a) s s'->Q (.ref s'.heap.objs.size) { s' with heap:=s'.heap.push { cls:=.type "tuple",data:=.seq items.toList.reverse.toArray } }) :
  wpAny (model prog w) A (call (Value.type "tuple") [Value.ref it]) Q E s:=by
 refine callType_codes PySem.F.called_tuple (PySem.F.typeCall_tuple_1 (.ref it)) PySem.F.entry_object_init (zf2 (Q:=fun r s1=>s1.TypeIs r "tuple"/\Q r s1) hd st hl ne hsz fun s' m=>⟨⟨_,yI _ rfl,rfl⟩,h s' m⟩) fun obj s1 h1=>⟨h1.1,PySem.F.args_object_init_2 obj (.ref it),?_⟩
 exact object_init_meets PySem.F.called_tuple.init.lookup PySem.F.called_tuple.made (by decide) prog w A.in1 _ s1 ⟨h1.1,rfl,h1.2⟩
end
section
variable {X:Cx}
def znW (K:W.Frag) (to:TE):TE:=fun σ H Q=>to σ H fun x H1=>∃ a vs,x=.ref a/\SqL K H1 a vs/\∀ p,H1 p=none->Q (.ref p) (upd H1 p (.tup vs.reverse))
theorem zoy {o:Expr} {to:TE} {p1 p2 pos1 pos2:Pos} (hr:X.A.handled=none) (hg1:Gl X "tuple") (hm1:X.mg "tuple"=none) (hg2:Gl X "reversed") (hm2:X.mg "reversed"=none) (ho:PE X o to) (hs2:starEach [o] X.env=[(false,eval o X.env)]:=by rfl)
  (hs1:starEach [Expr.Call (.Name "reversed" p2) [o] [] pos2] X.env=[(false,eval (Expr.Call (.Name "reversed" p2) [o] [] pos2) X.env)]:=by rfl) :
  PE X (.Call (.Name "tuple" p1) [.Call (.Name "reversed" p2) [o] [] pos2] [] pos1) (znW X.K to):=by
 intro pins s σ H Q I h; refine Call_ (zc7 I hg1 hm1 boot_tuple (YE ?_ hs1 rfl)); rw [hs1]
 show wpAny _ _ (spliced ((false,eval (Expr.Call (.Name "reversed" p2) [o] [] pos2) X.env) :: backTo pos1 [])) _ _ s
 refine YV ?_; refine Call_ (zc7 I hg2 hm2 boot_reversed (YE ?_ hs2 rfl)); rw [hs2]
 show wpAny _ _ (spliced ((false,eval o X.env) :: backTo pos2 [])) _ _ s
 refine YV (thn (ho pins s σ H _ I h) fun u s1 ⟨x,H1,I1,rx,a,vs,ex,hq,q⟩=>Calls.spliced_nil ?_)
 subst ex; cases rx; obtain ⟨its,rv,p,hz⟩:=I1.list hq; have hl:=rv.length; refine call_reversed_list (zc0 p) (Calls.spliced_nil ?_)
 have lt:a<s1.heap.objs.size:=by obtain ⟨o,ho,_⟩:=zc0 p; exact yQ ho
 have I2:Inv X pins σ H1 { s1 with heap:=s1.heap.push (revObj a ((its.toArray.size:Int)-1)) }:=I1.kept (t':=s1.toks) fun b o e=>yC _ e
 have st:(s1.heap.push (revObj a ((its.toArray.size:Int)-1))).IsRevIter s1.heap.objs.size a ((its.toArray.size:Int)-1):=⟨_,yI _ rfl,rfl,rfl⟩
 have pl:(s1.heap.push (revObj a ((its.toArray.size:Int)-1))).IsList a its.toArray:=by
  obtain ⟨o,ho,hc,n,hd⟩:=zc0 p; exact ⟨o,yC _ ho,hc,n,hd⟩
 refine ze7 (s:={ s1 with heap:=s1.heap.push (revObj a ((its.toArray.size:Int)-1)) }) hr st pl (Nat.ne_of_gt lt) (by rw [yK,<- hl]; exact hz) fun s3 m=>?_
 obtain ⟨f0,f1,f2,f3,f4,f5⟩:=I1.fpOk (H':=H1) (yF _) (I1.hok.fresh (yF _))
 have I3:Inv X pins σ H1 s3:=by
  have:=I2.turned (h':=s3.heap) (t':=s3.toks) (fun b o hb e=>m.heap b o (by simpa using hb) e) f0 f1 f3 f4 f5
  have e:({ ({ s1 with heap:=s1.heap.push (revObj a ((its.toArray.size:Int)-1)) }:Shared) with heap:=s3.heap,toks:=s3.toks }:Shared)=s3:=by
   obtain ⟨h3,g3,d3,t3,o3⟩:=s3; have e1:=m.gens; have e2:=m.drawn; have e3:=m.os
   dsimp only at e1 e2 e3 ⊢
   rw [e1,e2,e3]
  rw [e] at this; exact this
 have hf:H1 s3.heap.objs.size=none:=I3.hok.fresh (yF _)
 refine ⟨.ref s3.heap.objs.size,upd H1 s3.heap.objs.size (.tup vs.reverse),I3.laid (t':=s3.toks) (fun b u e=>yC _ e) (yF _) ?_,rfl,q _ hf⟩
 exact ⟨by rw [yj]; exact hz,_,zlC rv,⟨_,yI _ rfl,rfl,_,rfl⟩⟩
end
section
variable {prog:Program} {w:World} {K:Type} [DecidableEq K] {knd:HeapKind prog w K} {A:Around} {E:Value->Shared->Prop} {s:Shared} {d a:Addr} {k:K} {xs:List (K × Addr × Value)}
theorem zem {Q:Value->Shared->Prop} {dflt:Value} (hu:knd.room A) (hkey:knd.is s.heap k a) (hm:s.heap.DictOfH knd d xs) (hsz:xs.length<sizeLine)
  (h1:∀ p,atKey xs k=some p->Q p.2 { s with toks:=s.toks+knd.draws k })
  (h2:atKey xs k=none->∀ h',h'.DictOfH knd d (xs ++ [(k,a,dflt)])->Heap.SameBut d s.heap h'->Q dflt { s with heap:=h',toks:=s.toks+knd.draws k }) :
  wpAny (model prog w) A (dictSetDefault d (.ref a) dflt) Q E s:=by
 obtain ⟨o,es,ep,ho,hc,hd,he,his,hn⟩:=hm; unfold dictSetDefault
 try with_reducible refine YS ?_
 refine yA (knd.pyHash hu hkey (yA (wpAny_dictFind_heap (s:={ s with toks:=s.toks+knd.draws k }) hu hkey ho hd he his hn ?_ ?_)))
 ·intro hno
  have hk:=atKey_none_of_get hno; refine yA (wpAny_rule ?_)
  refine yA (wpAny_updateDictKeys (hz:=by have e:=size_of_entries he; simp; omega) (s:={ s with toks:=s.toks+knd.draws k }) ho hd (yD (h2 hk _ ⟨_,_,ep+1,Ym _ ho (Obj.isFreed_of_dict (Obj.data_mapDictKeys hd _)),hc.mapDictKeys _,Obj.data_mapDictKeys hd _,?_,?_,?_⟩ (Heap.SameBut.update ..))))
  ·rw [Array.toList_push,he,YM]
   rfl
  ·intro x hx
   rcases yn.mp hx with z | z
   ·exact knd.keeps (his x z) ho hd (Heap.SameBut.update ..)
   ·rw [YI.mp z]
    exact knd.keeps hkey ho hd (Heap.SameBut.update ..)
  ·rw [YM,List.nodup_append]
   refine ⟨hn,by simp,fun x hx y hy e=>?_⟩
   have:y=k:=by simpa using hy
   rw [e,this] at hx; obtain ⟨p,hp,e2⟩:=yU.mp hx; obtain ⟨j,hj,ej⟩:=List.getElem_of_mem hp; obtain ⟨p1,p2⟩:=p; subst e2
   exact hno j p2 (by rw [yB hj,ej])
 ·intro j p hj
  refine yA (wpAny_dictEntries (s:={ s with toks:=s.toks+knd.draws k }) ho hd ?_)
  rw [entry_at he j,hj]; exact yA (wpAny_rule (yD (h1 p (atKey_of_get hn hj))))
theorem zd6 (hd:(d == sysModules)=false) (dflt:Value) :
  MeetsIn prog w (Builtin.«dict.setdefault» ⟨[.ref d,.ref a,dflt],[]⟩) (fun A R s=>knd.room A.in1/\∃ k xs,knd.is s.heap k a/\s.heap.DictOfH knd d xs/\xs.length<sizeLine /\
   (∀ p,atKey xs k=some p->R (.ok (.ret p.2)) { s with toks:=s.toks+knd.draws k })/\(atKey xs k=none->∀ h',h'.DictOfH knd d (xs ++ [(k,a,dflt)])->Heap.SameBut d s.heap h'->R (.ok (.ret dflt)) { s with heap:=h',toks:=s.toks+knd.draws k })) :=
 .of_wp fun A R s ⟨hu,k,xs,hkey,hm,hsz,h1,h2⟩=>by
  unfold Builtin.«dict.setdefault»
  refine yA ?_; unfold Builtin.Dict.keyAndDefault; refine yA (wpAny_notOrdered_dict hm.typeIs ?_)
  show wpAny _ _ (pure (d,Value.ref a,some dflt)) _ _ s
  refine yD ?_
  refine zb8 (by rw [hd]; decide) ?_
  refine yA (zem (dflt:=dflt) hu hkey hm hsz (fun p hp=>?_) fun hn h' dd hs=>?_)
  ·exact yD ⟨_,rfl,h1 p hp⟩
  ·exact yD ⟨_,rfl,h2 hn h' dd hs⟩
end
section
variable {X:Cx} {pins:List (Addr × Obj)} {σ:St} {H:Hp} {s:Shared} {a:Addr} {A:Around} {E:Value->Shared->Prop}
theorem zq0 {kvs:List (List Key × V)} {ep:Nat} {k:List Key} {b:Addr} {v:V} {r:Value} {Q:Value->Shared->Prop} (hu:A.units+1<cLine) (I:Inv X pins σ H s) (e:H a=some (.dE kvs ep)) (eb:H b=some (.tup (k.map kV))) (l:kvs.length<sizeLine) (rv:za8 v r)
  (h1:∀ v' w' s',zgg kvs k=some v'->Inv X pins σ H s'->za8 v' w'->Q w' s') (h2:zgg kvs k=none->∀ ep' s',Inv X pins σ (upd H a (.dE (kvs ++ [(k,v)]) ep')) s'->Q r s') :
  wpAny (model X.prog X.w) A (call (.builtin "dict.setdefault") [.ref a,.ref b,r]) Q E s:=by
 obtain ⟨z,hd,xs,rel,dd,_⟩:=zdX I.hok e
 have hz:xs.length<sizeLine:=by rw [<- Paired.length rel]; exact l
 have rk:=rel.val k
 refine call_meetsIn PySem.F.slot_dict_setdefault dd.typeIs PySem.F.entry_dict_setdefault (PySem.F.args_dict_setdefault_3 _ _ _) (zd6 (knd:=tupleKind (zbj X.prog X.w)) (d:=a) (a:=b) hd r) ⟨tupleKind_room_in1 hu,k,xs,zd1 I.hok eb,dd,hz,fun p hp=>?_,fun hn h' dd' hs=>?_⟩
 ·rw [hp] at rk
  cases hv:zgg kvs k with
  | none=>rw [hv] at rk; exact rk.elim
  | some v'=>rw [hv] at rk; exact h1 v' p.2 _ hv (I.tok _) rk
 ·rw [hn] at rk
  cases hv:zgg kvs k with
  | some v'=>rw [hv] at rk; exact rk.elim
  | none =>
   obtain ⟨q,es,ep',hq,g2,g3,g4,_,g5⟩:=dd'
   have hl:(kvs ++ [(k,v)]).length<=sizeLine:=by rw [yP,YW]; omega
   have rp:KT H (kvs ++ [(k,v)]) (xs ++ [(k,b,r)]):=PL.paired_app rel (.cons ⟨rfl,eb,rv⟩ .nil)
   refine h2 hv ep' _ (zh1 I (by rw [e]; exact True.intro) hs ⟨q,hq⟩ ⟨hl,hd,_,rp.keeps fun c ys ec=>?_,q,es,hq,g2,g3,g4,g5⟩)
   rw [zN (zoR ec e (fun z=>nomatch z))]
   exact ec
end
def zjM (td ty tx:TE):TE:=fun σ H Q=>td σ H fun x H1=>∃ a kvs0 ep0,x=.ref a/\H1 a=some (.dE kvs0 ep0)/\ty σ H1 fun y H2=>tx σ H2 fun z H3=>∃ kvs ep k b,H3 a=some (.dE kvs ep)/\y=.ref b/\H3 b=some (.tup (k.map kV))/\kvs.length<sizeLine /\
 (∀ v,zgg kvs k=some v->Q v H3)/\(zgg kvs k=none->∀ ep',Q z (upd H3 a (.dE (kvs ++ [(k,z)]) ep')))
section
variable {X:Cx} {o e f:Expr} {apos cpos:Pos} {td ty tx:TE}
theorem zmm (hu:X.A.units+1<cLine) (ho:PE X o td) (he:PE X e ty) (hf:PE X f tx) (m:M2 X o "setdefault" apos e f cpos):PE X (.Call (.Attribute o "setdefault" apos) [e,f] [] cpos) (zjM td ty tx):=by
 intro pins s σ H Q I h
 refine wpAny_Call_method m.base m.few m.line PySem.F.plainAttrs_dict PySem.F.slot_dict_setdefault PySem.F.type_dict_setdefault (thn (ho pins s σ H _ I h) fun u s1 ⟨x,H1,I1,rx,a,kvs,ep,ex,d,q1⟩=>?_)
 subst ex
 obtain rfl:u=Value.ref a:=rx
 obtain ⟨t1,t2⟩:=znH I1 d; refine ⟨t1,t2,?_⟩; rw [m.trees]
 refine Calls.callWith_builtin rfl (Calls.evalArgs_plain (YV (thn (he pins s1 σ H1 _ I1 q1) fun iv s2 ⟨y,H2,I2,ry,q2⟩ =>
  YV (thn (hf pins s2 σ H2 _ I2 q2) fun fv s3 ⟨z,H3,I3,rz,kvs',ep',k,b,ea,ey,eb,hl,q3,q4⟩=>Calls.spliced_nil ?_))))
 subst ey
 obtain rfl:iv=Value.ref b:=ry
 exact zq0 hu I3 ea eb hl rz (fun v' w' s4 hv I4 rw'=>⟨v',H3,I4,rw',q3 v' hv⟩) fun hv ep2 s4 I4=>⟨z,_,I4,rz,q4 hv ep2⟩
end
end L2
namespace PL
open PySem L2
structure NoOwn (Γ:Sts):Prop where
 own:∀ (i:Nat) o,Γ[i]?≠some (.own o)
 bk:∀ (i:Nat) d b xs,Γ[i]?≠some (.bk d b xs)
def Wd.prot (W:Wd) (L:List Addr) (H:Hp):Wd:=⟨fun x=>if x ∈ L then H x else W.H₀ x,fun x=>if x ∈ L then none else W.Hi₀ x,W.F.filter fun x=>decide (x ∉ L)⟩
section
variable {K:PySem.W.Frag} {n:Nat} {W:Wd} {Hi H H0:Hp} {Γ:Sts} {σ:St} {L:List Addr}
theorem Good.prot (g:Good K n W Hi Γ σ H) (no:NoOwn Γ) (hL:∀ x ∈ L,Hi x=none/\∃ o,H x=some o):Good K n (W.prot L H) Hi Γ σ H where
 len:=g.len
 fz:=g.fz
 keep:=fun a o e nf=>by
  simp only [Wd.prot] at e nf
  by_cases h:a ∈ L
  ·rw [yR h] at e; exact e
  ·rw [yM h] at e
   exact g.keep a o e fun z=>nf (List.mem_filter.mpr ⟨z,by simpa using h⟩)
 there:=fun a o e=>by
  simp only [Wd.prot] at e
  by_cases h:a ∈ L
  ·exact (hL a h).2
  ·rw [yM h] at e; exact g.there a o e
 fro:=fun a o e=>by
  simp only [Wd.prot] at e ⊢
  by_cases h:a ∈ L
  ·rw [yR h]; exact (hL a h).1
  ·rw [yM h] at e ⊢; exact g.fro a o e
 val:=g.val
 own:=fun i o e=>yO e (no.own i o)
 apart:=fun i j o o' a e=>yO e (no.own i o)
 bk:=fun i d b xs e=>yO e (no.bk i d b xs)
theorem Good.unprot (g:Good K n (W.prot L H0) Hi Γ σ H) (no:NoOwn Γ) (h0:∀ x ∈ L,W.H₀ x=none):Good K n W Hi Γ σ H where
 len:=g.len
 fz:=g.fz
 keep:=fun a o e nf=>by
  have h:a ∉ L:=fun z=>by rw [h0 a z] at e; cases e
  exact g.keep a o (by simp only [Wd.prot]; rw [yM h]; exact e) fun z=>nf (List.mem_filter.mp z).1
 there:=fun a o e=>by
  have h:a ∉ L:=fun z=>by rw [h0 a z] at e; cases e
  exact g.there a o (by simp only [Wd.prot]; rw [yM h]; exact e)
 fro:=fun a o e=>by
  have h:a ∉ L:=fun z=>by rw [h0 a z] at e; cases e
  have:=g.fro a o (by simp only [Wd.prot]; rw [yM h]; exact e)
  simp only [Wd.prot] at this; rw [yM h] at this; exact this
 val:=g.val
 own:=fun i o e=>yO e (no.own i o)
 apart:=fun i j o o' a e=>yO e (no.own i o)
 bk:=fun i d b xs e=>yO e (no.bk i d b xs)
theorem Good.kept (g:Good K n (W.prot L H0) Hi Γ σ H) {x:Addr} {o:HO} (hx:x ∈ L) (e:H0 x=some o):H x=some o/\Hi x=none:=by
 have e':(W.prot L H0).H₀ x=some o:=by simp only [Wd.prot]; rw [yR hx]; exact e
 have f:=g.fro x o e'; simp only [Wd.prot] at f; rw [yR hx] at f
 exact ⟨g.keep x o e' fun z=>by have:=(List.mem_filter.mp z).2; simp at this; exact this hx,f⟩
theorem Good.toAdr (g:Good K n W Hi Γ σ H) {i:Nat} {o:OD} {a:Addr} (hi:i<n) (e:Γ[i]?=some (.own o)) (ha:adr n W σ i=some a) (no:NoOwn (Γ.set i (.val (.adr a)))):Good K n W Hi (Γ.set i (.val (.adr a))) σ H where
 len:=g.len
 fz:=g.fz
 keep:=g.keep
 there:=g.there
 fro:=g.fro
 val:=fun j d ej=>by
  by_cases h:j=i
  ·subst h
   rw [Yi (yG.mp e).1] at ej; cases ej; exact ⟨.ref a,zhg hi ha,.adr a⟩
  ·rw [yk (fun z=>h z.symm)] at ej
   exact g.val j d ej
 own:=fun j o e=>yO e (no.own j o)
 apart:=fun i j o o' a e=>yO e (no.own i o)
 bk:=fun i d b xs e=>yO e (no.bk i d b xs)
end
abbrev Ent:=List (List Nat) × Addr × List D
structure KdAt (K:W.Frag) (Hi H:Hp) (a:Addr) (es:List Ent):Prop where
 dict:∃ ep,H a=some (.dE (es.map fun e=>(zaN e.1,V.ref e.2.1)) ep)
 hi:Hi a=none
 keys:(es.map (·.1)).Nodup
 adrs:(es.map (·.2.1)).Nodup
 lst:∀ e ∈ es,e.2.1≠a/\Hi e.2.1=none/\∃ vs,H e.2.1=some (.lst vs)/\zbv K Hi vs e.2.2
def kdF (es:List Ent) (p:List (List Nat)):List D:=((es.find? fun e=>decide (e.1=p)).map (·.2.2)).getD []
theorem zjq {p q:List (List Nat)} (h:zaN p=zaN q):p=q:=zeC (by rw [zbu,zbu,h])
theorem zkO (es:List Ent) (p:List (List Nat)):zgg (es.map fun e=>(zaN e.1,V.ref e.2.1)) (zaN p)=(es.find? fun e=>decide (e.1=p)).map fun e=>V.ref e.2.1:=by
 unfold zgg
 induction es with
 | nil=>rfl
 | cons e r ih =>
  rw [yZ,yo,yo]
  by_cases h:e.1=p
  ·simp [h]
  ·have:¬ zaN e.1=zaN p:=fun z=>h (zjq z)
   simp only [yS h,yS this]; exact ih
theorem KdAt.mono {K:W.Frag} {Hi H Hi' H':Hp} {a:Addr} {es:List Ent} (k:KdAt K Hi H a es) (s:zaG Hi Hi') (hk:∀ x ∈ a :: es.map (·.2.1),∀ o,H x=some o->H' x=some o/\Hi' x=none):KdAt K Hi' H' a es:=by
 obtain ⟨ep,e⟩:=k.dict
 refine ⟨⟨ep,(hk a (by simp) _ e).1⟩,(hk a (by simp) _ e).2,k.keys,k.adrs,fun x hx=>?_⟩
 obtain ⟨h1,h2,vs,h3,h4⟩:=k.lst x hx
 have:=hk x.2.1 (yH _ (List.mem_map_of_mem hx)) _ h3
 exact ⟨h1,this.2,vs,this.1,h4.mono s⟩
section
variable {K:W.Frag} {n:Nat} {W:Wd} {Hi H:Hp} {σ:St} {a:Addr} {es:List Ent}
theorem zjX {N2:Ends} {rD nd:Slot} {p ws:List (List Nat)} {l:List Nat} (h6:2<n) (g:Good K n W Hi [rD,.val (.adr a),nd,.val (plc p),.val (plc ws),.val (.str l)] σ H) (k:KdAt K Hi H a es)
  (q:∀ v Hi' H',zaG Hi Hi'->(∀ x o,H x=some o->H' x=some o/\Hi' x=Hi x)->Good K n W Hi' [rD,.val (.adr a),.val (.tup [.str l,plc ws,.tup (kdF es p).reverse]),.val (plc p),.val (plc ws),.val (.str l)] (σ.set 2 (some v)) H'->N2.nx (σ.set 2 (some v)) H') :
  zr0 (zrV (ze2 (ziZ 5) (ze2 (ziZ 4) (ze2 (znW K (zjN (ziZ 1) (ziZ 3) (zpM zlm))) zlm)))) (zkS 2) N2 σ H:=by
 obtain ⟨v5,e5,d5⟩:=g.val 5 _ rfl; obtain ⟨v4,e4,d4⟩:=g.val 4 _ rfl; obtain ⟨v3,e3,d3⟩:=g.val 3 _ rfl; obtain ⟨v1,e1,d1⟩:=g.val 1 _ rfl; have d1':=d1.adrI
 subst d1'
 rw [zbu] at d3; obtain ⟨b,rfl,hb⟩:=zdA d3; obtain ⟨ep,hd⟩:=k.dict
 refine ⟨v5,e5,v4,e4,.ref a,e1,a,_,ep,rfl,hd,.ref b,e3,yf _,fun q1 hq1=>?_⟩
 have x1:=Ext.newO g.fz hq1 (.lst []) (fun _ z=>nomatch z)
 have g1:=g.ext x1
 have na:a≠q1:=fun z=>by rw [<- z,hd] at hq1; cases hq1
 refine ⟨_,⟨_,ep,zaN p,b,by rw [zN na]; exact hd,rfl,x1.h _ _ (g.sub _ _ hb),(zkO es p).symm⟩,?_⟩
 have fin:∀ vs:List V,zbv K Hi vs (kdF es p)->∀ p2,upd H q1 (.lst []) p2=none->([v5,v4,.ref p2]:List V).length<=sizeLine/\∀ p3,upd (upd H q1 (.lst [])) p2 (.tup vs.reverse) p3=none->zkS 2 (.ref p3) σ (upd (upd (upd H q1 (.lst [])) p2 (.tup vs.reverse)) p3 (.tup [v5,v4,.ref p2])) N2.nx:=by
  intro vs dvs p2 hp2
  refine ⟨YZ (zaW (by simp)),fun p3 hp3=>?_⟩
  have x2:=Ext.new g1.fz hp2 (.tup vs.reverse); have g2:=g1.ext x2; have x3:=Ext.new g2.fz hp3 (.tup [v5,v4,.ref p2]); have g3:=g2.ext x3
  have ss:zaG Hi (upd (upd Hi p2 (.tup vs.reverse)) p3 (.tup [v5,v4,.ref p2])):=x1.hi.trans (x2.hi.trans x3.hi)
  have dn:Den K (upd (upd Hi p2 (.tup vs.reverse)) p3 (.tup [v5,v4,.ref p2])) (.ref p3) (.tup [.str l,plc ws,.tup (kdF es p).reverse]) :=
   Den.mkT zu (.cons (d5.mono ss) (.cons (d4.mono ss) (.cons (Den.mkT (x3.hi _ _ zu) ((zpp dvs).mono ss)) .nil)))
  have g4:=g3.set (i:=2) h6 dn
  refine q _ _ _ ss (fun x o e=>⟨x3.h _ _ (x2.h _ _ (x1.h _ _ e)),?_⟩) g4
  exact (x3.fro _ _ (x2.h _ _ (x1.h _ _ e))).trans (x2.fro _ _ (x1.h _ _ e))
 cases hf:es.find? fun e=>decide (e.1=p) with
 | none =>
  refine ⟨q1,[],rfl,SqL.of zu,fin [] ?_⟩; unfold kdF; rw [hf]; exact .nil
 | some e =>
  have hm:=List.mem_of_find?_eq_some hf; obtain ⟨_,_,vs,h3,h4⟩:=k.lst e hm; refine ⟨e.2.1,vs,rfl,SqL.of (x1.h _ _ h3),fin vs ?_⟩; unfold kdF; rw [hf]; exact h4
theorem NoOwn.free {Γ:Sts} (no:NoOwn Γ) (x:Addr):Free n W Γ σ x:=⟨fun j o e=>yO e (no.own j o),fun j d xs e=>yO e (no.bk j d x xs)⟩
def zly (es:List Ent) (q:List (List Nat)) (d:D):List Ent:=es.map fun x=>if x.1=q then (x.1,x.2.1,x.2.2 ++ [d]) else x
theorem znd (es:List Ent) (q:List (List Nat)) (d:D):(zly es q d).map (·.1)=es.map (·.1):=by
 unfold zly; rw [yh]
 refine yu fun x _=>?_
 show (if x.1=q then (x.1,x.2.1,x.2.2 ++ [d]) else x).1=x.1
 split <;> rfl
theorem ziS (es:List Ent) (q:List (List Nat)) (d:D):(zly es q d).map (·.2.1)=es.map (·.2.1):=by
 unfold zly; rw [yh]
 refine yu fun x _=>?_
 show (if x.1=q then (x.1,x.2.1,x.2.2 ++ [d]) else x).2.1=x.2.1
 split <;> rfl
theorem znc (es:List Ent) (q:List (List Nat)) (d:D):((zly es q d).map fun e=>(zaN e.1,V.ref e.2.1))=es.map fun e=>(zaN e.1,V.ref e.2.1):=by
 unfold zly; rw [yh]
 refine yu fun x _=>?_
 show (zaN (if x.1=q then (x.1,x.2.1,x.2.2 ++ [d]) else x).1,V.ref (if x.1=q then (x.1,x.2.1,x.2.2 ++ [d]) else x).2.1)=_
 split <;> rfl
theorem zo4 {es:List Ent} {q:List (List Nat)} (d:D) {e:Ent} (h:es.find? (fun e=>decide (e.1=q))=some e) (p:List (List Nat)):kdF (zly es q d) p=if p=q then kdF es p ++ [d] else kdF es p:=by
 unfold kdF zly
 induction es with
 | nil=>cases h
 | cons x r ih =>
  rw [yZ,yo,yo]; rw [yo] at h
  by_cases hx:x.1=q
  ·by_cases hp:p=q
   ·subst hp
    simp [hx]
   ·have:¬ x.1=p:=fun z=>hp (z.symm.trans hx)
    have this':¬ q=p:=fun z=>hp z.symm
    rw [yM hp]; simp only [yR hx,yS this]
    clear ih h
    congr 1
    induction r with
    | nil=>rfl
    | cons y r ih2 =>
     rw [yZ,yo,yo]
     by_cases hy:y.1=q
     ·have hy':¬ y.1=p:=fun z=>hp (z.symm.trans hy)
      simp only [yR hy,yS hy']; exact ih2
     ·by_cases hy':y.1=p
      ·rw [yM hy]
       simp only [yp hy']
      ·simp only [yM hy,yS hy']
       exact ih2
  ·simp only [yS hx] at h
   have:=ih h
   by_cases hxp:x.1=p
   ·have hpq:¬ p=q:=fun z=>hx (hxp.trans z)
    simp [hxp,hpq]
   ·simp only [yM hx,yS hxp]
    exact this
theorem zo3 {es:List Ent} {q:List (List Nat)} (d:D) (b:Addr) (h:es.find? (fun e=>decide (e.1=q))=none) (p:List (List Nat)):kdF (es ++ [(q,b,[d])]) p=if p=q then kdF es p ++ [d] else kdF es p:=by
 unfold kdF; rw [List.find?_append]
 by_cases hp:p=q
 ·subst hp
  rw [h]; simp
 ·rw [yM hp]
  have:¬ q=p:=fun z=>hp z.symm
  cases es.find? fun e=>decide (e.1=p) <;> simp [this]
theorem zlT {N2:Ends} {rD sl:Slot} {nd:D} {p ws:List (List Nat)} (h6:n=6) (g:Good K n W Hi [rD,.val (.adr a),.val nd,.val (plc p),.val (plc ws),sl] σ H) (no:NoOwn [rD,.val (.adr a),.val nd,.val (plc p),.val (plc ws),sl]) (k:KdAt K Hi H a es)
  (hL:∀ x ∈ a :: es.map (·.2.1),W.H₀ x=none) (hl:es.length<900) (hs:∀ e ∈ es,e.2.2.length<900)
  (q:∀ es' Hi' H',zaG Hi Hi'->Good K n W Hi' [rD,.val (.adr a),.val nd,.val (plc p),.val (plc ws),sl] σ H'->KdAt K Hi' H' a es'->(∀ x ∈ a :: es'.map (·.2.1),W.H₀ x=none)->es'.length<=es.length+1->(∀ m,(∀ e ∈ es,e.2.2.length<=m)->∀ e ∈ es',e.2.2.length<=m+1)->(∀ r,kdF es' r=if r=p.dropLast then kdF es r ++ [nd] else kdF es r)->N2.nx σ H') :
  znY (tBM K "list" zhs (zjM (ziZ 1) (tOf K n (zaY zi9 (zB 3) zY (zaZ (tC' (.int (-1)))))) (zpM zlm)) (ze2 (ziZ 2) zlm)) N2 σ H:=by
 obtain ⟨v2,e2,d2⟩:=g.val 2 _ rfl; obtain ⟨v1,e1,d1⟩:=g.val 1 _ rfl; have d1':=d1.adrI
 subst d1'
 obtain ⟨ep,hd⟩:=k.dict
 have hL2:∀ x ∈ a :: es.map (·.2.1),Hi x=none/\∃ o,H x=some o:=fun x hx=>by
  rcases yN.mp hx with rfl | hx
  ·exact ⟨k.hi,_,hd⟩
  ·obtain ⟨e,he,rfl⟩:=yU.mp hx
   obtain ⟨_,h2,vs,h3,_⟩:=k.lst e he; exact ⟨h2,_,h3⟩
 refine ⟨.ref a,e1,a,_,ep,rfl,hd,W.prot (a :: es.map (·.2.1)) H,Hi,_,(fun d Γ'=>d=plc p.dropLast/\Γ'=[rD,.val (.adr a),.val nd,.val (plc p),.val (plc ws),sl]),g.prot no hL2,?_,?_⟩
 ·simp [zaY,zB,zY,zaZ,tC',zg1]
 rintro y H2 ⟨Hi2,d,Γ',s2,g2,dn,rfl,rfl⟩
 have k2:KdAt K Hi2 H2 a es:=k.mono s2 fun x hx o e=>g2.kept hx e
 have g2':=g2.unprot no hL; rw [zbu] at dn; obtain ⟨b,rfl,hb⟩:=zdA dn; obtain ⟨ep2,hd2⟩:=k2.dict
 refine ⟨yf _,fun q1 hq1=>?_⟩
 have x1:=Ext.newO g2'.fz hq1 (.lst []) (fun _ z=>nomatch z)
 have g3:=g2'.ext x1
 have na:a≠q1:=fun z=>by rw [<- z,hd2] at hq1; cases hq1
 have hW1:W.H₀ q1=none:=by
  cases hc:W.H₀ q1 with
  | none=>rfl
  | some o=>obtain ⟨o',ho⟩:=g2'.there _ _ hc; rw [hq1] at ho; cases ho
 have hi1:Hi2 q1=none:=g2'.fz.sub.free hq1
 have d2':=d2.mono s2
 have hne:∀ e ∈ es,e.2.1≠q1:=fun e he z=>by
  obtain ⟨_,_,vs,h3,_⟩:=k2.lst e he; rw [z,hq1] at h3; cases h3
 refine ⟨_,ep2,zaN p.dropLast,b,by rw [zN na]; exact hd2,rfl,x1.h _ _ (g2'.sub _ _ hb),by rw [yE]; exact zaW (by omega),fun v hv=>?_,fun hv ep'=>?_⟩
 ·rw [zkO] at hv
  cases hf:es.find? fun e=>decide (e.1=p.dropLast) with
  | none=>rw [hf] at hv; cases hv
  | some e =>
   rw [hf] at hv; cases hv; have hm:=List.mem_of_find?_eq_some hf
   have hk:e.1=p.dropLast:=by simpa using List.find?_some hf
   obtain ⟨n1,n2,vs,n3,n4⟩:=k2.lst e hm
   have n3':upd H2 q1 (.lst []) e.2.1=some (.lst vs):=x1.h _ _ n3
   refine ⟨.inl ⟨rfl,vs,SqL.of n3'⟩,v2,e2,e.2.1,vs,v2,rfl,rfl,n3',zaW (by rw [zl n4]; have:=hs e hm; omega),?_⟩
   refine q (zly es p.dropLast nd) Hi2 _ s2 (g3.putN n2 (hL _ (yH _ (List.mem_map_of_mem hm))) (no.free _) (fun _ z=>nomatch z)) ⟨⟨ep2,?_⟩,k2.hi,by rw [znd]; exact k2.keys,by rw [ziS]; exact k2.adrs,fun x hx=>?_⟩ (by rw [ziS]; exact hL) (by unfold zly; rw [yE]; omega) (fun m hm' x hx=>?_) (zo4 nd hf)
   ·rw [zN (fun z=>n1 z.symm),zN na,znc]
    exact hd2
   ·obtain ⟨x0,hx0,rfl⟩:=yU.mp hx
    obtain ⟨m1,m2,us,m3,m4⟩:=k2.lst x0 hx0
    by_cases hxk:x0.1=p.dropLast
    ·rw [yR hxk]
     have ee:x0=e:=by
      have nd:=k2.keys
      have:∀ {l:List Ent},(l.map (·.1)).Nodup->∀ x ∈ l,∀ y ∈ l,x.1=y.1->x=y:=by
       intro l
       induction l with
       | nil=>intro _ x hx; cases hx
       | cons z r ih =>
        intro nd x hx y hy exy; have nd':=YC.mp nd
        rcases yN.mp hx with h1 | h1
        ·rcases yN.mp hy with h2 | h2
         ·rw [h1,h2]
         ·exact yO (yU.mpr ⟨y,h2,by rw [<- exy,h1]⟩) nd'.1
        ·rcases yN.mp hy with h2 | h2
         ·exact yO (yU.mpr ⟨x,h1,by rw [exy,h2]⟩) nd'.1
         ·exact ih nd'.2 x h1 y h2 exy
      exact this nd x0 hx0 e hm (hxk.trans hk.symm)
     subst ee; exact ⟨n1,n2,_,zu,paired_app n4 (.cons d2' .nil)⟩
    ·rw [yM hxk]
     have ne:x0.2.1≠e.2.1:=fun z=>by
      have:∀ {l:List Ent},(l.map (·.2.1)).Nodup->∀ x ∈ l,∀ y ∈ l,x.2.1=y.2.1->x=y:=by
       intro l
       induction l with
       | nil=>intro _ x hx; cases hx
       | cons z r ih =>
        intro nd x hx y hy exy; have nd':=YC.mp nd
        rcases yN.mp hx with h1 | h1
        ·rcases yN.mp hy with h2 | h2
         ·rw [h1,h2]
         ·exact yO (yU.mpr ⟨y,h2,by rw [<- exy,h1]⟩) nd'.1
        ·rcases yN.mp hy with h2 | h2
         ·exact yO (yU.mpr ⟨x,h1,by rw [exy,h2]⟩) nd'.1
         ·exact ih nd'.2 x h1 y h2 exy
      have:=this k2.adrs x0 hx0 e hm z
      rw [this] at hxk; exact hxk hk
     exact ⟨m1,m2,us,by rw [zN ne,zN (hne x0 hx0)]; exact m3,m4⟩
   ·obtain ⟨x0,hx0,rfl⟩:=yU.mp hx
    have hx1:=hm' x0 hx0
    by_cases hxk:x0.1=p.dropLast
    ·rw [yR hxk]
     show (x0.2.2 ++ [nd]).length<=m+1
     rw [yP,YW]; omega
    ·rw [yM hxk]
     omega
 ·rw [zkO] at hv
  cases hf:es.find? fun e=>decide (e.1=p.dropLast) with
  | some e=>rw [hf] at hv; cases hv
  | none =>
   have e4:upd (upd H2 q1 (.lst [])) a (.dE ((es.map fun e=>(zaN e.1,V.ref e.2.1)) ++ [(zaN p.dropLast,V.ref q1)]) ep') q1=some (.lst []):=by
    rw [zN (fun z=>na z.symm)]
    exact zu
   refine ⟨.inl ⟨rfl,[],SqL.of e4⟩,v2,e2,q1,[],v2,rfl,rfl,e4,zaW (by simp),?_⟩
   have g4:=g3.putN (p:=a) (u:=.dE ((es.map fun e=>(zaN e.1,V.ref e.2.1)) ++ [(zaN p.dropLast,V.ref q1)]) ep') k2.hi (hL a (by simp)) (no.free a) (fun _ z=>nomatch z)
   have hno:∀ e ∈ es,e.1≠p.dropLast:=fun e he=>by simpa using List.find?_eq_none.mp hf e he
   refine q (es ++ [(p.dropLast,q1,[nd])]) Hi2 _ s2 (g4.putN hi1 hW1 (no.free q1) (fun _ z=>nomatch z)) ⟨⟨ep',?_⟩,k2.hi,?_,?_,fun x hx=>?_⟩ (fun x hx=>?_) (by simp) (fun m hm' x hx=>?_) (zo3 nd q1 hf)
   ·rw [zN na,zu,YM]
    rfl
   ·rw [YM,List.nodup_append]
    refine ⟨k2.keys,by simp,fun x hx y hy e=>?_⟩
    obtain ⟨z,hz,rfl⟩:=yU.mp hx
    exact hno z hz (by rw [e]; simpa using hy)
   ·rw [YM,List.nodup_append]
    refine ⟨k2.adrs,by simp,fun x hx y hy e=>?_⟩
    obtain ⟨z,hz,rfl⟩:=yU.mp hx
    exact hne z hz (by rw [e]; simpa using hy)
   ·rcases yn.mp hx with z | z
    ·obtain ⟨m1,m2,us,m3,m4⟩:=k2.lst x z
     exact ⟨m1,m2,us,by rw [zN (hne x z),zN m1,zN (hne x z)]; exact m3,m4⟩
    ·rw [YI.mp z]
     exact ⟨fun z=>na z.symm,hi1,_,zu,.cons d2' .nil⟩
   ·rcases yN.mp hx with rfl | hx
    ·exact hL _ (by simp)
    ·rw [YM] at hx
     rcases yn.mp hx with z | z
     ·exact hL x (yH _ z)
     ·rw [show x=q1 by simpa using z]; exact hW1
   ·rcases yn.mp hx with z | z
    ·have:=hm' x z; omega
    ·rw [YI.mp z]; simp
end
abbrev Row:=List (List Nat) × List (List Nat)
def zhi (r:Row):D:=.tup [plc r.1,plc r.2]
def zgL (p:List (List Nat)):List Nat:=p.getLast?.getD []
def zkz (f:List (List Nat)->List D) (r:Row):D:=.tup [.str (zgL r.1),plc r.2,.tup (f r.1).reverse]
def zgl (s:(List (List Nat)->List D) × D) (r:Row):(List (List Nat)->List D) × D:=(fun q=>if q=r.1.dropLast then s.1 q ++ [zkz s.1 r] else s.1 q,zkz s.1 r)
def zjt (rows:List Row):(List (List Nat)->List D) × D:=rows.foldl zgl (fun _=>[],.non)
def zaq:TS':=fun N Γ=>∃ rows:List Row,Γ=[.val (.lst (rows.map zhi)),.own (.dit []),.val .non,.emp,.emp,.emp]/\rows.length<=800/\∀ a s3 s4 s5,N.nx [.val (.lst (rows.map zhi)),.val (.adr a),.val (zjt rows.reverse).2,s3,s4,s5]
section
variable {X:Cx}
theorem no6 {x y z w:D} {s3 s4:Slot} (h3:s3=.emp\/∃ d,s3=.val d) (h4:s4=.emp\/∃ d,s4=.val d) {s5:Slot} (h5:s5=.emp\/∃ d,s5=.val d):NoOwn [.val x,.val y,.val z,s3,s4,s5]:=by
 constructor
 ·intro i o e
  rcases h3 with rfl | ⟨_,rfl⟩ <;> rcases h4 with rfl | ⟨_,rfl⟩ <;> rcases h5 with rfl | ⟨_,rfl⟩ <;> (match i,e with
   | 0,e | 1,e | 2,e | 3,e | 4,e | 5,e=>cases e
   | _+6,e=>cases e)
 ·intro i d b xs e
  rcases h3 with rfl | ⟨_,rfl⟩ <;> rcases h4 with rfl | ⟨_,rfl⟩ <;> rcases h5 with rfl | ⟨_,rfl⟩ <;> (match i,e with
   | 0,e | 1,e | 2,e | 3,e | 4,e | 5,e=>cases e
   | _+6,e=>cases e)
theorem zok {tg iter:Expr} {S1 S2 S3:Stmt} {t1:TS'} {pos:Pos} (hn:X.N.length=6) (hi:PI' X tg iter (zah (zt (zB 0) zR))) (hg:PG' X tg (zZ 2 (zx (zr 3) (zx (zr 4) zaa)))) (h1:PS' X S1 t1)
  (ht1:∀ (N:Ends') (rD nd s5:Slot) (a:Addr) (p ws:List (List Nat)),N.nx [rD,.val (.adr a),nd,.val (plc p),.val (plc ws),.val (.str (zgL p))]->t1 N [rD,.val (.adr a),nd,.val (plc p),.val (plc ws),s5])
  (h2:PS X S2 (zr0 (zrV (ze2 (ziZ 5) (ze2 (ziZ 4) (ze2 (znW X.K (zjN (ziZ 1) (ziZ 3) (zpM zlm))) zlm)))) (zkS 2)))
  (h3:PS X S3 (znY (tBM X.K "list" zhs (zjM (ziZ 1) (tOf X.K X.N.length (zaY zi9 (zB 3) zY (zaZ (tC' (.int (-1)))))) (zpM zlm)) (ze2 (ziZ 2) zlm))))
  (hp:PassesOwn (model X.prog X.w) X.A X.env X.xe:=by exact PassesOwn.never) (hc:X.calm=true:=by rfl) (hs:∀ x,foldedSetIterable iter X.env x=pure x:=by intro _; rfl):PS' X (.For tg iter [S1,S2,S3] [] pos) zaq:=by
 refine ⟨PS.weak (znm hp hc hi.h hg.h (zfR h1.h (zfR h2 (zka h3))) hs) ?_⟩
 rintro N2 σ H ⟨W,Hi,Γ,N,gd,⟨rows,rfl,hlen,q⟩,l⟩
 refine ⟨W,Hi,_,(fun ds Γ'=>ds=(rows.map zhi).reverse/\Γ'=[.val (.lst (rows.map zhi)),.own (.dit []),.val .non,.emp,.emp,.emp]),gd,by simp [zah,zt,zB,zR],?_⟩
 rintro J H1 Hi1 Γ1 ds s1 g1 itd ⟨rfl,rfl⟩
 obtain ⟨a,o1,o2,o3,kvs,ep,o4,o5⟩:=g1.own 1 _ rfl
 have h1n:1<X.N.length:=by omega
 have ek:kvs=[]:=by cases o5; rfl
 subst ek
 have ga:Good X.K X.N.length W Hi1 [.val (.lst (rows.map zhi)),.val (.adr a),.val .non,.emp,.emp,.emp] σ H1:=g1.toAdr (i:=1) h1n rfl o1 (no6 (w:=.non) (.inl rfl) (.inl rfl) (.inl rfl))
 refine ⟨fun i m σ' H'=>m=rows.length-i/\i<=rows.length/\∃ Hi' es nd s3 s4 s5,zaG Hi1 Hi'/\Good X.K X.N.length W Hi' [.val (.lst (rows.map zhi)),.val (.adr a),.val nd,s3,s4,s5] σ' H'/\NoOwn [.val (.lst (rows.map zhi)),.val (.adr a),.val nd,s3,s4,s5]/\(s3=.emp\/∃ d,s3=.val d)/\(s4=.emp\/∃ d,s4=.val d)/\(s5=.emp\/∃ d,s5=.val d)/\KdAt X.K Hi' H' a es/\(∀ x ∈ a :: es.map (·.2.1),W.H₀ x=none)/\es.length<=i/\(∀ e ∈ es,e.2.2.length<=i)/\zjt (rows.reverse.take i)=(kdF es,nd),
  ⟨rows.length,by simp,yf _,Hi1,[],.non,.emp,.emp,.emp,zaG.refl _,ga,no6 (w:=.non) (.inl rfl) (.inl rfl) (.inl rfl),.inl rfl,.inl rfl,.inl rfl,⟨⟨ep,o4⟩,o2,by simp,by simp,by simp⟩,by simpa using o3 h1n,by simp,by simp,rfl⟩,?_⟩
 rintro i m σ' H' ⟨rfl,hi',Hi',es,nd,s3,s4,s5,s2,g2,no,f3,f4,f5,kd,hL,he,hs',hf⟩
 have wk:=itd Hi' H' s2 g2.fz
 by_cases hlt:i<rows.length
 ·have hr:i<rows.reverse.length:=by rw [yj]; exact hlt
  obtain ⟨r,hrr⟩:∃ r,rows.reverse[i]?=some r:=⟨_,yB hr⟩
  obtain ⟨go,yl⟩:=wk.1 i (zhi r) (by rw [<- List.map_reverse,yJ,hrr]; rfl)
  refine .inr ⟨go,_,fun σ3 H3 z=>⟨rows.length-(i+1),by omega,rfl,hlt,z⟩,fun x H'' y=>?_⟩
  obtain ⟨Hi'',ex,den⟩:=yl x H'' y
  have hiL:∀ x ∈ a :: es.map (·.2.1),Hi' x=none/\∃ o,H' x=some o:=fun x hx=>by
   rcases yN.mp hx with rfl | hx
   ·obtain ⟨ep,e⟩:=kd.dict
    exact ⟨kd.hi,_,e⟩
   ·obtain ⟨e,he,rfl⟩:=yU.mp hx
    obtain ⟨_,h2,vs,h3,_⟩:=kd.lst e he; exact ⟨h2,_,h3⟩
  have kd1:KdAt X.K Hi'' H'' a es:=kd.mono ex.hi fun x hx o e=>⟨ex.h _ _ e,(ex.fro _ _ e).trans (hiL x hx).1⟩
  have hiL1:∀ x ∈ a :: es.map (·.2.1),Hi'' x=none/\∃ o,H'' x=some o:=fun x hx=>by
   obtain ⟨h1,o,h2⟩:=hiL x hx; exact ⟨(ex.fro _ _ h2).trans h1,o,ex.h _ _ h2⟩
  refine ⟨W.prot (a :: es.map (·.2.1)) H'',Hi'',_,zhi r,(fun Γ'=>Γ'=[.val (.lst (rows.map zhi)),.val (.adr a),.val nd,.val (plc r.1),.val (plc r.2),s5]),(g2.ext ex).prot no hiL1,den,⟨[plc r.1,plc r.2],rfl,rfl,plc r.1,[plc r.2],rfl,plc r.2,[],rfl,rfl,rfl⟩,?_⟩
  rintro σ4 H4 Hi4 Γ4 s4' g4 rfl
  refine ⟨W.prot (a :: es.map (·.2.1)) H'',Hi4,_,{ nx:=fun Γ'=>Γ'=[.val (.lst (rows.map zhi)),.val (.adr a),.val nd,.val (plc r.1),.val (plc r.2),.val (.str (zgL r.1))],rt:=fun _ _=>False,bk:=fun _=>False,ct:=fun _=>False },g4,ht1 _ _ _ _ _ _ _ rfl,⟨fun σ5 H5 Hi5 Γ5 s5' g5 e5=>?_,fun _ _ _ _ _ _ z=>z.elim,fun _ _ _ _ _ _ z=>z.elim,fun _ _ _ _ _ _ _ _ _ z=>z.elim⟩⟩
  subst e5
  have no5:NoOwn [.val (.lst (rows.map zhi)),.val (.adr a),.val nd,.val (plc r.1),.val (plc r.2),.val (.str (zgL r.1))]:=no6 (w:=.non) (.inr ⟨_,rfl⟩) (.inr ⟨_,rfl⟩) (.inr ⟨_,rfl⟩)
  have kd3:KdAt X.K Hi5 H5 a es:=kd1.mono (s4'.trans s5') fun x hx o e=>g5.kept hx e
  have g5':=g5.unprot no5 hL
  refine zjX (by omega) g5' kd3 fun v Hi6 H6 s6 kp6 g6=>?_
  have no6':NoOwn [.val (.lst (rows.map zhi)),.val (.adr a),.val (zkz (kdF es) r),.val (plc r.1),.val (plc r.2),.val (.str (zgL r.1))]:=no6 (w:=.non) (.inr ⟨_,rfl⟩) (.inr ⟨_,rfl⟩) (.inr ⟨_,rfl⟩)
  have kd6:KdAt X.K Hi6 H6 a es:=kd3.mono s6 fun x hx o e=>by
   obtain ⟨k1,k2⟩:=kp6 x o e; refine ⟨k1,k2.trans ?_⟩
   rcases yN.mp hx with rfl | hx
   ·exact kd3.hi
   ·obtain ⟨e',he',rfl⟩:=yU.mp hx
    exact (kd3.lst e' he').2.1
  refine zlT hn g6 no6' kd6 hL (by omega) (fun e he=>by have:=hs' e he; omega) fun es' Hi7 H7 s7 g7 k7 hL7 hl7 hs7 hf7=>?_
  refine ⟨Hi7,es',_,_,_,_,?_,g7,no6',.inr ⟨_,rfl⟩,.inr ⟨_,rfl⟩,.inr ⟨_,rfl⟩,k7,hL7,by omega,fun e he'=>hs7 i hs' e he',?_⟩
  ·exact s2.trans (ex.hi.trans (s4'.trans (s5'.trans (s6.trans s7))))
  ·unfold zjt at hf ⊢
   rw [YH,hrr,List.foldl_append,hf]
   show zgl (kdF es,nd) r=_
   unfold zgl
   exact Prod.ext (funext fun z=>(hf7 z).symm) rfl
 ·have e:i=rows.length:=by omega
  subst e; have wk2:=wk.2; rw [yj,yE] at wk2
  rw [show rows.reverse.take rows.length=rows.reverse from yd (by simp)] at hf
  refine .inl ⟨wk2,l.nx σ' H' Hi' _ (s1.trans s2) g2 ?_⟩
  have:=q a s3 s4 s5
  rw [hf] at this; exact this
end
end PL
namespace M12
open PySem L2 Lb PL MT MS M04
mutual
def zaR:Tr->Pl->List Row
 | .node _ ws ks,p=>(p,ws) :: zbT ks p
def zbT:List Tr->Pl->List Row
 | [],_=>[]
 | k :: ks,p=>zaR k (p ++ [k.lab]) ++ zbT ks p
end
theorem zlU (t:Tr) (p:Pl):zaR t p=(p,t.wds) :: zbT t.kds p:=by cases t; rfl
inductive Ds:Tr->Prop where
 | mk {l:List Nat} {ws:Pl} {ks:List Tr} (h:(ks.map Tr.lab).Nodup) (hk:∀ k ∈ ks,Ds k):Ds (.node l ws ks)
theorem Ds.nd {t:Tr} (h:Ds t):(t.kds.map Tr.lab).Nodup:=by cases h; assumption
theorem Ds.kids {t:Tr} (h:Ds t):∀ k ∈ t.kds,Ds k:=by cases h; assumption
theorem zjk (p:Pl) (l:List Nat):zgL (p ++ [l])=l:=by simp [zgL]
mutual
theorem zgT (t:Tr) (h:Ds t) (p:Pl) (hp:zgL p=t.lab) (f:Pl->List D) (nd:D) (hf:∀ r,f (p ++ r)=[]) :
  ∃ f':Pl->List D,(zaR t p).reverse.foldl zgl (f,nd)=(f',trD t)/\(∀ x,x≠p.dropLast->¬ p <+: x->f' x=f x)/\(¬ p <+: p.dropLast->f' p.dropLast=f p.dropLast ++ [trD t]):=by
 match t,h with
 | .node l ws ks,h =>
  obtain ⟨g,nd',e,h1,h2⟩:=zgU ks h.nd h.kids p f nd fun k _ r=>by rw [List.append_assoc]; exact hf _
  have hr:zaR (.node l ws ks) p=(p,ws) :: zbT ks p:=rfl
  have hp0:f p=[]:=by have:=hf []; rwa [YJ] at this
  have en:zkz g (p,ws)=trD (.node l ws ks):=by
   unfold zkz; rw [h1,hp0,hp,zbI]; simp [Tr.lab,Tr.wds,Tr.kds]
  refine ⟨fun q=>if q=p.dropLast then g q ++ [trD (.node l ws ks)] else g q,?_,fun x hx hn=>?_,fun hn=>?_⟩
  ·rw [hr,List.reverse_cons,List.foldl_append,e]
   show zgl (g,nd') (p,ws)=_
   unfold zgl; rw [en]
  ·show (if x=p.dropLast then _ else g x)=f x
   rw [yM hx]
   refine h2 x (fun z=>hn (z ▸ List.prefix_refl _)) fun k _ z=>hn ((List.prefix_append _ _).trans z)
  ·show (if p.dropLast=p.dropLast then g p.dropLast ++ [trD (.node l ws ks)] else _)=_
   rw [yR rfl,h2 p.dropLast (fun z=>hn (by rw [z]; exact List.prefix_refl _)) fun k _ z=>hn ((List.prefix_append _ _).trans z)]
theorem zgU (ks:List Tr) (nd0:(ks.map Tr.lab).Nodup) (hk:∀ k ∈ ks,Ds k) (p:Pl) (f:Pl->List D) (nd:D) (hf:∀ k ∈ ks,∀ r,f (p ++ [k.lab] ++ r)=[]) :
  ∃ (f':Pl->List D) (nd':D),(zbT ks p).reverse.foldl zgl (f,nd)=(f',nd')/\f' p=f p ++ (ks.map trD).reverse/\∀ x,x≠p->(∀ k ∈ ks,¬ p ++ [k.lab] <+: x)->f' x=f x:=by
 match ks,nd0,hk,hf with
 | [],_,_,_=>exact ⟨f,nd,rfl,by simp,fun _ _ _=>rfl⟩
 | k :: r,nd0,hk,hf =>
  have nd1:=YC.mp nd0
  obtain ⟨g,nd',e,h1,h2⟩:=zgU r nd1.2 (fun x hx=>hk x (yH _ hx)) p f nd fun x hx=>hf x (yH _ hx)
  have hne:∀ s:Pl,p ++ [k.lab] ++ s≠p:=fun s z=>by
   have:=ye List.length z
   simp at this
  have hpre:∀ (x:Tr),x ∈ r->∀ s:Pl,¬ p ++ [x.lab] <+: p ++ [k.lab] ++ s:=fun x hx s ⟨u,z⟩=>by
   rw [List.append_assoc,List.append_assoc] at z; have z2:=List.append_cancel_left z
   simp at z2
   exact nd1.1 (yU.mpr ⟨x,hx,z2.1⟩)
  obtain ⟨g2,e2,h3,h4⟩:=zgT k (hk k (by simp)) (p ++ [k.lab]) (zjk p k.lab) g nd' fun s=>by
   rw [h2 _ (hne s) fun x hx=>hpre x hx s]
   exact hf k (by simp) s
  have hd:(p ++ [k.lab]).dropLast=p:=List.dropLast_concat
  rw [hd] at h3 h4
  have hnp:¬ p ++ [k.lab] <+: p:=fun ⟨u,z⟩=>by
   have:=ye List.length z
   simp at this
  refine ⟨g2,trD k,?_,?_,fun x hx hn=>?_⟩
  ·show (zaR k (p ++ [k.lab]) ++ zbT r p).reverse.foldl zgl (f,nd)=_
   rw [List.reverse_append,List.foldl_append,e,e2]
  ·rw [h4 hnp,h1]
   simp
  ·rw [h3 x hx (hn k (by simp)),h2 x hx fun y hy=>hn y (yH _ hy)]
end
theorem zm1 (t:Tr) (h:Ds t) (hl:t.lab=[]):(zjt (zaR t []).reverse).2=trD t:=by
 obtain ⟨f,e,_⟩:=zgT t h [] (by rw [hl]; rfl) (fun _=>[]) .non fun _=>rfl
 unfold zjt; rw [e]
theorem zkf {l:List Nat} (h:zS l=true):∀ c ∈ l,dig c=true\/sml c=true:=fun c hc=>by
 unfold zS at h; simp only [yg,ym] at h
 obtain ⟨⟨⟨⟨a1,a2⟩,_⟩,a3⟩,a4⟩:=h
 rw [<- zcM l] at hc
 rcases yn.mp hc with hm | hm
 ·exact .inl (yW.mp a3 c hm)
 ·exact .inr (zfz l c hm)
theorem zom {l:List Nat} (h:zS l=true) {c:Nat} (h1:dig c=false) (h2:sml c=false):c ∉ l:=fun hc=>by
 rcases zkf h c hc with z | z
 ·rw [h1] at z; cases z
 ·rw [h2] at z; cases z
theorem zf3 (c:Nat):∀ {L:List (List Nat)} {x:Nat},x ∈ za6 c L->x=c\/∃ a ∈ L,x ∈ a
 | [],x,h=>by cases h
 | [a],x,h=>.inr ⟨a,by simp,h⟩
 | a :: b :: r,x,h=>by
  have h:x ∈ a ++ c :: za6 c (b :: r):=h
  rcases yn.mp h with z | z
  ·exact .inr ⟨a,by simp,z⟩
  ·rcases yN.mp z with z | z
   ·exact .inl z
   ·rcases zf3 c z with z | ⟨y,hy,z⟩
    ·exact .inl z
    ·exact .inr ⟨y,yH _ hy,z⟩
theorem zjK {p:Pl} (h:p.all zS=true) {c:Nat} (h1:dig c=false) (h2:sml c=false) (h3:c≠46):c ∉ M11.textOf p:=fun hc=>by
 unfold M11.textOf at hc; split at hc
 ·rw [YI] at hc; exact h3 hc
 ·rcases zf3 46 hc with z | ⟨a,ha,z⟩
  ·exact h3 z
  ·exact zom (yW.mp h a ha) h1 h2 z
def ze4 (r:Row):List Nat:=za6 32 (M11.textOf r.1 :: r.2)
def zcb (t:Tr):List Nat:=za6 10 ((zaR t []).map ze4)
structure RowOk (r:Row):Prop where
 len:r.1.length<=8
 lab:r.1.all zS=true
 wds:r.2.length<=4
 wlen:∀ w ∈ r.2,w.length<=12
 wno:∀ w ∈ r.2,32 ∉ w/\10 ∉ w
theorem zj0 {r:Row} (h:RowOk r):spl 32 (ze4 r)=M11.textOf r.1 :: r.2:=by
 refine zfB (by simp) fun a ha=>?_
 rcases yN.mp ha with rfl | ha
 ·exact zjK h.lab (by decide) (by decide) (by decide)
 ·exact (h.wno a ha).1
theorem zpX {r:Row} (h:RowOk r):10 ∉ ze4 r:=fun hc=>by
 rcases zf3 32 hc with z | ⟨a,ha,z⟩
 ·cases z
 ·rcases yN.mp ha with rfl | ha
  ·exact zjK h.lab (by decide) (by decide) (by decide) z
  ·exact (h.wno a ha).2 z
theorem zel {t:Tr} (h:∀ r ∈ zaR t [],RowOk r):spl 10 (zcb t)=(zaR t []).map ze4:=by
 refine zfB (by rw [zlU]; simp) fun a ha=>?_
 obtain ⟨r,hr,rfl⟩:=yU.mp ha; exact zpX (h r hr)
theorem zfy {p:Pl} (h8:p.length<=8) (h:p.all zS=true):(M11.textOf p).length<=104:=by
 unfold M11.textOf; split
 ·simp
 ·have h1:=M11.sum_join 46 p
  have h2:=M11.sum_le (B:=12) (L:=p) fun a ha=>(M11.prog_facts (yW.mp h a ha)).2.1
  omega
theorem zhn {r:Row} (h:RowOk r):(ze4 r).length<=200:=by
 have h1:=M11.sum_join 32 (M11.textOf r.1 :: r.2); have h2:=M11.sum_le (B:=12) (L:=r.2) h.wlen; have h3:=zfy h.len h.lab; have h4:=h.wds; unfold ze4; rw [yZ,List.sum_cons,YA] at h1; omega
theorem zfA {L:List Row} (h:∀ r ∈ L,RowOk r):((L.map ze4).map (·.length)).sum<=200 * L.length:=by
 have:=M11.sum_le (B:=200) (L:=L.map ze4) fun a ha=>by
  obtain ⟨r,hr,rfl⟩:=yU.mp ha; exact zhn (h r hr)
 rwa [yE] at this
theorem zjU {t:Tr} (h:∀ r ∈ zaR t [],RowOk r) (hl:(zaR t []).length<=60):(zcb t).length<=13000:=by
 have h1:=M11.sum_join 10 ((zaR t []).map ze4); have h2:=zfA h; rw [yE] at h1; unfold zcb; omega
def ze1 (t:Tr) (q:Pl):Pl:=((zbq t q).map Tr.wds).getD []
theorem zf5:∀ {ks:List Tr},(ks.map Tr.lab).Nodup->∀ k ∈ ks,zbl k.lab ks=some k
 | a :: r,nd,k,hk=>by
  have nd':=YC.mp nd; unfold zbl; rw [yo]
  rcases yN.mp hk with rfl | hk
  ·simp
  ·have:¬ a.lab=k.lab:=fun z=>nd'.1 (yU.mpr ⟨k,hk,z.symm⟩)
   simp only [yS this]; exact zf5 nd'.2 k hk
mutual
theorem zjZ (t u:Tr) (h:Ds u) (p:Pl) (hn:zbq t p=some u):(zdg u p).map (fun q=>(q,ze1 t q))=zaR u p:=by
 match u,h with
 | .node l ws ks,h =>
  show ((p :: zdf ks p).map fun q=>(q,ze1 t q))=(p,ws) :: zbT ks p
  rw [yZ,zii t ks h.kids p fun k hk=>by rw [zdj,hn]; exact zf5 h.nd k hk]
  unfold ze1; rw [hn]; rfl
theorem zii (t:Tr) (ks:List Tr) (hk:∀ k ∈ ks,Ds k) (p:Pl) (hn:∀ k ∈ ks,zbq t (p ++ [k.lab])=some k):(zdf ks p).map (fun q=>(q,ze1 t q))=zbT ks p:=by
 match ks,hk,hn with
 | [],_,_=>rfl
 | k :: r,hk,hn =>
  show ((zdg k (p ++ [k.lab]) ++ zdf r p).map fun q=>(q,ze1 t q))=zaR k (p ++ [k.lab]) ++ zbT r p
  rw [YM,zjZ t k (hk k (by simp)) _ (hn k (by simp)),zii t r (fun x hx=>hk x (yH _ hx)) p fun x hx=>hn x (yH _ hx)]
end
mutual
theorem zkE (t u:Tr) (h:Ds u) (p:Pl) (hn:zbq t p=some u) (q:Pl) (hq:q ∈ zdg u p):∃ v,zbq t q=some v:=by
 match u,h with
 | .node l ws ks,h =>
  rcases yN.mp (show q ∈ p :: zdf ks p from hq) with rfl | hq
  ·exact ⟨_,hn⟩
  ·exact ziy t ks h.kids p (fun k hk=>by rw [zdj,hn]; exact zf5 h.nd k hk) q hq
theorem ziy (t:Tr) (ks:List Tr) (hk:∀ k ∈ ks,Ds k) (p:Pl) (hn:∀ k ∈ ks,zbq t (p ++ [k.lab])=some k) (q:Pl) (hq:q ∈ zdf ks p):∃ v,zbq t q=some v:=by
 match ks,hk,hn,hq with
 | [],_,_,hq=>cases hq
 | k :: r,hk,hn,hq =>
  rcases yn.mp (show q ∈ zdg k (p ++ [k.lab]) ++ zdf r p from hq) with z | z
  ·exact zkE t k (hk k (by simp)) _ (hn k (by simp)) q z
  ·exact ziy t r (fun x hx=>hk x (yH _ hx)) p (fun x hx=>hn x (yH _ hx)) q z
end
mutual
theorem zfL (t:Tr) (p:Pl):(zaR t p).length=(zdg t p).length:=by
 match t with
 | .node l ws ks =>
  show ((p,ws) :: zbT ks p).length=(p :: zdf ks p).length
  rw [YA,YA,zgt ks p]
theorem zgt (ks:List Tr) (p:Pl):(zbT ks p).length=(zdf ks p).length:=by
 match ks with
 | []=>rfl
 | k :: r =>
  show (zaR k (p ++ [k.lab]) ++ zbT r p).length=(zdg k (p ++ [k.lab]) ++ zdf r p).length
  rw [yP,yP,zfL k,zgt r]
end
theorem zgP (c:Nat):∀ (L:List (List Nat)) (a w:List Nat),za6 c ((a :: L) ++ [w])=za6 c (a :: L) ++ c :: w
 | [],a,w=>rfl
 | b :: r,a,w=>by
  show a ++ c :: za6 c ((b :: r) ++ [w])=(a ++ c :: za6 c (b :: r)) ++ c :: w
  rw [zgP c r b w]; simp
theorem zih {ns:Nd} (n:Nat) (p:Pl):∀ qs:List Pl,(∀ q ∈ qs,q=p ++ [zbk q])->zbT (qs.map (zad n ns)) p=qs.flatMap fun q=>zaR (zad n ns q) q
 | [],_=>rfl
 | q :: r,h=>by
  show zaR (zad n ns q) (p ++ [(zad n ns q).lab]) ++ zbT (r.map (zad n ns)) p=_
  rw [zcR,<- h q (by simp),zih n p r fun x hx=>h x (yH _ hx)]
  rfl
theorem zgs {ns:Nd} (o:NOk ns) {n:Nat} {p:Pl} (h8:8<=p.length+n):zaR (zad n ns p) p=(p,zbK ns p) :: (za5 ns p).flatMap fun q=>zaR (zad (n-1) ns q) q:=by
 cases n with
 | zero =>
  rw [zcG o (by omega)]
  rfl
 | succ n =>
  show (p,zbK ns p) :: zbT ((za5 ns p).map (zad n ns)) p=_
  rw [zih n p _ fun q hq=>(za2.mp hq).2]
  rfl
theorem zkT {α β:Type} (f:α->List β) (l:List α) (i:Nat):((l.take i).flatMap f).length<=(l.flatMap f).length:=by
 have:l.flatMap f=(l.take i).flatMap f ++ (l.drop i).flatMap f:=by rw [<- List.flatMap_append,List.take_append_drop]
 rw [this,yP]; omega
end M12
set_option synthInstance.maxSize 4096
set_option synthInstance.maxHeartbeats 2000000
namespace K12
open PySem L2 Lb PL MT M04 MS M70 M11 M12
def top (i:Nat):Stmt:=PySem.Challenge.pw_codemend_k12_whole_trees_as_text.main.body.getD i (.Pass ⟨0,0,0,0⟩)
abbrev zdO:Stmt:=top 10
abbrev zeu:Stmt:=top 11
abbrev zb6:Stmt:=top 12
abbrev zcy:Stmt:=top 13
abbrev zcz:Stmt:=top 14
abbrev zbA:Stmt:=top 15
abbrev zcV:Stmt:=top 16
abbrev zev:Stmt:=top 19
abbrev zew:Stmt:=top 20
abbrev zde:Stmt:=top 21
abbrev zbF:Stmt:=top 22
abbrev zck:Stmt:=top 23
abbrev zcW:Stmt:=top 24
abbrev zb2:Stmt:=top 25
abbrev zes:Stmt:=top 26
abbrev zdN:Stmt:=top 27
abbrev zfK:Stmt:=top 28
abbrev zfJ:Stmt:=top 30
abbrev zdI:Stmt:=top 31
abbrev zcx:Stmt:=top 32
abbrev zif:Stmt:=top 33
abbrev zda:Stmt:=top 34
abbrev zb4:Stmt:=top 35
abbrev zdd:Stmt:=top 36
abbrev zdc:Stmt:=top 39
abbrev zdJ:Stmt:=top 40
abbrev zcj:Stmt:=top 41
abbrev zet:Stmt:=top 42
abbrev zdb:Stmt:=top 43
abbrev zcU:Stmt:=top 44
abbrev zcT:Stmt:=top 45
abbrev zdM:Stmt:=top 46
abbrev zdL:Stmt:=top 47
abbrev zb5:Stmt:=top 48
abbrev zdK:Stmt:=top 49
abbrev ze3:Stmt:=top 50
def keyD (l:List Nat):D:=.tup [.int (zcH l).1,.str (zcH l).2]
def zbf:Sp':=fun ds Q=>∃ l,ds=[.str l]/\l.length<=1000/\Q (.val (.str (cut l)))
def zcf:Sp':=fun ds Q=>∃ l,ds=[.str l]/\zS l=true/\Q (.val (keyD l))
def ziT (d:D):Prop:=∃ t,zhT d=some t/\(t="NoneType"\/t="bool"\/t="int"\/t="list"\/t="tuple"\/t="dict")
def ze0 (l:List Nat):Bool:=decide (1<=l.length/\l.length<=12) && l.all fun c=>decide (c ∈ wsg)
def zrF (l:List Nat):Bool:=decide (1<=l.length/\l.length<=9) && decide (l[0]?≠some 48) && l.all dig
def zby:Sp':=fun ds Q=>∃ l y,ds=[.str l,.str y]/\l.length<=1000/\Q (.val (.bl (l.all fun c=>decide (c ∈ y))))
def za0:Sp':=fun ds Q=>∃ l,ds=[.str l]/\l.length<=1000/\Q (.val (.bl (zrF l)))
def zcg:Sp':=fun ds Q=>∃ d,ds=[d]/\((∃ l,d=.str l/\l.length<=1000/\Q (.val (.bl (zS l))))\/(ziT d/\Q (.val (.bl false))))
def zca:Sp':=fun ds Q=>∃ d,ds=[d]/\((∃ l,d=.str l/\l.length<=1000/\Q (.val (.bl (ze0 l))))\/(ziT d/\Q (.val (.bl false))))
instance:MSp zca:=⟨fun _ _ _ h ⟨d,e,q⟩=>⟨d,e,q.imp (fun ⟨l,a,b,z⟩=>⟨l,a,b,h _ z⟩) fun ⟨a,z⟩=>⟨a,h _ z⟩⟩⟩
theorem za4 {n:Nat} (h:n<=1000):n<=sizeLine:=YZ (zaW h)
theorem ztQ {c:Prop} [Decidable c] {p q:Prop} (h:c) (x:p):if c then p else q:=by rw [yR h]; exact x
theorem zi6 (l y:List Nat):(Txt.rstripChars (st l) (st y)).cps.toList=(l.reverse.dropWhile fun c=>decide (c ∈ y)).reverse:=by
 have hc:(st y).cps.contains=fun c=>decide (c ∈ y):=by
  funext c
  simp [st]
 have hh:PySem.stripHi (st y).cps.contains true (st l) (PySem.stripLo (st y).cps.contains false (st l))=l.length-(l.reverse.takeWhile fun c=>decide (c ∈ y)).length:=by
  unfold PySem.stripHi PySem.stripLo
  rw [yR rfl,yM (by decide),zaE,List.drop_zero,hc,zbC]
 have ht:l.take (l.length-(l.reverse.takeWhile fun c=>decide (c ∈ y)).length)=(l.reverse.dropWhile fun c=>decide (c ∈ y)).reverse:=by
  have e:l=(l.reverse.dropWhile fun c=>decide (c ∈ y)).reverse ++ (l.reverse.takeWhile fun c=>decide (c ∈ y)).reverse:=by
   rw [<- List.reverse_append,List.takeWhile_append_dropWhile,List.reverse_reverse]
  have el:=ye List.length e; rw [yP,yj (as:=List.takeWhile _ _)] at el
  have z:l.take (l.length-(l.reverse.takeWhile fun c=>decide (c ∈ y)).length)=((l.reverse.dropWhile fun c=>decide (c ∈ y)).reverse ++ (l.reverse.takeWhile fun c=>decide (c ∈ y)).reverse).take (l.length-(l.reverse.takeWhile fun c=>decide (c ∈ y)).length):=ye (List.take _) e
  rw [z,List.take_left' (by omega)]
 unfold Txt.rstripChars Txt.stripBy; split
 ·rename_i hs
  unfold PySem.stripSame at hs; rw [hh,zbC] at hs; simp only [yg,beq_iff_eq] at hs
  rw [zaE,<- ht,yd (by omega)]
 ·unfold PySem.stripped
  rw [hh,PyProof.Rows.strSub_mk]; unfold PySem.stripLo
  rw [yM (by decide),zaE,List.drop_zero,Nat.sub_zero,ht]
theorem zhf {α:Type} (xs:List α) {i:Int} (h0:0<=i) (h1:i<xs.length):∃ d,atI xs i=some d/\d ∈ xs:=by
 obtain ⟨n,rfl⟩:=Int.eq_ofNat_of_zero_le h0
 have hn:n<xs.length:=by omega
 exact ⟨xs[n],zdl (yB hn),Ye hn⟩
@[simp] theorem sz1:1<=sizeLine:=za4 (by decide)
@[simp] theorem sz2:2<=sizeLine:=za4 (by decide)
@[simp] theorem sz3:3<=sizeLine:=za4 (by decide)
@[simp] theorem sz4:4<=sizeLine:=za4 (by decide)
theorem zkH {n:Int} (h0:0<=n) (h1:n<10 ^ 10):n.natAbs.log2<1920:=by
  refine yX ?_ (by decide:40<=1920)
  by_cases hz:n.natAbs=0
  · rw [hz]; decide
  · exact (Nat.log2_lt hz).mpr (by have : n.natAbs < 10 ^ 10 := by omega
                                   have:10 ^ 10<2 ^ 40:=by decide
                                   omega)
theorem md {i:Int} {n:Nat} (h:0<n):0<=i % (n:Int)/\i % (n:Int)<n:=⟨Int.emod_nonneg _ (by omega),Int.emod_lt_of_pos _ (by omega)⟩
theorem zeP {l:List Nat} (h:zS l=true):∃ m n,m=(cut l).length/\1<=m/\m<=9/\m<=l.length/\l.length<=12/\l.take m=cut l/\l.drop m=zdn l/\(∀ c,c ∈ cut l->dig c=true)/\(∀ c,c ∈ zdn l->dig c=false)/\PySem.intText? (st (cut l))=some n/\zcH l=(n,zdn l):=by
 have h':=h; unfold zS at h; simp only [yg,ym,yW] at h
 obtain ⟨⟨⟨⟨a1,a2⟩,b⟩,c⟩,d⟩:=h
 have e:=zcM l; have el:=ye List.length e; rw [yP] at el
 have t:l.take (cut l).length=cut l:=by
  have z:(cut l ++ zdn l).take (cut l).length=cut l:=List.take_left' rfl
  rw [e] at z; exact z
 have t2:l.drop (cut l).length=zdn l:=by
  have z:(cut l ++ zdn l).drop (cut l).length=zdn l:=List.drop_left' rfl
  rw [e] at z; exact z
 have r:∃ n,PySem.intText? (st (cut l))=some n:=by
  have q:=PySem.intText_digits (x:=st (cut l)) (by rw [zaE]; exact fun x hx=>(zeb x).mp (by simpa [dig] using c x hx)) (by rw [zaE]; exact fun z=>by rw [z] at a1; simp at a1) (by rw [zbC]; omega)
  exact ⟨_,q⟩
 obtain ⟨n,r⟩:=r
 refine ⟨_,n,rfl,a1,a2,by omega,by omega,t,t2,c,fun x hx=>?_,r,by unfold zcH; rw [r]; rfl⟩
 have:=zfz l x hx
 cases z:dig x with
 | false=>rfl
 | true=>rw [zeV z] at this; cases this
section
variable {P:Program} {w:World} {K:W.Frag} {mg:Str->Option Value} {base:Heap}
theorem zkQ {d:D} {t n:String} {b:Bool} {Q:D->Prop} (hk:zhT d=some t) (hz:W.kitOne K (.type t) (.type n)=some b) (q:Q (.bl b)):zjb K [d,.ty n] Q:=⟨d,.type t,.ty n,.type n,b,rfl,rfl,.inl ⟨t,rfl,hk⟩,hz,q⟩
theorem zg3 (y:List Nat) (Q:List D->Prop):∀ (l:List Nat) (acc:List Bool) (s0:Slot),Q ((acc ++ l.map fun c=>decide (c ∈ y)).map .bl) ->
  zd7 (zr 0) zaX (zaM zqa (zB 0) (zB 1)) Q (l.map fun c=>.str [c]) (acc.map .bl) [s0,.val (.str y)]
 | [],acc,s0,h=>by simpa [zd7] using h
 | c :: l,acc,s0,h=>by
  have ih:=zg3 y Q l (acc ++ [decide (c ∈ y)]) (.val (.str [c])) (by simpa using h)
  simpa [zd7,vo,voS,zr,zaX,zaM,zB] using ih
theorem zhm:FnScope ["text","signs"] ["text","signs"] (zm zcV):=⟨rfl,rfl,rfl,by decide +kernel,rfl,by decide +kernel,by decide +kernel⟩
theorem zhK (d:Df K mg "has_only" zcV ["text","signs"]) (z_all:mg "all"=none):Fn P w K mg base 1 "has_only" ["text","signs"] zby:=by
 refine d.ok zhm (fun ds Q h=>?_) (fun f cdv A outer s H E hr ds Q h=>⟨_,(zk (zP (zO (zpt rfl) z_all PyProof.Rows.boot_all (zc (zcD (zdh (fsc:=zm zcV) (N:=["text","signs"]) (N':=["sign","signs"]) (src:=[none,some 1]) (by refine ⟨rfl,?_,?_,?_,rfl,rfl⟩ <;> decide +kernel) (zbG (pv' 0)) (fun _ _ _ _ _ _=>(zaA 0 (show (["sign","signs"]:List Str).Nodup by decide +kernel))) (fun _ _ _ _ _ _=>zb3) (fun _ _ _ _ _ _=>(zcn (zqK (za7 hr)) (pv' 0) (pv' 1))))) zi)))),?_⟩)
 ·obtain ⟨l,y,rfl,_⟩:=h
  rfl
 obtain ⟨l,y,rfl,hl,q⟩:=h; simp [zX,zQ,zU,zV,zr,zB,tC',zam,zaM,tB',zac,zao,zbc,zH,zau,zK,zbd,zR,zt,zab,zak,za3,zbe,zaY,zY,zaZ,zo,zag,zap,zI,zA,zv,zaX,zw,zal,zy,zan,zz,zG,zC,zF,zaw,zW,za9,zJ,zaj,zL,zaf,zZ,zx,zaa,zat,zas,zE,zM,zah,zav,zq,zD,zp,zar,zam,zaq]; refine ⟨za4 hl,?_⟩; refine zg3 y _ l [] _ ?_; rw [zht rfl]
 simpa using q
theorem zfH:FnScope ["label"] ["label"] (zm zcz):=⟨rfl,rfl,rfl,by decide +kernel,rfl,by decide +kernel,by decide +kernel⟩
theorem zfZ (d:Df K mg "figures_of" zcz ["label"]) {t_SMALL_LETTERS:Tok} (g_SMALL_LETTERS:mg "SMALL_LETTERS"=some (.str (st zqN) t_SMALL_LETTERS)):Fn P w K mg base 1 "figures_of" ["label"] zbf:=by
 refine d.ok zfH (fun ds Q h=>?_) (fun f cdv A outer s H E hr ds Q h=>⟨_,(zk (zP (zdr zmE YB PySem.F.slot_str_rstrip PySem.F.type_str_rstrip (pv' 0) (zc (zkk g_SMALL_LETTERS) zi)))),?_⟩)
 ·obtain ⟨l,rfl,_⟩:=h
  rfl
 obtain ⟨l,rfl,hl,q⟩:=h; simp [zX,zQ,zU,zV,zr,zB,tC',zam,zaM,tB',zac,zao,zbc,zH,zau,zK,zbd,zR,zt,zab,zak,za3,zbe,zaY,zY,zaZ,zo,zag,zap,zI,zA,zv,zaX,zw,zal,zy,zan,zz,zG,zC,zF,zaw,zW,za9,zJ,zaj,zL,zaf,zZ,zx,zaa,zat,zas,zE,zM,zah,zav,zq,zD,zp,zar,zam,zaq]; refine ⟨za4 hl,?_⟩; rw [zi6]; exact q
theorem zdq:FnScope ["text"] ["text"] (zm zbA):=⟨rfl,rfl,rfl,by decide +kernel,rfl,by decide +kernel,by decide +kernel⟩
theorem zds (d:Df K mg "is_label_number" zbA ["text"]) (G_has_only:Fn P w K mg base 1 "has_only" ["text","signs"] zby) (z_len:mg "len"=none) {t_FIGURES:Tok} (g_FIGURES:mg "FIGURES"=some (.str (st zpC) t_FIGURES)) {t_MOST_FIGURES:Tok} (g_MOST_FIGURES:mg "MOST_FIGURES"=some (.int 9 t_MOST_FIGURES)):Fn P w K mg base 2 "is_label_number" ["text"] za0:=by
 refine d.ok zdq (fun ds Q h=>?_) (fun f cdv A outer s H E hr ds Q h=>⟨_,(zj (za1 (zbt (zj9 zqH zqH zn (zO zbJ z_len yq (zc (pv' 0) zi)) (ziu g_MOST_FIGURES))) (zk (zP zcE)) zay)
  (zk (zP (zbH (zcn (zkv (zcp hr)) (zaK (i_A (za7 hr)) (pv' 0) zn) (zaB [48])) (zb7 (zaC G_has_only (hr.mono (by decide)) (zc (pv' 0) (zc (zkk g_FIGURES) zi)))))))),?_⟩)
 ·obtain ⟨l,rfl,_⟩:=h
  rfl
 obtain ⟨l,rfl,hl,q⟩:=h; simp [zX,zQ,zU,zV,zr,zB,tC',zam,zaM,tB',zac,zao,zbc,zH,zau,zK,zbd,zR,zt,zab,zak,za3,zbe,zaY,zY,zaZ,zo,zag,zap,zI,zA,zv,zaX,zw,zal,zy,zan,zz,zG,zC,zF,zaw,zW,za9,zJ,zaj,zL,zaf,zZ,zx,zaa,zat,zas,zE,zM,zah,zav,zq,zD,zp,zar,zam,zaq,zby]; refine ⟨za4 hl,?_⟩; unfold zrF at q
 cases l with
 | nil=>exact .inl ⟨by decide,by simpa using q⟩
 | cons c r =>
  by_cases h9:(c :: r).length<=9
  ·refine .inr ⟨by simp; omega,.inr ⟨by omega,za4 hl,c,zdl (j:=0) rfl,?_⟩⟩
   by_cases h48:c=48
   ·subst h48; simpa using q
   ·refine .inr ⟨h48,hl,?_⟩
    rw [yp (show 1<=(c :: r).length/\(c :: r).length<=9 from ⟨by simp,h9⟩),yp (show (c :: r)[0]?≠some 48 by simpa using h48)] at q
    exact q
  ·refine .inr ⟨by simp; omega,.inl ⟨by omega,?_⟩⟩
   rw [yS (show ¬ (1<=(c :: r).length/\(c :: r).length<=9) by omega)] at q
   exact q
theorem zeq:FnScope ["thing","figures"] ["thing"] (zm zdO):=⟨rfl,rfl,rfl,by decide +kernel,rfl,by decide +kernel,by decide +kernel⟩
theorem zhJ (d:Df K mg "is_label" zdO ["thing"]) (G_figures_of:Fn P w K mg base 1 "figures_of" ["label"] zbf) (G_is_label_number:Fn P w K mg base 2 "is_label_number" ["text"] za0) (z_isinstance:mg "isinstance"=none) (z_len:mg "len"=none) (z_str:mg "str"=none) {t_MOST_LETTERS:Tok} (g_MOST_LETTERS:mg "MOST_LETTERS"=some (.int 3 t_MOST_LETTERS)):Fn P w K mg base 3 "is_label" ["thing"] zcg:=by
 refine d.ok zeq (fun ds Q h=>?_) (fun f cdv A outer s H E hr ds Q h=>⟨_,(zj (za1 (zbt (zbs (zO (zcO K rfl) z_isinstance yY (zc (pv' 0) (zc (zcC z_str YG) zi))))) (zk (zP zcE)) zay)
  (zj (zax 1 zeq.nd (zaC G_figures_of (hr.mono (by decide)) (zc (pv' 0) zi)))
  (zk (zP (zbH (zaC G_is_label_number (hr.mono (by decide)) (zc (pv' 1) zi)) (zb7 (zcn zqH (zae zqF (zO zbJ z_len yq (zc (pv' 0) zi)) (zO zbJ z_len yq (zc (pv' 1) zi))) (ziu g_MOST_LETTERS)))))))),?_⟩)
 ·obtain ⟨l,rfl,_⟩:=h
  rfl
 obtain ⟨d,rfl,h⟩:=h
 rcases h with ⟨l,rfl,hl,q⟩ | ⟨hn,q⟩
 ·have hc:(cut l).length<=l.length:=by
   have:=ye List.length (zcM l)
   rw [yP] at this; omega
  simp [zX,zQ,zU,zV,zr,zB,tC',zam,zaM,tB',zac,zao,zbc,zH,zau,zK,zbd,zR,zt,zab,zak,za3,zbe,zaY,zY,zaZ,zo,zag,zap,zI,zA,zv,zaX,zw,zal,zy,zan,zz,zG,zC,zF,zaw,zW,za9,zJ,zaj,zL,zaf,zZ,zx,zaa,zat,zas,zE,zM,zah,zav,zq,zD,zp,zar,zam,zaq,zbf,za0]
  refine ⟨hl,by omega,?_⟩
  have e:zS l=(zrF (cut l) && decide (l.length-(cut l).length<=3)):=rfl
  rw [e] at q
  cases hn:zrF (cut l) with
  | false=>rw [hn] at q; simpa using q
  | true =>
   rw [hn] at q
   refine ztQ rfl ⟨za4 hl,za4 (by omega),?_⟩
   have e2:decide ((l.length:Int)-((cut l).length:Int)<=3)=decide (l.length-(cut l).length<=3):=decide_eq_decide.mpr (by omega)
   rw [e2]
   simpa using q
 ·obtain ⟨t,hk,ht⟩:=hn
  have hz:W.kitOne K (.type t) (.type "str")=some false:=by rcases ht with rfl | rfl | rfl | rfl | rfl | rfl <;> rfl
  simp [zX,zQ,zU,zV,zr,zB,tC',zam,zaM,tB',zac,zao,zbc,zH,zau,zK,zbd,zR,zt,zab,zak,za3,zbe,zaY,zY,zaZ,zo,zag,zap,zI,zA,zv,zaX,zw,zal,zy,zan,zz,zG,zC,zF,zaw,zW,za9,zJ,zaj,zL,zaf,zZ,zx,zaa,zat,zas,zE,zM,zah,zav,zq,zD,zp,zar,zam,zaq]; exact zkQ hk hz (.inl ⟨rfl,q⟩)
theorem zi4:FnScope ["thing"] ["thing"] (zm zeu):=⟨rfl,rfl,rfl,by decide +kernel,rfl,by decide +kernel,by decide +kernel⟩
theorem zjh (d:Df K mg "is_word" zeu ["thing"]) (G_has_only:Fn P w K mg base 1 "has_only" ["text","signs"] zby) (z_isinstance:mg "isinstance"=none) (z_len:mg "len"=none) (z_str:mg "str"=none) {t_LONGEST_WORD:Tok} (g_LONGEST_WORD:mg "LONGEST_WORD"=some (.int 12 t_LONGEST_WORD)) {t_WORD_SIGNS:Tok} (g_WORD_SIGNS:mg "WORD_SIGNS"=some (.str (st wsg) t_WORD_SIGNS)):Fn P w K mg base 2 "is_word" ["thing"] zca:=by
 refine d.ok zi4 (fun ds Q h=>?_) (fun f cdv A outer s H E hr ds Q h=>⟨_,(zj (za1 (zbt (zbs (zO (zcO K rfl) z_isinstance yY (zc (pv' 0) (zc (zcC z_str YG) zi))))) (zk (zP zcE)) zay)
  (zk (zP (zbH (zkn zqH zqH zn (zO zbJ z_len yq (zc (pv' 0) zi)) (ziu g_LONGEST_WORD)) (zb7 (zaC G_has_only (hr.mono (by decide)) (zc (pv' 0) (zc (zkk g_WORD_SIGNS) zi)))))))),?_⟩)
 ·obtain ⟨l,rfl,_⟩:=h
  rfl
 obtain ⟨d,rfl,h⟩:=h
 rcases h with ⟨l,rfl,hl,q⟩ | ⟨hn,q⟩
 ·simp [zX,zQ,zU,zV,zr,zB,tC',zam,zaM,tB',zac,zao,zbc,zH,zau,zK,zbd,zR,zt,zab,zak,za3,zbe,zaY,zY,zaZ,zo,zag,zap,zI,zA,zv,zaX,zw,zal,zy,zan,zz,zG,zC,zF,zaw,zW,za9,zJ,zaj,zL,zaf,zZ,zx,zaa,zat,zas,zE,zM,zah,zav,zq,zD,zp,zar,zam,zaq,zby]
  refine ⟨za4 hl,?_⟩; unfold ze0 at q
  by_cases h1:1<=l.length
  ·by_cases h12:l.length<=12
   ·refine .inr ⟨by omega,.inr ⟨by omega,hl,?_⟩⟩
    rw [yp (show 1<=l.length/\l.length<=12 from ⟨h1,h12⟩)] at q
    exact q
   ·refine .inr ⟨by omega,.inl ⟨by omega,?_⟩⟩
    rw [yS (show ¬ (1<=l.length/\l.length<=12) by omega)] at q
    exact q
  ·refine .inl ⟨by omega,?_⟩
   rw [yS (show ¬ (1<=l.length/\l.length<=12) by omega)] at q
   exact q
 ·obtain ⟨t,hk,ht⟩:=hn
  have hz:W.kitOne K (.type t) (.type "str")=some false:=by rcases ht with rfl | rfl | rfl | rfl | rfl | rfl <;> rfl
  simp [zX,zQ,zU,zV,zr,zB,tC',zam,zaM,tB',zac,zao,zbc,zH,zau,zK,zbd,zR,zt,zab,zak,za3,zbe,zaY,zY,zaZ,zo,zag,zap,zI,zA,zv,zaX,zw,zal,zy,zan,zz,zG,zC,zF,zaw,zW,za9,zJ,zaj,zL,zaf,zZ,zx,zaa,zat,zas,zE,zM,zah,zav,zq,zD,zp,zar,zam,zaq]; exact zkQ hk hz (.inl ⟨rfl,q⟩)
theorem zdp:FnScope ["label","figures"] ["label"] (zm zcy):=⟨rfl,rfl,rfl,by decide +kernel,rfl,by decide +kernel,by decide +kernel⟩
theorem zfY (d:Df K mg "label_rank" zcy ["label"]) (G_figures_of:Fn P w K mg base 1 "figures_of" ["label"] zbf) (z_int:mg "int"=none) (z_len:mg "len"=none):Fn P w K mg base 2 "label_rank" ["label"] zcf:=by
 refine d.ok zdp (fun ds Q h=>?_) (fun f cdv A outer s H E hr ds Q h=>⟨_,(zj (zax 1 zdp.nd (zaC G_figures_of (hr.mono (by decide)) (zc (pv' 0) zi)))
  (zk (zP (zaF (zc (zbB znO z_int PyProof.Rows.boot_int (zc (pv' 1) zi)) (zc (zc5 s_A (pv' 0) (zd4 (zO zbJ z_len yq (zc (pv' 1) zi))) zgw) zi)))))),?_⟩)
 ·obtain ⟨l,rfl,_⟩:=h
  rfl
 obtain ⟨l,rfl,hl,hq⟩:=h; obtain ⟨m,n,hm,m1,m9,ml,l12,tk,dr,cd,tf,rd,kf⟩:=zeP hl; simp [zX,zQ,zU,zV,zr,zB,tC',zam,zaM,tB',zac,zao,zbc,zH,zau,zK,zbd,zR,zt,zab,zak,za3,zbe,zaY,zY,zaZ,zo,zag,zap,zI,zA,zv,zaX,zw,zal,zy,zan,zz,zG,zC,zF,zaw,zW,za9,zJ,zaj,zL,zaf,zZ,zx,zaa,zat,zas,zE,zM,zah,zav,zq,zD,zp,zar,zam,zaq,zbf]
 refine ⟨by omega,.inl ⟨cut l,n,rfl,rd,by omega,za4 (by omega),za4 (by omega),?_⟩⟩
 rw [<- hm,dr]; unfold keyD at hq; rw [kf] at hq; exact hq
end
def zpB:D->Bool
 | .str l=>zS l
 | _=>false
def zpy:D->Bool
 | .str l=>ze0 l
 | _=>false
def zub (d:D):Prop:=(∃ l,d=.str l/\l.length<=1000)\/ziT d
def zc2:D->Bool
 | .tup ws=>ws.all zpy
 | _=>false
def zgM:D->List Nat
 | .tup (.str l :: _)=>l
 | _=>[]
open Classical in
noncomputable def zlV:List (List Nat)->Bool
 | a :: b :: r=>decide (klt (zcH a) (zcH b)) && zlV (b :: r)
 | _=>true
noncomputable def zd0 (f:D->Bool):D->Bool
 | .tup ks=>ks.all f && zlV (ks.map zgM)
 | _=>false
noncomputable def zcs:Nat->D->Bool
 | n+1,.tup [l,w,k]=>zpB l && (zc2 w && zd0 (zcs n) k)
 | _,_=>false
noncomputable def zhW (n:Nat) (w k:D):Bool:=match n with
 | 0=>false
 | n+1=>zc2 w && zd0 (zcs n) k
theorem zix (n:Nat) (l w k:D):zcs n (.tup [l,w,k])=(zpB l && zhW n w k):=by
 cases n with
 | zero=>simp [zcs,zhW]
 | succ n=>rfl
inductive Sn:D->Prop
 | str {l:List Nat} (h:l.length<=1000):Sn (.str l)
 | tup {ds:List D} (h:ds.length<=100) (hs:∀ d ∈ ds,Sn d):Sn (.tup ds)
 | oth {d:D} (h:ziT d) (hn:∀ ds,d≠.tup ds):Sn d
theorem Sn.parts {ds:List D} (h:Sn (.tup ds)):ds.length<=100/\∀ d ∈ ds,Sn d:=by
 cases h with
 | tup h hs=>exact ⟨h,hs⟩
 | oth h hn=>exact yO rfl (hn _)
theorem Sn.any {d:D} (h:Sn d):zub d:=by
 cases h with
 | str h=>exact .inl ⟨_,rfl,h⟩
 | tup h hs=>exact .inr ⟨"tuple",rfl,by simp⟩
 | oth h hn=>exact .inr h
theorem Sn.kin {d:D} (h:Sn d):∃ t,zhT d=some t:=by
 rcases h.any with ⟨l,rfl,_⟩ | ⟨t,h,_⟩
 ·exact ⟨"str",rfl⟩
 ·exact ⟨t,h⟩
theorem zoW {d:D} {Q:Res->Prop} (h:Sn d) (q:Q (.val (.bl (zpB d)))):zcg [d] Q:=by
 refine ⟨d,rfl,?_⟩
 rcases h.any with ⟨l,rfl,hl⟩ | hn
 ·exact .inl ⟨l,rfl,hl,q⟩
 ·refine .inr ⟨hn,?_⟩
  have e:zpB d=false:=by
   obtain ⟨t,hk,ht⟩:=hn
   cases d <;> first | rfl | (cases hk; simp at ht)
  rw [e] at q; exact q
theorem znT {d:D} {Q:Res->Prop} (h:Sn d) (q:Q (.val (.bl (zpy d)))):zca [d] Q:=by
 refine ⟨d,rfl,?_⟩
 rcases h.any with ⟨l,rfl,hl⟩ | hn
 ·exact .inl ⟨l,rfl,hl,q⟩
 ·refine .inr ⟨hn,?_⟩
  have e:zpy d=false:=by
   obtain ⟨t,hk,ht⟩:=hn
   cases d <;> first | rfl | (cases hk; simp at ht)
  rw [e] at q; exact q
def zb1:Sp':=fun ds Q=>∃ d,ds=[d]/\Sn d/\∀ b:Bool,(b=true↔∃ l w k,d=.tup [l,w,k])->Q (.val (.bl b))
def zcu:Sp':=fun ds Q=>∃ d,ds=[d]/\Sn d/\Q (.val (.bl (zc2 d)))
def zbM:Sp':=fun ds Q=>∃ ls:List (List Nat),ds=[.lst (ls.map .str)]/\ls.length<=100/\(∀ l ∈ ls,zS l=true)/\Q (.val (.bl (zlV ls)))
def zbo:Nat->Sp'
 | 0=>fun _ _=>False
 | n+1=>fun ds Q=>∃ (d:D) (m:Nat),ds=[d,.int m]/\m<n+1/\Sn d/\Q (.val (.bl (zcs m d)))
def zek (n:Nat):Sp':=fun ds Q=>∃ (k:D) (m:Nat),ds=[k,.int m]/\m<n/\Sn k/\Q (.val (.bl (zd0 (zcs m) k)))
def zbz (n:Nat):Sp':=fun ds Q=>∃ (l w k:D) (m:Nat),ds=[.tup [l,w,k],.int m]/\m<=n/\Sn w/\Sn k/\Q (.val (.bl (zhW m w k)))
def zdF:Sp':=fun ds Q=>∃ d,ds=[d]/\Sn d/\∀ b:Bool,(b=true↔∃ w k,d=.tup [.str [],w,k]/\zhW 9 w k=true)->Q (.val (.bl b))
instance {n:Nat}:MSp (zbo n):=⟨fun ds Q Q' h q=>by
 cases n with
 | zero=>exact q
 | succ n=>obtain ⟨d,m,e,a,b,q⟩:=q; exact ⟨d,m,e,a,b,h _ q⟩⟩
def zbb:Sp':=fun ds Q=>∃ l m,ds=[.str l,.str m]/\zS l=true/\zS m=true/\∀ b:Bool,(b=true↔klt (zcH l) (zcH m))->Q (.val (.bl b))
instance:MSp zbb:=⟨fun _ _ _ h ⟨l,m,e,a,b,q⟩=>⟨l,m,e,a,b,fun x z=>h _ (q x z)⟩⟩
section
variable {P:Program} {w:World} {K:W.Frag} {mg:Str->Option Value} {base:Heap}
open Classical in
noncomputable def ltB (p:List Nat × List Nat):Bool:=decide (klt (zcH p.1) (zcH p.2))
theorem zpu {F:D->Bool} {ks:List D} {d:D} (hd:d ∈ ks) (h:F d=false):zd0 F (.tup ks)=false:=by
 show (ks.all F && _)=false
 have:ks.all F=false:=by
  rw [Bool.eq_false_iff]; intro z; rw [yW] at z; rw [z d hd] at h; cases h
 rw [this,Bool.false_and]
theorem zkA {n:Nat} {d:D} (h:∀ l w k,d≠.tup [l,w,k]):zcs n d=false:=by
 unfold zcs; split
 ·exact yO rfl (h _ _ _)
 ·rfl
theorem zfn {n:Nat} {d:D} (h:zcs n d=true):∃ l w k,d=.tup [.str l,w,k]/\zS l=true:=by
 unfold zcs at h; split at h
 ·rename_i n l w k
  rw [yg] at h
  cases l with
  | str l=>exact ⟨l,w,k,rfl,h.1⟩
  | _=>exact yO h.1 (by simp [zpB])
 ·cases h
theorem zik:∀ ls:List (List Nat),zlV ls=(ls.zip (ls.drop 1)).all ltB
 | []=>rfl
 | [a]=>rfl
 | a :: b :: r=>by
  unfold zlV; rw [zik (b :: r)]; rfl
theorem ztt (ls:List (List Nat)):zeg (ls.map D.str) (some 1) none=(ls.drop 1).map D.str:=by
 unfold zeg
 cases ls with
 | nil=>rfl
 | cons a r =>
  simp [HT.sIx]
  rw [yd (by simp)]
theorem zeN {d:D} {t:String} (h:zhT d=some t):(∃ xs,d=.tup xs)\/((∀ xs,d≠.tup xs)/\W.kitOne K (.type t) (.type "tuple")=some false):=by
 cases d <;> first | exact .inl ⟨_,rfl⟩ | (cases h; refine .inr ⟨fun _ z=>(nomatch z),?_⟩; rfl) | (cases h; done)
theorem zgq:FnScope ["thing"] ["thing"] (zm zde):=⟨rfl,rfl,rfl,by decide +kernel,rfl,by decide +kernel,by decide +kernel⟩
theorem zgG (d:Df K mg "is_triple" zde ["thing"]) (z_isinstance:mg "isinstance"=none) (z_len:mg "len"=none) (z_tuple:mg "tuple"=none):Fn P w K mg base 1 "is_triple" ["thing"] zb1:=by
 refine d.ok zgq (fun ds Q h=>?_) (fun f cdv A outer s H E hr ds Q h=>⟨_,(zk (zP (zbH (zO (zcO K rfl) z_isinstance yY (zc (pv' 0) (zc (zcC z_tuple YF) zi))) (zb7 (zcn (zdt (zcp hr)) (zO zbJ z_len yq (zc (pv' 0) zi)) zn))))),?_⟩)
 ·obtain ⟨d,rfl,_⟩:=h
  rfl
 obtain ⟨x,rfl,hs,q⟩:=h; obtain ⟨t,hk⟩:=hs.kin; simp [zX,zQ,zU,zV,zr,zB,tC',zam,zaM,tB',zac,zao,zbc,zH,zau,zK,zbd,zR,zt,zab,zak,za3,zbe,zaY,zY,zaZ,zo,zag,zap,zI,zA,zv,zaX,zw,zal,zy,zan,zz,zG,zC,zF,zaw,zW,za9,zJ,zaj,zL,zaf,zZ,zx,zaa,zat,zas,zE,zM,zah,zav,zq,zD,zp,zar,zam,zaq]
 rcases zeN hk with ⟨xs,rfl⟩ | ⟨hn,hz⟩
 ·cases hk
  refine zkQ (b:=true) rfl rfl (.inr ⟨rfl,?_⟩); simp [zX,zQ,zU,zV,zr,zB,tC',zam,zaM,tB',zac,zao,zbc,zH,zau,zK,zbd,zR,zt,zab,zak,za3,zbe,zaY,zY,zaZ,zo,zag,zap,zI,zA,zv,zaX,zw,zal,zy,zan,zz,zG,zC,zF,zaw,zW,za9,zJ,zaj,zL,zaf,zZ,zx,zaa,zat,zas,zE,zM,zah,zav,zq,zD,zp,zar,zam,zaq]
  refine q _ ⟨fun z=>?_,fun ⟨l,w,k,e⟩=>?_⟩
  ·have h3:xs.length=3:=by have:=of_decide_eq_true z; omega
   match xs,h3 with
   | [l,w,k],_=>exact ⟨l,w,k,rfl⟩
  ·cases e
   rfl
 ·refine zkQ hk hz (.inl ⟨rfl,q false ⟨fun z=>(nomatch z),fun ⟨l,w,k,e⟩=>yO e (hn _)⟩⟩)
theorem zgr:FnScope ["thing"] ["thing"] (zm zck):=⟨rfl,rfl,rfl,by decide +kernel,rfl,by decide +kernel,by decide +kernel⟩
theorem zgH (d:Df K mg "are_words" zck ["thing"]) (G_is_word:Fn P w K mg base 2 "is_word" ["thing"] zca) (z_all:mg "all"=none) (z_isinstance:mg "isinstance"=none) (z_tuple:mg "tuple"=none):Fn P w K mg base 3 "are_words" ["thing"] zcu:=by
 refine d.ok zgr (fun ds Q h=>?_) (fun f cdv A outer s H E hr ds Q h=>⟨_,(zk (zP (zbH (zO (zcO K rfl) z_isinstance yY (zc (pv' 0) (zc (zcC z_tuple YF) zi))) (zb7 (zO (zpt rfl) z_all PyProof.Rows.boot_all (zc (zcD (zdh (fsc:=zm zck) (N:=["thing"]) (N':=["word"]) (src:=[none]) (by refine ⟨rfl,?_,?_,?_,rfl,rfl⟩ <;> decide +kernel) (zbG (pv' 0)) (fun _ _ _ _ _ _=>(zaA 0 (show (["word"]:List Str).Nodup by decide +kernel))) (fun _ _ _ _ _ _=>zb3) (fun _ _ _ _ _ _=>(zaC G_is_word (hr.mono (by decide)) (zc (pv' 0) zi))))) zi)))))),?_⟩)
 ·obtain ⟨d,rfl,_⟩:=h
  rfl
 obtain ⟨x,rfl,hs,q⟩:=h; obtain ⟨t,hk⟩:=hs.kin; simp [zX,zQ,zU,zV,zr,zB,tC',zam,zaM,tB',zac,zao,zbc,zH,zau,zK,zbd,zR,zt,zab,zak,za3,zbe,zaY,zY,zaZ,zo,zag,zap,zI,zA,zv,zaX,zw,zal,zy,zan,zz,zG,zC,zF,zaw,zW,za9,zJ,zaj,zL,zaf,zZ,zx,zaa,zat,zas,zE,zM,zah,zav,zq,zD,zp,zar,zam,zaq]
 rcases zeN hk with ⟨xs,rfl⟩ | ⟨hn,hz⟩
 ·cases hk
  refine zkQ (b:=true) rfl rfl (.inr ⟨rfl,?_⟩)
  refine ⟨xs,rfl,za4 (by have:=hs.parts.1; omega),?_⟩
  refine zcN (fun i acc Γ=>∃ s0,acc=((xs.take i).map zpy).map D.bl/\Γ=[s0]) ⟨.emp,rfl,rfl⟩ ?_ ?_
  ·rintro i d acc Γ hd ⟨s0,rfl,rfl⟩
   simp [zX,zQ,zU,zV,zr,zB,tC',zam,zaM,tB',zac,zao,zbc,zH,zau,zK,zbd,zR,zt,zab,zak,za3,zbe,zaY,zY,zaZ,zo,zag,zap,zI,zA,zv,zaX,zw,zal,zy,zan,zz,zG,zC,zF,zaw,zW,za9,zJ,zaj,zL,zaf,zZ,zx,zaa,zat,zas,zE,zM,zah,zav,zq,zD,zp,zar,zam,zaq]; refine znT (hs.parts.2 d (yV hd)) ?_; rw [YH,yJ,hd]; rfl
  ·rintro acc Γ ⟨s0,rfl,rfl⟩
   rw [zht rfl]; rw [List.take_length]
   have e:zc2 (D.tup xs)=(xs.map zpy).all id:=by simp [zc2]
   rw [e] at q; exact q
 ·refine zkQ hk hz (.inl ⟨rfl,?_⟩)
  have e:zc2 x=false:=by
   cases x <;> first | rfl | exact yO rfl (hn _)
  rw [e] at q; exact q
theorem zeo:FnScope ["one","other"] ["one","other"] (zm zb6):=⟨rfl,rfl,rfl,by decide +kernel,rfl,by decide +kernel,by decide +kernel⟩
theorem zeH (d:Df K mg "label_before" zb6 ["one","other"]) (G_label_rank:Fn P w K mg base 2 "label_rank" ["label"] zcf):Fn P w K mg base 3 "label_before" ["one","other"] zbb:=by
 refine d.ok zeo (fun ds Q h=>?_) (fun f cdv A outer s H E hr ds Q h=>⟨_,(zk (zP (zcn (zsw hr.units0) (zaC G_label_rank (hr.mono (by decide)) (zc (pv' 0) zi)) (zaC G_label_rank (hr.mono (by decide)) (zc (pv' 1) zi))))),?_⟩)
 ·obtain ⟨l,m,rfl,_⟩:=h
  rfl
 obtain ⟨l,m,rfl,hl,hm,q⟩:=h; simp [zX,zQ,zU,zV,zr,zB,tC',zam,zaM,tB',zac,zao,zbc,zH,zau,zK,zbd,zR,zt,zab,zak,za3,zbe,zaY,zY,zaZ,zo,zag,zap,zI,zA,zv,zaX,zw,zal,zy,zan,zz,zG,zC,zF,zaw,zW,za9,zJ,zaj,zL,zaf,zZ,zx,zaa,zat,zas,zE,zM,zah,zav,zq,zD,zp,zar,zam,zaq]; refine ⟨l,rfl,hl,m,rfl,hm,?_⟩; refine ⟨_,_,_,_,rfl,rfl,q _ ?_⟩; rw [ym]; exact Iff.rfl
theorem zfI:FnScope ["labels"] ["labels"] (zm zb2):=⟨rfl,rfl,rfl,by decide +kernel,rfl,by decide +kernel,by decide +kernel⟩
theorem zf1 (d:Df K mg "are_rising" zb2 ["labels"]) (G_label_before:Fn P w K mg base 3 "label_before" ["one","other"] zbb) (z_all:mg "all"=none) (z_zip:mg "zip"=none):Fn P w K mg base 4 "are_rising" ["labels"] zbM:=by
 refine d.ok zfI (fun ds Q h=>?_) (fun f cdv A outer s H E hr ds Q h=>⟨_,(zk (zP (zO (zpt rfl) z_all PyProof.Rows.boot_all (zc (zcD (zdh (fsc:=zm zb2) (N:=["labels"]) (N':=["one","other"]) (src:=[none,none]) (by refine ⟨rfl,?_,?_,?_,rfl,rfl⟩ <;> decide +kernel) (zkh z_zip (zc (pv' 0) (zc (zc5 s_A (pv' 0) (zd4 zn) zgw) zi))) (fun _ _ _ _ _ _=>(zhy (n:=2) (zcc (zaA 0 (show (["one","other"]:List Str).Nodup by decide +kernel)) (zcc (zaA 1 (show (["one","other"]:List Str).Nodup by decide +kernel)) zfU)))) (fun _ _ _ _ _ _=>zb3) (fun _ _ _ _ _ _=>(zaC G_label_before (hr.mono (by decide)) (zc (pv' 0) (zc (pv' 1) zi)))))) zi)))),?_⟩)
 ·obtain ⟨d,rfl,_⟩:=h
  rfl
 obtain ⟨ls,rfl,hl,hp,q⟩:=h; simp [zX,zQ,zU,zV,zr,zB,tC',zam,zaM,tB',zac,zao,zbc,zH,zau,zK,zbd,zR,zt,zab,zak,za3,zbe,zaY,zY,zaZ,zo,zag,zap,zI,zA,zv,zaX,zw,zal,zy,zan,zz,zG,zC,zF,zaw,zW,za9,zJ,zaj,zL,zaf,zZ,zx,zaa,zat,zas,zE,zM,zah,zav,zq,zD,zp,zar,zam,zaq]; rw [ztt,List.zip_map,yh]
 refine ⟨za4 (by simp; omega),?_⟩
 refine zcN (fun i acc Γ=>∃ s0 s1,acc=(((ls.zip (ls.drop 1)).take i).map ltB).map D.bl/\Γ=[s0,s1]) ⟨.emp,.emp,rfl,rfl⟩ ?_ ?_
 ·rintro i d acc Γ hd ⟨s0,s1,rfl,rfl⟩
  rw [yJ] at hd
  cases hc:(ls.zip (ls.drop 1))[i]? with
  | none=>rw [hc] at hd; cases hd
  | some p =>
   rw [hc] at hd; cases hd; have hm:=List.of_mem_zip (a:=p.1) (b:=p.2) (yV hc); rw [YH,hc]; simp [zX,zQ,zU,zV,zr,zB,tC',zam,zaM,tB',zac,zao,zbc,zH,zau,zK,zbd,zR,zt,zab,zak,za3,zbe,zaY,zY,zaZ,zo,zag,zap,zI,zA,zv,zaX,zw,zal,zy,zan,zz,zG,zC,zF,zaw,zW,za9,zJ,zaj,zL,zaf,zZ,zx,zaa,zat,zas,zE,zM,zah,zav,zq,zD,zp,zar,zam,zaq,zbb]
   exact ⟨_,_,⟨rfl,rfl⟩,rfl,p.1,p.2,⟨rfl,rfl⟩,hp _ hm.1,hp _ (List.mem_of_mem_drop hm.2),fun z=>by simp [ltB,z],fun z=>by simp [ltB,z]⟩
 ·rintro acc Γ ⟨s0,s1,rfl,rfl⟩
  rw [zht rfl]
  rw [show List.take (List.map _ (ls.zip (ls.drop 1))).length (ls.zip (ls.drop 1))=ls.zip (ls.drop 1) from yd (by rw [yE]; exact yF _)]
  rw [zik] at q
  simpa using q
theorem zer:FnScope ["thing","levels","kid"] ["thing","levels"] (zm zcW):=⟨rfl,rfl,rfl,by decide +kernel,rfl,by decide +kernel,by decide +kernel⟩
theorem zhL (d:Df K mg "are_kids" zcW ["thing","levels"]) (G_are_rising:Fn P w K mg base 4 "are_rising" ["labels"] zbM) (z_isinstance:mg "isinstance"=none) (z_tuple:mg "tuple"=none):∀ n:Nat,Fn P w K mg base (3 * n+6) "is_node" ["thing","levels"] (zbo n)->Fn P w K mg base (3 * n+7) "are_kids" ["thing","levels"] (zek n):=by
 intro n G_is_node
 refine d.ok (k:=3 * n+6) zer (fun ds Q h=>?_) (fun f cdv A outer s H E hr ds Q h=>⟨_,(zj (za1 (zbt (zbs (zO (zcO K rfl) z_isinstance yY (zc (pv' 0) (zc (zcC z_tuple YF) zi))))) (zk (zP zcE)) zay)
  (zj (zcm (zbG (pv' 0)) (zaA 2 zer.nd)
   (zk (za1 (zbt (zbs (zaC G_is_node (hr.mono (by omega)) (zc (pv' 2) (zc (pv' 1) zi))))) (zk (zP zcE)) zay)))
  (zk (zP (zaC G_are_rising (hr.mono (by omega)) (zc (zcD (zdh (fsc:=zm zcW) (N:=["thing","levels","kid"]) (N':=["kid"]) (src:=[none]) (by refine ⟨rfl,?_,?_,?_,rfl,rfl⟩ <;> decide +kernel) (zbG (pv' 0)) (fun _ _ _ _ _ _=>(zaA 0 (show (["kid"]:List Str).Nodup by decide +kernel))) (fun _ _ _ _ _ _=>zb3) (fun _ _ _ _ _ _=>(zaK (i_A (za7 hr)) (pv' 0) zn)))) zi)))))),?_⟩)
 ·obtain ⟨k,m,rfl,_⟩:=h
  rfl
 obtain ⟨k,m,rfl,hm,hs,q⟩:=h; obtain ⟨t,hk⟩:=hs.kin; simp [zX,zQ,zU,zV,zr,zB,tC',zam,zaM,tB',zac,zao,zbc,zH,zau,zK,zbd,zR,zt,zab,zak,za3,zbe,zaY,zY,zaZ,zo,zag,zap,zI,zA,zv,zaX,zw,zal,zy,zan,zz,zG,zC,zF,zaw,zW,za9,zJ,zaj,zL,zaf,zZ,zx,zaa,zat,zas,zE,zM,zah,zav,zq,zD,zp,zar,zam,zaq]
 rcases zeN hk with ⟨xs,rfl⟩ | ⟨hn,hz⟩
 ·cases hk
  obtain ⟨n,rfl⟩:∃ j,n=j+1:=⟨n-1,by omega⟩
  refine zkQ (b:=true) rfl rfl (.inr ⟨rfl,xs,rfl,?_⟩)
  refine zfp (fun i Γ=>∃ s2,Γ=[.val (.tup xs),.val (.int m),s2]/\∀ x ∈ xs.take i,zcs m x=true) ⟨.emp,rfl,by simp⟩ ?_ ?_
  ·rintro i d Γ hd ⟨s2,rfl,ha⟩
   have hdm:=yV hd; simp [zX,zQ,zU,zV,zr,zB,tC',zam,zaM,tB',zac,zao,zbc,zH,zau,zK,zbd,zR,zt,zab,zak,za3,zbe,zaY,zY,zaZ,zo,zag,zap,zI,zA,zv,zaX,zw,zal,zy,zan,zz,zG,zC,zF,zaw,zW,za9,zJ,zaj,zL,zaf,zZ,zx,zaa,zat,zas,zE,zM,zah,zav,zq,zD,zp,zar,zam,zaq,zbo]; refine ⟨d,m,⟨rfl,rfl⟩,hm,hs.parts.2 d hdm,?_⟩
   cases hb:zcs m d with
   | false =>
    rw [zpu hdm hb] at q
    rw [yM (by simp)]
    exact q
   | true =>
    rw [yR rfl,YH,hd]; intro x hx
    rcases yn.mp hx with z | z
    ·exact ha x z
    ·rw [show x=d by simpa using z]; exact hb
  ·rintro Γ ⟨s2,rfl,ha⟩
   rw [List.take_length] at ha; simp [zX,zQ,zU,zV,zr,zB,tC',zam,zaM,tB',zac,zao,zbc,zH,zau,zK,zbd,zR,zt,zab,zak,za3,zbe,zaY,zY,zaZ,zo,zag,zap,zI,zA,zv,zaX,zw,zal,zy,zan,zz,zG,zC,zF,zaw,zW,za9,zJ,zaj,zL,zaf,zZ,zx,zaa,zat,zas,zE,zM,zah,zav,zq,zD,zp,zar,zam,zaq,zbM]
   refine ⟨za4 (by have:=hs.parts.1; omega),?_⟩
   refine zcN (fun i acc Γ=>∃ s0,acc=((xs.take i).map zgM).map D.str/\Γ=[s0]) ⟨.emp,rfl,rfl⟩ ?_ ?_
   ·rintro i d acc Γ hd ⟨s0,rfl,rfl⟩
    obtain ⟨l,w,k,rfl,_⟩:=zfn (ha d (yV hd)); rw [YH,hd]; simp [zX,zQ,zU,zV,zr,zB,tC',zam,zaM,tB',zac,zao,zbc,zH,zau,zK,zbd,zR,zt,zab,zak,za3,zbe,zaY,zY,zaZ,zo,zag,zap,zI,zA,zv,zaX,zw,zal,zy,zan,zz,zG,zC,zF,zaw,zW,za9,zJ,zaj,zL,zaf,zZ,zx,zaa,zat,zas,zE,zM,zah,zav,zq,zD,zp,zar,zam,zaq,zgM]
   ·rintro acc Γ ⟨s0,rfl,rfl⟩
    rw [List.take_length]
    refine ⟨xs.map zgM,rfl,by rw [yE]; exact hs.parts.1,fun l hl=>?_,?_⟩
    ·obtain ⟨x,hx,rfl⟩:=yU.mp hl
     obtain ⟨l,w,k,rfl,h⟩:=zfn (ha x hx); exact h
    ·have e:zd0 (zcs m) (D.tup xs)=zlV (xs.map zgM):=by
      show (xs.all (zcs m) && _)=_
      rw [yW.mpr ha,Bool.true_and]
     rw [e] at q; exact q
 ·refine zkQ hk hz (.inl ⟨rfl,?_⟩)
  have e:zd0 (zcs m) k=false:=by
   cases k <;> first | rfl | exact yO rfl (hn _)
  rw [e] at q; exact q
theorem zdH:FnScope ["node","levels"] ["node","levels"] (zm zbF):=⟨rfl,rfl,rfl,by decide +kernel,rfl,by decide +kernel,by decide +kernel⟩
theorem zdT (d:Df K mg "has_good_parts" zbF ["node","levels"]) (G_are_words:Fn P w K mg base 3 "are_words" ["thing"] zcu) (S_are_kids:∀ n:Nat,Fn P w K mg base (3 * n+6) "is_node" ["thing","levels"] (zbo n)->Fn P w K mg base (3 * n+7) "are_kids" ["thing","levels"] (zek n)):∀ n:Nat,Fn P w K mg base (3 * n+6) "is_node" ["thing","levels"] (zbo n)->Fn P w K mg base (3 * n+8) "has_good_parts" ["node","levels"] (zbz n):=by
 intro n G_is_node; have G_are_kids:=S_are_kids n G_is_node
 refine d.ok (k:=3 * n+7) zdH (fun ds Q h=>?_) (fun f cdv A outer s H E hr ds Q h=>⟨_,(zk (zP (zbH (zcn zsA (pv' 1) zn) (zbH (zaC G_are_words (hr.mono (by omega)) (zc (zaK (i_A (za7 hr)) (pv' 0) zn) zi)) (zb7 (zaC G_are_kids (hr.mono (by omega)) (zc (zaK (i_A (za7 hr)) (pv' 0) zn) (zc (zae zqF (pv' 1) zn) zi)))))))),?_⟩)
 ·obtain ⟨l,w,k,m,rfl,_⟩:=h
  rfl
 obtain ⟨l,w,k,m,rfl,hm,hw,hk,q⟩:=h; simp [zX,zQ,zU,zV,zr,zB,tC',zam,zaM,tB',zac,zao,zbc,zH,zau,zK,zbd,zR,zt,zab,zak,za3,zbe,zaY,zY,zaZ,zo,zag,zap,zI,zA,zv,zaX,zw,zal,zy,zan,zz,zG,zC,zF,zaw,zW,za9,zJ,zaj,zL,zaf,zZ,zx,zaa,zat,zas,zE,zM,zah,zav,zq,zD,zp,zar,zam,zaq]
 cases m with
 | zero=>exact .inl ⟨rfl,q⟩
 | succ m =>
  refine .inr ⟨Nat.succ_pos m,w,rfl,hw,?_⟩
  have e:zhW (m+1) w k=(zc2 w && zd0 (zcs m) k):=rfl
  rw [e] at q
  cases hb:zc2 w with
  | false =>
   rw [hb] at q; exact .inl ⟨rfl,q⟩
  | true =>
   rw [hb,Bool.true_and] at q
   exact .inr ⟨rfl,k,m,by simp,by omega,hk,q⟩
theorem zfc:FnScope ["thing","levels"] ["thing","levels"] (zm zew):=⟨rfl,rfl,rfl,by decide +kernel,rfl,by decide +kernel,by decide +kernel⟩
theorem zjj (d:Df K mg "is_node" zew ["thing","levels"]) (G_is_label:Fn P w K mg base 3 "is_label" ["thing"] zcg) (G_is_triple:Fn P w K mg base 1 "is_triple" ["thing"] zb1) (S_has_good_parts:∀ n:Nat,Fn P w K mg base (3 * n+6) "is_node" ["thing","levels"] (zbo n)->Fn P w K mg base (3 * n+8) "has_good_parts" ["node","levels"] (zbz n)):∀ n:Nat,Fn P w K mg base (3 * n+6) "is_node" ["thing","levels"] (zbo n):=by
 intro n
 induction n with
 | zero=>exact d.ok (k:=3 * 0+5) zfc (fun ds Q h=>(show False from h).elim) (fun f cdv A outer s H E hr ds Q h=>(show False from h).elim)
 | succ n ih =>
 have G_is_node:Fn P w K mg base (3 * n+6) "is_node" ["thing","levels"] (zbo n):=ih
 have G_has_good_parts:=S_has_good_parts n ih
 refine d.ok (k:=3 * n+8) zfc (fun ds Q h=>?_) (fun f cdv A outer s H E hr ds Q h=>⟨_,(zk (zP (zbH (zaC G_is_triple (hr.mono (by omega)) (zc (pv' 0) zi)) (zbH (zaC G_is_label (hr.mono (by omega)) (zc (zaK (i_A (za7 hr)) (pv' 0) zn) zi)) (zb7 (zaC G_has_good_parts (hr.mono (by omega)) (zc (pv' 0) (zc (pv' 1) zi)))))))),?_⟩)
 ·obtain ⟨d,m,rfl,_⟩:=h
  rfl
 obtain ⟨d,m,rfl,hm,hs,q⟩:=h; simp [zX,zQ,zU,zV,zr,zB,tC',zam,zaM,tB',zac,zao,zbc,zH,zau,zK,zbd,zR,zt,zab,zak,za3,zbe,zaY,zY,zaZ,zo,zag,zap,zI,zA,zv,zaX,zw,zal,zy,zan,zz,zG,zC,zF,zaw,zW,za9,zJ,zaj,zL,zaf,zZ,zx,zaa,zat,zas,zE,zM,zah,zav,zq,zD,zp,zar,zam,zaq]
 refine ⟨d,rfl,hs,fun b hb=>?_⟩
 cases b with
 | false =>
  rw [zkA fun l w k e=>yO (hb.mpr ⟨l,w,k,e⟩) (by simp)] at q
  exact .inl ⟨rfl,q⟩
 | true =>
  obtain ⟨l,w,k,rfl⟩:=hb.mp rfl; have hp:=hs.parts.2; rw [zix] at q; refine .inr ⟨rfl,?_⟩; simp [zX,zQ,zU,zV,zr,zB,tC',zam,zaM,tB',zac,zao,zbc,zH,zau,zK,zbd,zR,zt,zab,zak,za3,zbe,zaY,zY,zaZ,zo,zag,zap,zI,zA,zv,zaX,zw,zal,zy,zan,zz,zG,zC,zF,zaw,zW,za9,zJ,zaj,zL,zaf,zZ,zx,zaa,zat,zas,zE,zM,zah,zav,zq,zD,zp,zar,zam,zaq]
  refine zoW (hp l (by simp)) ?_
  cases hl:zpB l with
  | false =>
   rw [hl] at q; exact .inl ⟨rfl,q⟩
  | true =>
   rw [hl,Bool.true_and] at q
   exact .inr ⟨rfl,l,w,k,m,rfl,by omega,hp w (by simp),hp k (by simp),q⟩
theorem zi5:FnScope ["thing"] ["thing"] (zm zev):=⟨rfl,rfl,rfl,by decide +kernel,rfl,by decide +kernel,by decide +kernel⟩
theorem zji (d:Df K mg "is_tree" zev ["thing"]) (G_is_triple:Fn P w K mg base 1 "is_triple" ["thing"] zb1) (G_has_good_parts:Fn P w K mg base 38 "has_good_parts" ["node","levels"] (zbz 10)) (z_isinstance:mg "isinstance"=none) (z_str:mg "str"=none) {t_MOST_DEEP:Tok} (g_MOST_DEEP:mg "MOST_DEEP"=some (.int 9 t_MOST_DEEP)):Fn P w K mg base 39 "is_tree" ["thing"] zdF:=by
 refine d.ok zi5 (fun ds Q h=>?_) (fun f cdv A outer s H E hr ds Q h=>⟨_,(zj (za1 (PW'.pt (zfh (zbt (zbs (zaC G_is_triple (hr.mono (by decide)) (zc (pv' 0) zi)))) (zey (zbt (zbs (zO (zcO K rfl) z_isinstance yY (zc (zaK (i_A (za7 hr)) (pv' 0) zn) (zc (zcC z_str YG) zi)))))))) (zk (zP zcE)) zay)
  (zk (zP (zbH (zcn (zdt (zcp hr)) (zaK (i_A (za7 hr)) (pv' 0) zn) (zaB [])) (zb7 (zaC G_has_good_parts (hr.mono (by decide)) (zc (pv' 0) (zc (ziu g_MOST_DEEP) zi)))))))),?_⟩)
 ·obtain ⟨d,rfl,_⟩:=h
  rfl
 obtain ⟨d,rfl,hs,q⟩:=h; simp [zX,zQ,zU,zV,zr,zB,tC',zam,zaM,tB',zac,zao,zbc,zH,zau,zK,zbd,zR,zt,zab,zak,za3,zbe,zaY,zY,zaZ,zo,zag,zap,zI,zA,zv,zaX,zw,zal,zy,zan,zz,zG,zC,zF,zaw,zW,za9,zJ,zaj,zL,zaf,zZ,zx,zaa,zat,zas,zE,zM,zah,zav,zq,zD,zp,zar,zam,zaq]
 refine ⟨d,rfl,hs,fun b hb=>?_⟩
 cases b with
 | false=>exact .inl ⟨rfl,q false ⟨fun z=>(nomatch z),fun ⟨w,k,e,_⟩=>hb.mpr ⟨_,w,k,e⟩⟩⟩
 | true =>
  obtain ⟨l,w,k,rfl⟩:=hb.mp rfl; have hp:=hs.parts.2; refine .inr ⟨rfl,?_⟩; simp [zX,zQ,zU,zV,zr,zB,tC',zam,zaM,tB',zac,zao,zbc,zH,zau,zK,zbd,zR,zt,zab,zak,za3,zbe,zaY,zY,zaZ,zo,zag,zap,zI,zA,zv,zaX,zw,zal,zy,zan,zz,zG,zC,zF,zaw,zW,za9,zJ,zaj,zL,zaf,zZ,zx,zaa,zat,zas,zE,zM,zah,zav,zq,zD,zp,zar,zam,zaq]
  rcases (hp l (by simp)).any with ⟨l,rfl,hl⟩ | ⟨t,hk,ht⟩
  ·refine zkQ (b:=true) rfl rfl (.inr ⟨rfl,?_⟩)
   simp [zX,zQ,zU,zV,zr,zB,tC',zam,zaM,tB',zac,zao,zbc,zH,zau,zK,zbd,zR,zt,zab,zak,za3,zbe,zaY,zY,zaZ,zo,zag,zap,zI,zA,zv,zaX,zw,zal,zy,zan,zz,zG,zC,zF,zaw,zW,za9,zJ,zaj,zL,zaf,zZ,zx,zaa,zat,zas,zE,zM,zah,zav,zq,zD,zp,zar,zam,zaq]
   by_cases e:l=[]
   ·subst e
    refine .inr ⟨rfl,.str [],w,k,9,rfl,by omega,hp w (by simp),hp k (by simp),q _ ⟨fun z=>⟨w,k,rfl,z⟩,fun ⟨w',k',e,z⟩=>?_⟩⟩
    cases e; exact z
   ·refine .inl ⟨e,q false ⟨fun z=>(nomatch z),fun ⟨w',k',e',z⟩=>?_⟩⟩
    cases e'; exact yO rfl e
  ·have hz:W.kitOne K (.type t) (.type "str")=some false:=by rcases ht with rfl | rfl | rfl | rfl | rfl | rfl <;> rfl
   refine zkQ hk hz (.inl ⟨rfl,q false ⟨fun z=>(nomatch z),fun ⟨w,k,e,_⟩=>?_⟩⟩)
   cases e; cases hk
   simp at ht
end
def zbx:Sp':=fun ds Q=>∃ t l,ds=[trD t,.str l]/\Q (.val (znq (zbl l t.kds)))
def zb9:Sp':=fun ds Q=>∃ t p,ds=[trD t,plc p]/\Q (.val (znq (zbq t p)))
instance:MSp zb9:=⟨fun _ _ _ h ⟨t,p,e,q⟩=>⟨t,p,e,h _ q⟩⟩
def zdo:Sp':=fun ds Q=>∃ t:Tr,ds=[trD t]/\(zdg t []).length<=60/\(∀ q,q ∈ zdg t []->q.length<=8)/\Q (.own (.lst ((zdg t []).map plc)))
theorem zfT (t:Tr) (p:Pl):1<=(zdg t p).length:=by rw [zeA]; simp
theorem zec {α β:Type} {f:α->List β}:∀ {l:List α},(∀ a,a ∈ l->1<=(f a).length)->l.length<=(l.flatMap f).length
 | [],_=>by simp
 | a :: l,h=>by
  have h1:=h a (by simp)
  have h2:=zec (f:=f) (l:=l) fun b hb=>h b (by simp [hb])
  simp only [List.flatMap_cons,YA,yP]; omega
theorem zl2 (t:Tr) (Q:D->Prop):zja (trD t) (.int 0) Q↔Q (.str t.lab):=by rw [zbI]; simp
def wD (x:Pl × Tr):D:=.tup [plc x.1,trD x.2]
abbrev wP (x:Pl × Tr):List Pl:=zdg x.2 x.1
def zb0:Sp':=fun ds Q=>∃ l,ds=[.str l]/\l.length<=900/\Q (.val (plc (zdx l)))
def zs7 (L:List (List Nat)):Prop:=L.length<=8/\L.all zS=true
def zbL:Sp':=fun ds Q=>∃ L,ds=[plc L]/\zs7 L/\Q (.val (.str (textOf L)))
theorem zn7:1000<sizeLine:=zaW (yF _)
structure TOk (t:Tr):Prop where
 ds:Ds t
 len:(zaR t []).length<=60
 ok:∀ r ∈ zaR t [],RowOk r
def zbP:Sp':=fun ds Q=>∃ r:Row,ds=[plc r.1,plc r.2]/\RowOk r/\Q (.val (.str (ze4 r)))
def zd9:Sp':=fun ds Q=>∃ t,ds=[trD t]/\TOk t/\Q (.val (.str (zcb t)))
def zbY:Sp':=fun ds Q=>∃ r:Row,ds=[.str (ze4 r)]/\RowOk r/\Q (.val (zhi r))
def zfD:Sp':=fun ds Q=>∃ t,ds=[.str (zcb t)]/\TOk t/\t.lab=[]/\Sn (trD t)/\(∃ w k,trD t=.tup [.str [],w,k]/\zhW 9 w k=true)/\Q (.val (trD t))
instance:MSp zbP:=⟨fun _ _ _ h ⟨r,e,a,q⟩=>⟨r,e,a,h _ q⟩⟩
instance:MSp zbY:=⟨fun _ _ _ h ⟨r,e,a,q⟩=>⟨r,e,a,h _ q⟩⟩
theorem zhk {n:Nat} (h:n<=100000):n<=sizeLine:=by rw [sizeLine_eq]; omega
def zbr:Sp':=fun ds Q=>∃ rows:List Row,ds=[.lst (rows.map zhi)]/\rows.length<=800/\Q (.val (zjt rows.reverse).2)
theorem zgd {q:Pl} (h:q≠[]):atI (q.map D.str) (-1)=some (.str (zbk q)):=by
 have e:=List.dropLast_concat_getLast h
 have e2:zbk q=q.getLast h:=by unfold zbk; rw [List.getLast?_eq_some_getLast h]; rfl
 rw [e2]
 conv=>lhs; rw [<- e,YM,List.map_singleton]
 exact znb _ _
section
variable {P:Program} {w:World} {K:W.Frag} {mg:Str->Option Value} {base:Heap}
theorem zaH:FnScope ["rows","kids","node","place","words","label"] ["rows"] (zm zb4):=⟨rfl,rfl,rfl,by decide +kernel,rfl,by decide +kernel,by decide +kernel⟩
theorem zeF (d:Df K mg "tree_of_rows" zb4 ["rows"]) (z_reversed:mg "reversed"=none) (z_tuple:mg "tuple"=none):Fn P w K mg base 1 "tree_of_rows" ["rows"] zbr:=by
 refine d.ok zaH (fun ds Q h=>?_) (fun f cdv A outer s H E hr ds Q h=>⟨_,(zj (zcY 1 zaH.nd zop)
  (zj (zax 2 zaH.nd zfV)
  (zj (zok (by rfl) (zou (by rfl) z_reversed (zc (pv' 0) zi)) (zhy (n:=2) (zcc (zaA 3 zaH.nd) (zcc (zaA 4 zaH.nd) zfU)))
   (zax 5 zaH.nd (zqr (zaI (zdt (zcp hr)) (pv' 3) (zaF zi)) (zaB []) (zaK (i_A (za7 hr)) (pv' 3) zeD))) ?label
   (zkb (i:=2) zaH.nd (by rfl) (by exact .inl rfl) (zno (zdS (zcB (i:=5) (by rfl) (by exact .inl rfl)) (zdS (zcB (i:=4) (by rfl) (by exact .inl rfl)) (zdS (zoy hr.hd (by rfl) z_tuple (by rfl) z_reversed (zmn (za7 hr) (zcB (i:=1) (by rfl) (by exact .inl rfl)) (zcB (i:=3) (by rfl) (by exact .inl rfl)) (zkj zfk) (by exact ⟨rfl,rfl,rfl,rfl⟩))) zfk)))))
   (zke (zoF PySem.F.plainAttrs_list PySem.F.slot_list_append PySem.F.type_list_append (zdu (X:=_)) (zmm (za7 hr) (zcB (i:=1) (by rfl) (by exact .inl rfl)) (zc5 s_A (pv' 3) zgw (zd4 zeD)).h (zkj zfk) (by exact ⟨rfl,rfl,rfl,rfl⟩)) (zdS (zcB (i:=2) (by rfl) (by exact .inl rfl)) zfk))))
  (zk (zP (pv' 2)))))),?_⟩)
 case label =>
  intro N rD nd s5 a p ws q; simp [zX,zQ,zU,zV,zr,zB,tC',zam,zaM,tB',zac,zao,zbc,zH,zau,zK,zbd,zR,zt,zab,zak,za3,zbe,zaY,zY,zaZ,zo,zag,zap,zI,zA,zv,zaX,zw,zal,zy,zan,zz,zG,zC,zF,zaw,zW,za9,zJ,zaj,zL,zaf,zZ,zx,zaa,zat,zas,zE,zM,zah,zav,zq,zD,zp,zar,zam,zaq]
  by_cases hp:p=[]
  ·subst hp
   exact .inr ⟨rfl,q⟩
  ·exact .inl ⟨hp,_,zgd hp,q⟩
 ·obtain ⟨r,rfl,_⟩:=h
  rfl
 obtain ⟨rows,rfl,hl,q⟩:=h; simp [zX,zQ,zU,zV,zr,zB,tC',zam,zaM,tB',zac,zao,zbc,zH,zau,zK,zbd,zR,zt,zab,zak,za3,zbe,zaY,zY,zaZ,zo,zag,zap,zI,zA,zv,zaX,zw,zal,zy,zan,zz,zG,zC,zF,zaw,zW,za9,zJ,zaj,zL,zaf,zZ,zx,zaa,zat,zas,zE,zM,zah,zav,zq,zD,zp,zar,zam,zaq]
 exact ⟨rows,rfl,hl,fun _ _ _=>q⟩
theorem zep:FnScope ["node","label","kid"] ["node","label"] (zm zdN):=⟨rfl,rfl,rfl,by decide +kernel,rfl,by decide +kernel,by decide +kernel⟩
theorem zhI (d:Df K mg "kid_with" zdN ["node","label"]):Fn P w K mg base 1 "kid_with" ["node","label"] zbx:=by
 refine d.ok zep (fun ds Q h=>?_) (fun f cdv A outer s H E hr ds Q h=>⟨_,(zj (zcm (zbG (zaK (i_A (za7 hr)) (pv' 0) zn)) (zaA 2 zep.nd)
   (zk (za1 (zaI (zdt (zcp hr)) (zaK (i_A (za7 hr)) (pv' 2) zn) (pv' 1)) (zk (zP (pv' 2))) zay)))
  (zk (zP zfV))),?_⟩)
 ·obtain ⟨t,l,rfl,_⟩:=h
  rfl
 obtain ⟨t,l,rfl,q⟩:=h; rw [zbI]; simp [zX,zQ,zU,zV,zr,zB,tC',zam,zaM,tB',zac,zao,zbc,zH,zau,zK,zbd,zR,zt,zab,zak,za3,zbe,zaY,zY,zaZ,zo,zag,zap,zI,zA,zv,zaX,zw,zal,zy,zan,zz,zG,zC,zF,zaw,zW,za9,zJ,zaj,zL,zaf,zZ,zx,zaa,zat,zas,zE,zM,zah,zav,zq,zD,zp,zar,zam,zaq]
 have key:∀ (ks:List Tr) (A s2:Slot),Q (.val (znq (zbl l ks)))->zd2 (zr 2) (zU (tB' (zaM zlo (zaM zja (zB 2) (tC' (D.int 0))) (zB 1))) (zQ (zB 2)) zw)
   { nx:=zQ (tC' D.non) { nx:=fun x=>Q (Res.val D.non),rt:=fun r x=>Q r },rt:=fun r x=>Q r } (ks.map trD) [A,.val (.str l),s2]:=by
  intro ks
  induction ks with
  | nil=>intro A s2 q; simpa [zd2,zQ,tC',zbl,znq] using q
  | cons k ks ih =>
   intro A s2 q; have ih':=ih A (.val (trD k)); rw [zbI] at ih'; simp only [yZ,zd2]; rw [zbI k]
   by_cases e:k.lab=l
   ·have:zbl l (k :: ks)=some k:=by simp [zbl,e]
    rw [this] at q
    have q':Q (.val (trD k)):=q
    rw [zbI k] at q'
    simpa [zr,zU,tB',zaM,zB,tC',zQ,zw,e] using q'
   ·have:zbl l (k :: ks)=zbl l ks:=by simp [zbl,e]
    rw [this] at q
    simpa [zr,zU,tB',zaM,zB,tC',zQ,zw,e] using ih' q
 exact key _ _ _ q
theorem zcS:FnScope ["tree","place","node","label"] ["tree","place"] (zm zes):=⟨rfl,rfl,rfl,by decide +kernel,rfl,by decide +kernel,by decide +kernel⟩
theorem zjf (d:Df K mg "node_at" zes ["tree","place"]) (G_kid_with:Fn P w K mg base 1 "kid_with" ["node","label"] zbx):Fn P w K mg base 2 "node_at" ["tree","place"] zb9:=by
 refine d.ok zcS (fun ds Q h=>?_) (fun f cdv A outer s H E hr ds Q h=>⟨_,(zj (zax 2 zcS.nd (pv' 0))
  (zj (zcm (zbG (pv' 1)) (zaA 3 zcS.nd)
   (zj (zax 2 zcS.nd (zaC G_kid_with (hr.mono (by decide)) (zc (pv' 2) (zc (pv' 3) zi))))
  (zk (za1 (zaI zsx (pv' 2) zfV) (zk (zP zfV)) zay))))
  (zk (zP (pv' 2))))),?_⟩)
 ·obtain ⟨t,l,rfl,_⟩:=h
  rfl
 obtain ⟨t,p,rfl,q⟩:=h; simp [zX,zQ,zU,zV,zr,zB,tC',zam,zaM,tB',zac,zao,zbc,zH,zau,zK,zbd,zR,zt,zab,zak,za3,zbe,zaY,zY,zaZ,zo,zag,zap,zI,zA,zv,zaX,zw,zal,zy,zan,zz,zG,zC,zF,zaw,zW,za9,zJ,zaj,zL,zaf,zZ,zx,zaa,zat,zas,zE,zM,zah,zav,zq,zD,zp,zar,zam,zaq,zbx]
 have key:∀ (p:Pl) (t:Tr) (A B s3:Slot),Q (.val (znq (zbq t p)))->zd2 (zr 3) (zX (zV (zv zbx (zt (zB 2) (zt (zB 3) zR))) (zr 2)) (zU (tB' (zaM (zse false) (zB 2) (tC' D.non))) (zQ (tC' D.non)) zw))
   { nx:=zQ (zB 2) { nx:=fun x=>Q (Res.val D.non),rt:=fun r x=>Q r },rt:=fun r x=>Q r } (p.map D.str) [A,B,.val (trD t),s3]:=by
  intro p
  induction p with
  | nil=>intro t A B s3 q; simpa [zd2,zQ,zB,zbq,znq] using q
  | cons l p ih =>
   intro t A B s3 q; simp only [yZ,zd2]; simp [zr,zX,zV,zv,zt,zR,zB,tC',zU,tB',zaM,zQ,zw,zbx,Res.toD,zse]; refine ⟨t,l,⟨rfl,rfl⟩,?_⟩
   cases hk:zbl l t.kds with
   | none =>
    have:zbq t (l :: p)=none:=by simp [zbq,hk]
    rw [this] at q
    simpa [znq] using q
   | some k =>
    have:zbq t (l :: p)=zbq k p:=by simp [zbq,hk]
    rw [this] at q
    simpa [znq,ziY] using ih k A B _ q
 exact key _ _ _ _ _ q
theorem zcv:FnScope ["tree","told","waiting","here","kid"] ["tree"] (zm zfK):=⟨rfl,rfl,rfl,by decide +kernel,rfl,by decide +kernel,by decide +kernel⟩
theorem zks (d:Df K mg "places" zfK ["tree"]) (z_len:mg "len"=none) (z_reversed:mg "reversed"=none):Fn P w K mg base 1 "places" ["tree"] zdo:=by
 refine d.ok zcv (fun ds Q h=>?_) (fun f cdv A outer s H E hr ds Q h=>⟨_,(zj (zcY 1 zcv.nd (zeB zi))
  (zj (zcY 2 zcv.nd (zeB (zc (zaF (zc (zaF zi) (zc (pv' 0) zi))) zi)))
  (zj (zez (zhx (zaI zsA (zO zbJ z_len yq (zc (pv' 2) zi)) zn))
   (zj (zax 3 zcv.nd (zoz 2))
  (zj (zcZ 1 (zaK (i_A (za7 hr)) (pv' 3) zn))
  (zk (zcm (zot rfl z_reversed (zc (zaK (i_A (za7 hr)) (zaK (i_A (za7 hr)) (pv' 3) zn) zn) zi)) (zaA 4 zcv.nd)
   (zk (zcZ 2 (zaF (zc (zae zbE (zaK (i_A (za7 hr)) (pv' 3) zn) (zaF (zc (zaK (i_A (za7 hr)) (pv' 4) zn) zi))) (zc (pv' 4) zi))))))))))
  (zk (zir 1))))),?_⟩)
 ·obtain ⟨t,rfl,_⟩:=h
  rfl
 obtain ⟨t,rfl,hl,h8,hq⟩:=h; simp [zX,zQ,zU,zV,zr,zB,tC',zam,zaM,tB',zac,zao,zbc,zH,zau,zK,zbd,zR,zt,zab,zak,za3,zbe,zaY,zY,zaZ,zo,zag,zap,zI,zA,zv,zaX,zw,zal,zy,zan,zz,zG,zC,zF,zaw,zW,za9,zJ,zaj,zL,zaf,zZ,zx,zaa,zat,zas,zE,zM,zah,zav,zq,zD,zp,zar,zam,zaq]
 refine zeh (fun Γ=>∃ (told:List Pl) (ws:List (Pl × Tr)) (s3 s4:Slot),Γ=[.val (trD t),.own (.lst (told.map plc)),.own (.lst (ws.map wD)),s3,s4]/\told ++ ws.reverse.flatMap wP=zdg t []) (fun Γ=>match Γ with | [_,.own (.lst l),_,_,_]=>61-l.length | _=>0) ⟨[],[([],t)],.emp,.emp,rfl,by simp⟩ ?_
 rintro Γ ⟨told,ws,s3,s4,rfl,he⟩
 have hle:=ye List.length he; rw [yP] at hle
 have hwl:ws.length<=(ws.reverse.flatMap wP).length:=by
  have:=zec (f:=wP) (l:=ws.reverse) fun a _=>zfT _ _
  rw [yj] at this; exact this
 simp [zX,zQ,zU,zV,zr,zB,tC',zam,zaM,tB',zac,zao,zbc,zH,zau,zK,zbd,zR,zt,zab,zak,za3,zbe,zaY,zY,zaZ,zo,zag,zap,zI,zA,zv,zaX,zw,zal,zy,zan,zz,zG,zC,zF,zaw,zW,za9,zJ,zaj,zL,zaf,zZ,zx,zaa,zat,zas,zE,zM,zah,zav,zq,zD,zp,zar,zam,zaq]
 rcases List.eq_nil_or_concat ws with rfl | ⟨ws',x,rfl⟩
 ·refine .inl ⟨rfl,?_⟩
  have:told=zdg t []:=by simpa using he
  rw [this]; exact hq
 ·obtain ⟨q,u⟩:=x
  have he':told ++ (zdg u q ++ ws'.reverse.flatMap wP)=zdg t []:=by simpa using he
  have hq8:q.length<=8:=h8 q (by rw [<- he',zeA u q]; simp)
  have hkl:u.kds.length<=(u.kds.flatMap fun k=>zdg k (q ++ [k.lab])).length:=zec fun a _=>zfT _ _
  have hle2:=ye List.length he'; rw [zeA u q] at hle2; simp only [yP,YA] at hle2
  have hwl2:ws'.length<=(ws'.reverse.flatMap wP).length:=by
   have:=zec (f:=wP) (l:=ws'.reverse) fun a _=>zfT _ _
   rw [yj] at this; exact this
  refine .inr ⟨by simp,ws'.map wD,wD (q,u),by simp,?_⟩
  have e0:wD (q,u)=.tup [plc q,.tup [.str u.lab,plc u.wds,.tup (u.kds.map trD)]]:=by unfold wD; rw [zbI u]
  rw [e0]; simp [zpf,zX,zQ,zU,zV,zr,zB,tC',zam,zaM,tB',zac,zao,zbc,zH,zau,zK,zbd,zR,zt,zab,zak,za3,zbe,zaY,zY,zaZ,zo,zag,zap,zI,zA,zv,zaX,zw,zal,zy,zan,zz,zG,zC,zF,zaw,zW,za9,zJ,zaj,zL,zaf,zZ,zx,zaa,zat,zas,zE,zM,zah,zav,zq,zD,zp,zar,zam,zaq]
  refine ⟨zaW (by omega),?_⟩
  refine zfp (fun i Γ=>∃ s4,Γ=[.val (trD t),.own (.lst ((told ++ [q]).map plc)),.own (.lst ((ws' ++ ((u.kds.reverse.take i).map fun k=>(q ++ [k.lab],k))).map wD)),.val (.tup [plc q,.tup [.str u.lab,plc u.wds,.tup (u.kds.map trD)]]),s4]) ⟨s4,by simp⟩ ?_ ?_
  ·rintro i d Γ hd ⟨s4',rfl⟩
   rw [<- List.map_reverse,yJ] at hd
   cases hc:u.kds.reverse[i]? with
   | none=>rw [hc] at hd; cases hd
   | some k =>
    rw [hc] at hd; cases hd
    have hi:i<u.kds.length:=by
     have:=(yG.mp hc).1
     rw [yj] at this; exact this
    have e2:u.kds.reverse.take (i+1)=u.kds.reverse.take i ++ [k]:=by rw [YH,hc]; rfl
    rw [e2]
    have e3:wD (q ++ [k.lab],k)=.tup [plc (q ++ [k.lab]),trD k]:=rfl
    simp [zX,zQ,zU,zV,zr,zB,tC',zam,zaM,tB',zac,zao,zbc,zH,zau,zK,zbd,zR,zt,zab,zak,za3,zbe,zaY,zY,zaZ,zo,zag,zap,zI,zA,zv,zaX,zw,zal,zy,zan,zz,zG,zC,zF,zaw,zW,za9,zJ,zaj,zL,zaf,zZ,zx,zaa,zat,zas,zE,zM,zah,zav,zq,zD,zp,zar,zam,zaq,wD,zl2]
    exact ⟨za4 (by omega),zaW (by omega)⟩
  ·rintro Γ ⟨s4',rfl⟩
   have e5:u.kds.reverse.take (List.map trD u.kds).reverse.length=u.kds.reverse:=yd (by simp)
   simp only [e5]; refine ⟨⟨told ++ [q],_,⟨_,_,rfl⟩,?_⟩,?_⟩
   ·rw [<- he',zeA u q]
    simp [List.flatMap_map]
   ·simp
    omega
theorem zgp:FnScope ["text"] ["text"] (zm zdd):=⟨rfl,rfl,rfl,by decide +kernel,rfl,by decide +kernel,by decide +kernel⟩
theorem zgF (d:Df K mg "labels_in" zdd ["text"]) (z_tuple:mg "tuple"=none):Fn P w K mg base 1 "labels_in" ["text"] zb0:=by
 refine d.ok zgp (fun ds Q h=>?_) (fun f cdv A outer s H E hr ds Q h=>⟨_,(zj (za1 (zaI (zdt (zcp hr)) (pv' 0) (zaB [46])) (zk (zP (zaF zi))) zay)
  (zk (zP (zbB zgc z_tuple YF (zc (zdr zhP YB YO PySem.F.type_str_split (pv' 0) (zc (zaB [46]) zi)) zi))))),?_⟩)
 ·obtain ⟨l,rfl,_⟩:=h
  rfl
 obtain ⟨l,rfl,hl,q⟩:=h; simp [zX,zQ,zU,zV,zr,zB,tC',zam,zaM,tB',zac,zao,zbc,zH,zau,zK,zbd,zR,zt,zab,zak,za3,zbe,zaY,zY,zaZ,zo,zag,zap,zI,zA,zv,zaX,zw,zal,zy,zan,zz,zG,zC,zF,zaw,zW,za9,zJ,zaj,zL,zaf,zZ,zx,zaa,zat,zas,zE,zM,zah,zav,zq,zD,zp,zar,zam,zaq]
 by_cases e:l=[46]
 ·exact .inr ⟨e,by simpa [zdx,e] using q⟩
 ·refine .inl ⟨e,l,46,rfl,rfl,by have:=zn7; omega,_,_,rfl,.inl rfl,?_⟩
  have z:zdx l=spl 46 l:=yM e
  rw [z] at q; exact q
theorem zfG:FnScope ["place"] ["place"] (zm zcx):=⟨rfl,rfl,rfl,by decide +kernel,rfl,by decide +kernel,by decide +kernel⟩
theorem zfW (d:Df K mg "place_text" zcx ["place"]):Fn P w K mg base 1 "place_text" ["place"] zbL:=by
 refine d.ok zfG (fun ds Q h=>?_) (fun f cdv A outer s H E hr ds Q h=>⟨_,(zj (za1 (zaI (zdt (zcp hr)) (pv' 0) (zaF zi)) (zk (zP (zaB [46]))) zay)
  (zk (zP (zdr zgJ YB Yl Yk (zaB [46]) (zc (pv' 0) zi))))),?_⟩)
 ·obtain ⟨l,rfl,_⟩:=h
  rfl
 obtain ⟨L,rfl,hl,q⟩:=h; simp [zX,zQ,zU,zV,zr,zB,tC',zam,zaM,tB',zac,zao,zbc,zH,zau,zK,zbd,zR,zt,zab,zak,za3,zbe,zaY,zY,zaZ,zo,zag,zap,zI,zA,zv,zaX,zw,zal,zy,zan,zz,zG,zC,zF,zaw,zW,za9,zJ,zaj,zL,zaf,zZ,zx,zaa,zat,zas,zE,zM,zah,zav,zq,zD,zp,zar,zam,zaq]
 by_cases e:L=[]
 ·exact .inr ⟨e,by simpa [textOf,e] using q⟩
 ·refine .inl ⟨e,46,L,rfl,.inr rfl,?_,?_⟩
  ·have hp:=yW.mp hl.2
   have:=sum_le (B:=12) fun a ha=>(prog_facts (hp a ha)).2.1
   have:=hl.1
   omega
  ·simpa [textOf,e] using q
theorem zhl:FnScope ["place","words"] ["place","words"] (zm zdI):=⟨rfl,rfl,rfl,by decide +kernel,rfl,by decide +kernel,by decide +kernel⟩
theorem zhB (d:Df K mg "row_text" zdI ["place","words"]) (G_place_text:Fn P w K mg base 1 "place_text" ["place"] zbL):Fn P w K mg base 2 "row_text" ["place","words"] zbP:=by
 refine d.ok zhl (fun ds Q h=>?_) (fun f cdv A outer s H E hr ds Q h=>⟨_,(zk (zP (zdr zgJ YB Yl Yk (zaB [32]) (zc (zae zbE (zaF (zc (zaC G_place_text (hr.mono (by decide)) (zc (pv' 0) zi)) zi)) (pv' 1)) zi)))),?_⟩)
 ·obtain ⟨r,rfl,_⟩:=h
  rfl
 obtain ⟨r,rfl,ok,q⟩:=h; simp [zX,zQ,zU,zV,zr,zB,tC',zam,zaM,tB',zac,zao,zbc,zH,zau,zK,zbd,zR,zt,zab,zak,za3,zbe,zaY,zY,zaZ,zo,zag,zap,zI,zA,zv,zaX,zw,zal,zy,zan,zz,zG,zC,zF,zaw,zW,za9,zJ,zaj,zL,zaf,zZ,zx,zaa,zat,zas,zE,zM,zah,zav,zq,zD,zp,zar,zam,zaq,zbL]
 refine ⟨⟨ok.len,ok.lab⟩,zhk (by have:=ok.wds; omega),32,textOf r.1 :: r.2,rfl,.inr rfl,?_,q⟩
 have h1:=zfy ok.len ok.lab; have h2:=M11.sum_le (B:=12) (L:=r.2) ok.wlen; have h3:=ok.wds; rw [yZ,List.sum_cons,YA]; omega
theorem zlR:FnScope ["tree"] ["tree"] (zm zfJ):=⟨rfl,rfl,rfl,by decide +kernel,rfl,by decide +kernel,by decide +kernel⟩
theorem zmr (d:Df K mg "shown" zfJ ["tree"]) (G_node_at:Fn P w K mg base 2 "node_at" ["tree","place"] zb9) (G_places:Fn P w K mg base 1 "places" ["tree"] zdo) (G_row_text:Fn P w K mg base 2 "row_text" ["place","words"] zbP):Fn P w K mg base 3 "shown" ["tree"] zd9:=by
 refine d.ok zlR (fun ds Q h=>?_) (fun f cdv A outer s H E hr ds Q h=>⟨_,(zk (zP (zdr zgJ YB Yl Yk (zaB [10]) (zc (zcD (zdh (fsc:=zm zfJ) (N:=["tree"]) (N':=["place","tree"]) (src:=[none,some 0]) (by refine ⟨rfl,?_,?_,?_,rfl,rfl⟩ <;> decide +kernel) (zbG (zaC G_places (hr.mono (by decide)) (zc (pv' 0) zi))) (fun _ _ _ _ _ _=>(zaA 0 (show (["place","tree"]:List Str).Nodup by decide +kernel))) (fun _ _ _ _ _ _=>zb3) (fun _ _ _ _ _ _=>(zaC G_row_text (hr.mono (by decide)) (zc (pv' 0) (zc (zaK (i_A (za7 hr)) (zaC G_node_at (hr.mono (by decide)) (zc (pv' 1) (zc (pv' 0) zi))) zn) zi)))))) zi)))),?_⟩)
 ·obtain ⟨t,rfl,_⟩:=h
  rfl
 obtain ⟨t,rfl,ok,q⟩:=h; simp [zX,zQ,zU,zV,zr,zB,tC',zam,zaM,tB',zac,zao,zbc,zH,zau,zK,zbd,zR,zt,zab,zak,za3,zbe,zaY,zY,zaZ,zo,zag,zap,zI,zA,zv,zaX,zw,zal,zy,zan,zz,zG,zC,zF,zaw,zW,za9,zJ,zaj,zL,zaf,zZ,zx,zaa,zat,zas,zE,zM,zah,zav,zq,zD,zp,zar,zam,zaq,zdo]; have hrows:=zjZ t t ok.ds [] rfl
 have hll:(zdg t []).length=(zaR t []).length:=by rw [<- hrows,yE]
 have hlen:=ok.len
 have hok:∀ q ∈ zdg t [],RowOk (q,ze1 t q):=fun q hq=>ok.ok _ (by rw [<- hrows]; exact List.mem_map_of_mem hq)
 refine ⟨t,rfl,by omega,fun q hq=>(hok q hq).len,za4 (by omega),?_⟩
 refine zcN (fun i acc Γ=>∃ s0,acc=(((zdg t []).take i).map fun q=>ze4 (q,ze1 t q)).map D.str/\Γ=[s0,.val (trD t)]) ⟨.emp,rfl,rfl⟩ ?_ ?_
 ·rintro i d acc Γ hd ⟨s0,rfl,rfl⟩
  rw [yJ] at hd
  cases hc:(zdg t [])[i]? with
  | none=>rw [hc] at hd; cases hd
  | some q =>
   rw [hc] at hd; cases hd; have hm:=yV hc; obtain ⟨u,hu⟩:=zkE t t ok.ds [] rfl q hm
   have hw:ze1 t q=u.wds:=by unfold ze1; rw [hu]; rfl
   rw [YH,hc]; simp [zX,zQ,zU,zV,zr,zB,tC',zam,zaM,tB',zac,zao,zbc,zH,zau,zK,zbd,zR,zt,zab,zak,za3,zbe,zaY,zY,zaZ,zo,zag,zap,zI,zA,zv,zaX,zw,zal,zy,zan,zz,zG,zC,zF,zaw,zW,za9,zJ,zaj,zL,zaf,zZ,zx,zaa,zat,zas,zE,zM,zah,zav,zq,zD,zp,zar,zam,zaq,zb9,zbP]; refine ⟨t,q,⟨rfl,rfl⟩,?_⟩; rw [hu]
   show zja (trD u) (.int 1) _
   rw [zbI]; simp
   have:=hok q hm
   rw [hw] at this
   exact ⟨this,by rw [hw]⟩
 ·rintro acc Γ ⟨s0,rfl,rfl⟩
  rw [show List.take (List.map plc (zdg t [])).length (zdg t [])=zdg t [] from yd (by rw [yE]; exact yF _)]
  have e:(zdg t []).map (fun q=>ze4 (q,ze1 t q))=(zaR t []).map ze4:=by
   rw [<- hrows,yh]; rfl
  rw [e]; refine ⟨10,(zaR t []).map ze4,rfl,.inl rfl,?_,q⟩
  have:=zfA ok.ok
  rw [yE]; omega
theorem zdZ:FnScope ["row","parts"] ["row"] (zm zda):=⟨rfl,rfl,rfl,by decide +kernel,rfl,by decide +kernel,by decide +kernel⟩
theorem zgB (d:Df K mg "row_parts" zda ["row"]) (G_labels_in:Fn P w K mg base 1 "labels_in" ["text"] zb0) (z_tuple:mg "tuple"=none):Fn P w K mg base 2 "row_parts" ["row"] zbY:=by
 refine d.ok zdZ (fun ds Q h=>?_) (fun f cdv A outer s H E hr ds Q h=>⟨_,(zj (zax 1 zdZ.nd (zdr zhP YB YO PySem.F.type_str_split (pv' 0) (zc (zaB [32]) zi)))
  (zk (zP (zaF (zc (zaC G_labels_in (hr.mono (by decide)) (zc (zaK (i_A (za7 hr)) (pv' 1) zn) zi)) (zc (zbB zgc z_tuple YF (zc (zc5 s_A (pv' 1) (zd4 zn) zgw) zi)) zi)))))),?_⟩)
 ·obtain ⟨r,rfl,_⟩:=h
  rfl
 obtain ⟨r,rfl,ok,q⟩:=h; simp [zX,zQ,zU,zV,zr,zB,tC',zam,zaM,tB',zac,zao,zbc,zH,zau,zK,zbd,zR,zt,zab,zak,za3,zbe,zaY,zY,zaZ,zo,zag,zap,zI,zA,zv,zaX,zw,zal,zy,zan,zz,zG,zC,zF,zaw,zW,za9,zJ,zaj,zL,zaf,zZ,zx,zaa,zat,zas,zE,zM,zah,zav,zq,zD,zp,zar,zam,zaq,zb0]; have hrl:=zhn ok
 refine ⟨ze4 r,32,rfl,rfl,zhk (by omega),?_⟩
 rw [zj0 ok]; have ht:=zfy ok.len ok.lab; simp [zX,zQ,zU,zV,zr,zB,tC',zam,zaM,tB',zac,zao,zbc,zH,zau,zK,zbd,zR,zt,zab,zak,za3,zbe,zaY,zY,zaZ,zo,zag,zap,zI,zA,zv,zaX,zw,zal,zy,zan,zz,zG,zC,zF,zaw,zW,za9,zJ,zaj,zL,zaf,zZ,zx,zaa,zat,zas,zE,zM,zah,zav,zq,zD,zp,zar,zam,zaq]
 refine ⟨by omega,?_⟩
 have e:=ztt (textOf r.1 :: r.2); rw [yZ] at e; rw [e,zhR ok.lab]; exact q
theorem zjW:FnScope ["text","tree"] ["text"] (zm zif):=⟨rfl,rfl,rfl,by decide +kernel,rfl,by decide +kernel,by decide +kernel⟩
theorem zoM (d:Df K mg "read" zif ["text"]) (G_is_tree:Fn P w K mg base 39 "is_tree" ["thing"] zdF) (G_shown:Fn P w K mg base 3 "shown" ["tree"] zd9) (G_row_parts:Fn P w K mg base 2 "row_parts" ["row"] zbY) (G_tree_of_rows:Fn P w K mg base 1 "tree_of_rows" ["rows"] zbr) (z_isinstance:mg "isinstance"=none) (z_str:mg "str"=none):Fn P w K mg base 40 "read" ["text"] zfD:=by
 refine d.ok zjW (fun ds Q h=>?_) (fun f cdv A outer s H E hr ds Q h=>⟨_,(zj (za1 (zbt (zbs (zO (zcO K rfl) z_isinstance yY (zc (pv' 0) (zc (zcC z_str YG) zi))))) (zk zkd) zay)
  (zj (zax 1 zjW.nd (zaC G_tree_of_rows (hr.mono (by decide)) (zc (zcD (zdh (fsc:=zm zif) (N:=["text","tree"]) (N':=["row"]) (src:=[none]) (by refine ⟨rfl,?_,?_,?_,rfl,rfl⟩ <;> decide +kernel) (zbG (zdr zhP YB YO PySem.F.type_str_split (pv' 0) (zc (zaB [10]) zi))) (fun _ _ _ _ _ _=>(zaA 0 (show (["row"]:List Str).Nodup by decide +kernel))) (fun _ _ _ _ _ _=>zb3) (fun _ _ _ _ _ _=>(zaC G_row_parts (hr.mono (by decide)) (zc (pv' 0) zi))))) zi)))
  (zj (za1 (PW'.pt (zfh (zbt (zbs (zaC G_is_tree (hr.mono (by decide)) (zc (pv' 1) zi)))) (zey (zaI (zkv (zcp hr)) (zaC G_shown (hr.mono (by decide)) (zc (pv' 1) zi)) (pv' 0))))) (zk zkd) zay)
  (zk (zP (pv' 1)))))),?_⟩)
 ·obtain ⟨r,rfl,_⟩:=h
  rfl
 obtain ⟨t,rfl,ok,hl,hsn,hgood,q⟩:=h; simp [zX,zQ,zU,zV,zr,zB,tC',zam,zaM,tB',zac,zao,zbc,zH,zau,zK,zbd,zR,zt,zab,zak,za3,zbe,zaY,zY,zaZ,zo,zag,zap,zI,zA,zv,zaX,zw,zal,zy,zan,zz,zG,zC,zF,zaw,zW,za9,zJ,zaj,zL,zaf,zZ,zx,zaa,zat,zas,zE,zM,zah,zav,zq,zD,zp,zar,zam,zaq,zbr]; have hsl:=zjU ok.ok ok.len; have hlen:=ok.len
 refine ⟨zcb t,10,rfl,rfl,zhk (by omega),_,rfl,?_,?_⟩
 ·rw [zel ok.ok,yE,yE]
  exact za4 (by omega)
 rw [zel ok.ok]
 refine zcN (fun i acc Γ=>∃ s0,acc=((zaR t []).take i).map zhi/\Γ=[s0]) ⟨.emp,rfl,rfl⟩ ?_ ?_
 ·rintro i d acc Γ hd ⟨s0,rfl,rfl⟩
  rw [yh,yJ] at hd
  cases hc:(zaR t [])[i]? with
  | none=>rw [hc] at hd; cases hd
  | some r =>
   rw [hc] at hd; cases hd; rw [YH,hc]; simp [zX,zQ,zU,zV,zr,zB,tC',zam,zaM,tB',zac,zao,zbc,zH,zau,zK,zbd,zR,zt,zab,zak,za3,zbe,zaY,zY,zaZ,zo,zag,zap,zI,zA,zv,zaX,zw,zal,zy,zan,zz,zG,zC,zF,zaw,zW,za9,zJ,zaj,zL,zaf,zZ,zx,zaa,zat,zas,zE,zM,zah,zav,zq,zD,zp,zar,zam,zaq]
   exact ⟨r,rfl,ok.ok r (yV hc),by simp [zX,zQ,zU,zV,zr,zB,tC',zam,zaM,tB',zac,zao,zbc,zH,zau,zK,zbd,zR,zt,zab,zak,za3,zbe,zaY,zY,zaZ,zo,zag,zap,zI,zA,zv,zaX,zw,zal,zy,zan,zz,zG,zC,zF,zaw,zW,za9,zJ,zaj,zL,zaf,zZ,zx,zaa,zat,zas,zE,zM,zah,zav,zq,zD,zp,zar,zam,zaq]⟩
 ·rintro acc Γ ⟨s0,rfl,rfl⟩
  rw [show List.take (List.map D.str (List.map ze4 (zaR t []))).length (zaR t [])=zaR t [] from yd (by rw [yE,yE]; exact yF _)]
  have hfold:=zm1 t ok.ds hl
  refine ⟨zaR t [],rfl,by omega,?_⟩
  rw [hfold]
  refine ⟨_,rfl,hsn,fun b hb=>⟨?_,t,rfl,ok,?_⟩⟩
  ·rw [hb.mpr hgood]; rfl
  ·show zlZ (.str (zcb t)) (.str (zcb t)) _
   rw [zin]
   exact ⟨by simp,q⟩
end
def ndD (ns:Nd):List (D × D):=ns.map fun x=>(plc x.1,plc x.2)
def WS (ws:Pl):Prop:=ws.length<=4/\∀ x ∈ ws,ze0 x=true
def zbn:Sp':=fun ds Q=>∃ c:Int,ds=[.int c]/\∀ l,zS l=true->Q (.val (.str l))
def zbw:Sp':=fun ds Q=>∃ c:Int,ds=[.int c]/\∀ l,ze0 l=true->Q (.val (.str l))
def zbm:Sp':=fun ds Q=>∃ c:Int,ds=[.int c]/\∀ ws:Pl,WS ws->Q (.val (plc ws))
def zdE:Sp':=fun ds Q=>∃ l,ds=[.str l]/\zS l=true/\Q (.val (keyD l))
instance:MSp zbn:=⟨fun _ _ _ h ⟨c,e,q⟩=>⟨c,e,fun l z=>h _ (q l z)⟩⟩
instance:MSp zbw:=⟨fun _ _ _ h ⟨c,e,q⟩=>⟨c,e,fun l z=>h _ (q l z)⟩⟩
instance:MSp zbm:=⟨fun _ _ _ h ⟨c,e,q⟩=>⟨c,e,fun l z=>h _ (q l z)⟩⟩
@[simp] theorem sz5:5<=sizeLine:=za4 (by decide)
@[simp] theorem sz8:8<=sizeLine:=za4 (by decide)
section
variable {P:Program} {w:World} {K:W.Frag} {mg:Str->Option Value} {base:Heap}
theorem zcw:FnScope ["_law_cell","_law_number"] ["_law_cell"] (zm zdc):=⟨rfl,rfl,rfl,by decide +kernel,rfl,by decide +kernel,by decide +kernel⟩
theorem zgE (d:Df K mg "_law_label" zdc ["_law_cell"]) (z_str:mg "str"=none):Fn P w K mg base 1 "_law_label" ["_law_cell"] zbn:=by
 refine d.ok zcw (fun ds Q h=>?_) (fun f cdv A outer s H E hr ds Q h=>⟨_,(zj (zax 1 zcw.nd (zae zbE zn (zae zd5 (pv' 0) zn)))
  (zj (za1 (zaI (zdt (zcp hr)) (zae zd5 (zae zcF (pv' 0) zn) zn) zn) (zk (zax 1 zcw.nd (zae zbE zn (zae zd5 (zae zkw (zae zcF (pv' 0) zn) zn) zn)))) zay)
  (zk (zP (zae zbE (zbB zsX z_str YG (zc (pv' 1) zi)) (zaK (i_A (za7 hr)) (zcD (zeB (zc (zaB []) (zc (zaB []) (zc (zaB [97]) (zc (zaB [98]) (zc (zaB [97,97]) (zc (zaB [122,122]) (zc (zaB [99,98,97]) zi))))))))) (zae zd5 (zae zcF (pv' 0) zn) zn))))))),?_⟩)
 ·obtain ⟨c,rfl,_⟩:=h
  rfl
 obtain ⟨c,rfl,q⟩:=h; simp [zX,zQ,zU,zV,zr,zB,tC',zam,zaM,tB',zac,zao,zbc,zH,zau,zK,zbd,zR,zt,zab,zak,za3,zbe,zaY,zY,zaZ,zo,zag,zap,zI,zA,zv,zaX,zw,zal,zy,zan,zz,zG,zC,zF,zaw,zW,za9,zJ,zaj,zL,zaf,zZ,zx,zaa,zat,zas,zE,zM,zah,zav,zq,zD,zp,zar,zam,zaq,znR,znQ]
 obtain ⟨x,e2,m2⟩:=zhf [D.str [],D.str [],D.str [97],D.str [98],D.str [97,97],D.str [122,122],D.str [99,98,97]] (md (i:=c / 8) (n:=7) (by decide)).1 (md (i:=c / 8) (n:=7) (by decide)).2
 have hx:∃ l:List Nat,x=.str l/\l.length<=3/\∀ c ∈ l,sml c=true:=by
  simp only [yN,yz,or_false] at m2
  rcases m2 with rfl | rfl | rfl | rfl | rfl | rfl | rfl <;> exact ⟨_,rfl,by decide,by decide⟩
 obtain ⟨l,rfl,hl,hs⟩:=hx
 have fin:∀ n:Int,1<=n->n<10 ^ 9->n.natAbs.log2<1920/\7<=sizeLine/\∃ d,atI [D.str [],D.str [],D.str [97],D.str [98],D.str [97,97],D.str [122,122],D.str [99,98,97]] (c / 8 % 7)=some d/\zdR (D.str (zkx n)) d fun d=>Q (Res.val d):=by
  intro n h0 h1; obtain ⟨n1,n2,n3,n4⟩:=zoP h0 h1
  refine ⟨zkH (by omega) (by omega),za4 (by decide),_,e2,?_⟩
  rw [zj7]
  exact ⟨za4 (by omega),q _ (zqP n1 n2 n3 n4 hs hl)⟩
 have m4:=md (i:=c) (n:=4) (by decide)
 have m9:=md (i:=c / 20 * 48271) (n:=999999999) (by decide)
 by_cases e:c / 4 % 5=4
 ·exact .inr ⟨e,fin _ (by omega) (by omega)⟩
 ·exact .inl ⟨e,fin _ (by omega) (by omega)⟩
theorem zbR:FnScope ["_law_cell","_law_word_here","_law_k","_law_at"] ["_law_cell"] (zm zdJ):=⟨rfl,rfl,rfl,by decide +kernel,rfl,by decide +kernel,by decide +kernel⟩
theorem zhC (d:Df K mg "_law_word" zdJ ["_law_cell"]) (z_range:mg "range"=none):Fn P w K mg base 1 "_law_word" ["_law_cell"] zbw:=by
 refine d.ok zbR (fun ds Q h=>?_) (fun f cdv A outer s H E hr ds Q h=>⟨_,(zj (zax 1 zbR.nd (zaK (i_A (za7 hr)) (zaB [97,98,122,48,49,57,107,113]) (zae zd5 (pv' 0) zn)))
  (zj (zcm (zfj z_range (zc (zaK (i_A (za7 hr)) (zcD (zeB (zc zn (zc zn (zc zn (zc zn zi)))))) (zae zd5 (zae zcF (pv' 0) zn) zn)) zi)) (zaA 2 zbR.nd)
   (zj (zax 3 zbR.nd (zae zbE (zae zcF (pv' 0) zn) (zae zkw (pv' 2) (zae zbE zn (zae zd5 (zae zcF (pv' 0) zn) zn)))))
  (zk (zax 1 zbR.nd (zae zbE (pv' 1) (zaK (i_A (za7 hr)) (zaB wsg) (zae zd5 (pv' 3) zn)))))))
  (zk (zP (pv' 1))))),?_⟩)
 ·obtain ⟨c,rfl,_⟩:=h
  rfl
 obtain ⟨c,rfl,hq⟩:=h; simp [zX,zQ,zU,zV,zr,zB,tC',zam,zaM,tB',zac,zao,zbc,zH,zau,zK,zbd,zR,zt,zab,zak,za3,zbe,zaY,zY,zaZ,zo,zag,zap,zI,zA,zv,zaX,zw,zal,zy,zan,zz,zG,zC,zF,zaw,zW,za9,zJ,zaj,zL,zaf,zZ,zx,zaa,zat,zas,zE,zM,zah,zav,zq,zD,zp,zar,zam,zaq,znR]
 obtain ⟨z,e1,m1⟩:=zhf [97,98,122,48,49,57,107,113] (md (i:=c) (n:=8) (by decide)).1 (md (i:=c) (n:=8) (by decide)).2
 have hz:z ∈ wsg:=by
  simp only [yN,yz,or_false] at m1
  rcases m1 with rfl | rfl | rfl | rfl | rfl | rfl | rfl | rfl <;> decide
 refine ⟨z,e1,?_⟩
 obtain ⟨d,e2,m2⟩:=zhf [D.int 0,D.int 0,D.int 2,D.int 11] (md (i:=c / 8) (n:=4) (by decide)).1 (md (i:=c / 8) (n:=4) (by decide)).2
 have hd:∃ n:Int,d=.int n/\0<=n/\n<=11:=by
  simp only [yN,yz,or_false] at m2
  rcases m2 with rfl | rfl | rfl | rfl <;> exact ⟨_,rfl,by omega,by omega⟩
 obtain ⟨n,rfl,h0,h1⟩:=hd
 refine ⟨_,e2,n,rfl,by omega,by omega,?_⟩
 refine zfp (fun i Γ=>∃ (l:List Nat) (s2 s3:Slot),Γ=[.val (.int c),.val (.str l),s2,s3]/\l.length=1+i/\∀ c ∈ l,c ∈ wsg) ⟨[z],.emp,.emp,rfl,rfl,fun c hc=>by rw [YI.mp hc]; exact hz⟩ ?_ ?_
 ·rintro i d Γ hd ⟨l,s2,s3,rfl,hl,hw⟩
  rw [yJ] at hd
  have hi:i<n.toNat:=by
   cases hc:(List.range n.toNat)[i]? with
   | none=>rw [hc] at hd; cases hd
   | some k=>simpa using (yG.mp hc).1
  rw [List.getElem?_range hi] at hd; cases hd
  have hm:=md (i:=c / 7) (n:=5) (by decide)
  simp [zX,zQ,zU,zV,zr,zB,tC',zam,zaM,tB',zac,zao,zbc,zH,zau,zK,zbd,zR,zt,zab,zak,za3,zbe,zaY,zY,zaZ,zo,zag,zap,zI,zA,zv,zaX,zw,zal,zy,zan,zz,zG,zC,zF,zaw,zW,za9,zJ,zaj,zL,zaf,zZ,zx,zaa,zat,zas,zE,zM,zah,zav,zq,zD,zp,zar,zam,zaq,znR]
  refine ⟨.inr ⟨by omega,by omega⟩,?_⟩
  obtain ⟨y,e3,m3⟩:=zhf wsg (md (i:=c / 32+↑i * (1+c / 7 % 5)) (n:=36) (by decide)).1 (md (i:=c / 32+↑i * (1+c / 7 % 5)) (n:=36) (by decide)).2
  refine ⟨za4 (by decide),y,e3,za4 (by omega),by omega,fun c hc=>hc.elim (hw c) fun z=>by rw [z]; exact m3⟩
 ·rintro Γ ⟨l,s2,s3,rfl,hl,hw⟩
  simp [zX,zQ,zU,zV,zr,zB,tC',zam,zaM,tB',zac,zao,zbc,zH,zau,zK,zbd,zR,zt,zab,zak,za3,zbe,zaY,zY,zaZ,zo,zag,zap,zI,zA,zv,zaX,zw,zal,zy,zan,zz,zG,zC,zF,zaw,zW,za9,zJ,zaj,zL,zaf,zZ,zx,zaa,zat,zas,zE,zM,zah,zav,zq,zD,zp,zar,zam,zaq]; rw [yE,List.length_range] at hl; refine hq l ?_; unfold ze0
  rw [yp (show 1<=l.length/\l.length<=12 by omega),Bool.true_and,yW]
  exact fun c hc=>yp (hw c hc)
theorem zgo:FnScope ["_law_cell"] ["_law_cell"] (zm zcj):=⟨rfl,rfl,rfl,by decide +kernel,rfl,by decide +kernel,by decide +kernel⟩
theorem zgC (d:Df K mg "_law_words" zcj ["_law_cell"]) (G_law_word:Fn P w K mg base 1 "_law_word" ["_law_cell"] zbw) (z_range:mg "range"=none) (z_tuple:mg "tuple"=none):Fn P w K mg base 2 "_law_words" ["_law_cell"] zbm:=by
 refine d.ok zgo (fun ds Q h=>?_) (fun f cdv A outer s H E hr ds Q h=>⟨_,(zk (zP (zbB zgc z_tuple YF (zc (zcD (zdh (fsc:=zm zcj) (N:=["_law_cell"]) (N':=["_law_k","_law_cell"]) (src:=[none,some 0]) (by refine ⟨rfl,?_,?_,?_,rfl,rfl⟩ <;> decide +kernel) (zfj z_range (zc (zae zd5 (pv' 0) zn) zi)) (fun _ _ _ _ _ _=>(zaA 0 (show (["_law_k","_law_cell"]:List Str).Nodup by decide +kernel))) (fun _ _ _ _ _ _=>zb3) (fun _ _ _ _ _ _=>(zaC G_law_word (hr.mono (by decide)) (zc (zae zbE (zae zcF (pv' 1) (zae zbE zn (zae zkw zn (pv' 0)))) (pv' 0)) zi))))) zi)))),?_⟩)
 ·obtain ⟨c,rfl,_⟩:=h
  rfl
 obtain ⟨c,rfl,hq⟩:=h; simp [zX,zQ,zU,zV,zr,zB,tC',zam,zaM,tB',zac,zao,zbc,zH,zau,zK,zbd,zR,zt,zab,zak,za3,zbe,zaY,zY,zaZ,zo,zag,zap,zI,zA,zv,zaX,zw,zal,zy,zan,zz,zG,zC,zF,zaw,zW,za9,zJ,zaj,zL,zaf,zZ,zx,zaa,zat,zas,zE,zM,zah,zav,zq,zD,zp,zar,zam,zaq,zbw]
 have hm:=md (i:=c) (n:=5) (by decide)
 have h5:5<=sizeLine:=sz5
 refine ⟨by omega,by omega,by omega,?_⟩
 refine zcN (fun i acc Γ=>∃ (ws:Pl) (s0:Slot),acc=ws.map .str/\ws.length=i/\(∀ x ∈ ws,ze0 x=true)/\Γ=[s0,.val (.int c)]) ⟨[],.emp,rfl,rfl,fun _ z=>(nomatch z),rfl⟩ ?_ ?_
 ·rintro i d acc Γ hd ⟨ws,s0,rfl,hl,hw,rfl⟩
  rw [yJ] at hd
  have hi:i<(c % 5).toNat:=by
   cases hc:(List.range (c % 5).toNat)[i]? with
   | none=>rw [hc] at hd; cases hd
   | some k=>simpa using (yG.mp hc).1
  rw [List.getElem?_range hi] at hd; cases hd; simp [zX,zQ,zU,zV,zr,zB,tC',zam,zaM,tB',zac,zao,zbc,zH,zau,zK,zbd,zR,zt,zab,zak,za3,zbe,zaY,zY,zaZ,zo,zag,zap,zI,zA,zv,zaX,zw,zal,zy,zan,zz,zG,zC,zF,zaw,zW,za9,zJ,zaj,zL,zaf,zZ,zx,zaa,zat,zas,zE,zM,zah,zav,zq,zD,zp,zar,zam,zaq,znR,zbw]
  exact ⟨.inr ⟨by omega,by omega⟩,⟨by omega,by omega⟩,fun l hwl=>⟨ws ++ [l],by simp,by simp; omega,fun x hx=>(yn.mp hx).elim (hw x) fun z=>by rw [YI.mp z]; exact hwl⟩⟩
 ·rintro acc Γ ⟨ws,s0,rfl,hl,hw,rfl⟩
  rw [yE,List.length_range] at hl
  exact hq ws ⟨by omega,hw⟩
theorem zdG:FnScope ["_law_label_here","_law_at"] ["_law_label_here"] (zm zet):=⟨rfl,rfl,rfl,by decide +kernel,rfl,by decide +kernel,by decide +kernel⟩
theorem zjg (d:Df K mg "_law_key" zet ["_law_label_here"]) (z_int:mg "int"=none) (z_len:mg "len"=none):Fn P w K mg base 1 "_law_key" ["_law_label_here"] zdE:=by
 refine d.ok zdG (fun ds Q h=>?_) (fun f cdv A outer s H E hr ds Q h=>⟨_,(zj (zax 1 zdG.nd zn)
  (zj (zez (PW'.pt (zhw (zaI zrE (pv' 1) (zO zbJ z_len yq (zc (pv' 0) zi))) (zfQ (zaI (zqK (za7 hr)) (zaK (i_A (za7 hr)) (pv' 0) (pv' 1)) (zaB zpC)))))
   (zk (zax 1 zdG.nd (zae zbE (pv' 1) zn))))
  (zk (zP (zaF (zc (zbB znO z_int PyProof.Rows.boot_int (zc (zc5 s_A (pv' 0) zgw (zd4 (pv' 1))) zi)) (zc (zc5 s_A (pv' 0) (zd4 (pv' 1)) zgw) zi))))))),?_⟩)
 ·obtain ⟨l,rfl,_⟩:=h
  rfl
 obtain ⟨l,rfl,hl,hq⟩:=h; obtain ⟨m,n,hm,m1,m9,ml,l12,tk,dr,cd,tf,rd,kf⟩:=zeP hl; simp [zX,zQ,zU,zV,zr,zB,tC',zam,zaM,tB',zac,zao,zbc,zH,zau,zK,zbd,zR,zt,zab,zak,za3,zbe,zaY,zY,zaZ,zo,zag,zap,zI,zA,zv,zaX,zw,zal,zy,zan,zz,zG,zC,zF,zaw,zW,za9,zJ,zaj,zL,zaf,zZ,zx,zaa,zat,zas,zE,zM,zah,zav,zq,zD,zp,zar,zam,zaq]
 refine zeh (fun Γ=>∃ k:Nat,k<=m/\Γ=[.val (.str l),.val (.int k)]) (fun Γ=>match Γ with | [_,.val (.int k)]=>m-k.toNat | _=>0) ⟨0,yf _,rfl⟩ ?_
 rintro Γ ⟨k,hk,rfl⟩
 simp [zX,zQ,zU,zV,zr,zB,tC',zam,zaM,tB',zac,zao,zbc,zH,zau,zK,zbd,zR,zt,zab,zak,za3,zbe,zaY,zY,zaZ,zo,zag,zap,zI,zA,zv,zaX,zw,zal,zy,zan,zz,zG,zC,zF,zaw,zW,za9,zJ,zaj,zL,zaf,zZ,zx,zaa,zat,zas,zE,zM,zah,zav,zq,zD,zp,zar,zam,zaq]
 have hs:l.length<=sizeLine:=za4 (by omega)
 have fin:k=m->zp9 [D.str (l.take k)] fun d=>l.length<=sizeLine/\Q (.val (.tup [d,.str (l.drop k)])):=by
  rintro rfl
  rw [tk,dr]
  refine .inl ⟨cut l,n,rfl,rd,by omega,hs,?_⟩
  unfold keyD at hq; rw [kf] at hq; exact hq
 refine ⟨hs,?_⟩
 by_cases e:l.length<=k
 ·exact .inl ⟨e,hs,fin (by omega)⟩
 ·have hg:l[k]?=some (l[k]'(by omega)):=yB (by omega)
  refine .inr ⟨by omega,hs,_,zdl hg,?_⟩
  by_cases e2:k=m
  ·refine .inl ⟨?_,hs,fin e2⟩
   have:l[k]'(by omega) ∈ zdn l:=by
    rw [<- dr]; refine yV (i:=0) ?_; rw [List.getElem?_drop,Nat.add_zero,<- e2]; exact hg
   have:=tf _ this
   simpa [dig] using this
  ·refine .inr ⟨?_,⟨k+1,by omega,by simp⟩,by omega⟩
   have:l[k]'(by omega) ∈ cut l:=by
    rw [<- tk]; refine yV (i:=k) ?_
    rw [List.getElem?_take_of_lt (by omega)]
    exact hg
   have:=cd _ this
   simpa [dig] using this
end
open Classical in
theorem zdB {ns:Nd} {p:Pl} (h:p ∈ keys ns):zbX (ndD ns) (plc p)=some (plc (zbK ns p)):=by
 unfold zbK zbX ndD
 induction ns with
 | nil=>cases h
 | cons x r ih =>
  obtain ⟨a,b⟩:=x
  by_cases e:p=a
  ·subst e
   simp
  ·have h':p ∈ keys r:=by
    rcases yN.mp h with z | z
    ·exact yO z e
    ·exact z
   have ne:¬ plc a=plc p:=fun z=>e (zeC z).symm
   have ne2:(p == a)=false:=beq_eq_false_iff_ne.mpr e
   simp only [yZ,YD,ne2]; rw [yo]; simp only [ne,decide_false]; exact ih h'
theorem zlG {ns:Nd} (o:NOk ns) {n:Nat} {p:Pl} (h8:8<=p.length+n):trD (zad n ns p)=.tup [.str (zbk p),plc (zbK ns p),.tup ((za5 ns p).map fun q=>trD (zad (n-1) ns q))]:=by
 cases n with
 | zero =>
  rw [zcG o (by omega)]
  rw [zbI]; rfl
 | succ n =>
  rw [zbI]
  show D.tup [_,_,.tup (((za5 ns p).map (zad n ns)).map trD)]=_
  rw [yh]; rfl
structure NW (ns:Nd):Prop where
 ok:NOk ns
 wd:∀ x ∈ ns,WS x.2
def zbZ:Sp':=fun ds Q=>∃ cs:List Int,ds=[.lst (cs.map .int)]/\cs.length<=50/\∀ ns,NW ns->Q (.own (.dit (ndD ns)))
open Classical in
open Classical in
open Classical in
open Classical in
theorem zk7 {es:List (D × D)} {k v:D} (h:zbX es k=some v):(k,v) ∈ es:=by
 unfold zbX at h; obtain ⟨q,hq,e⟩:=Option.map_eq_some_iff.mp h; have h1:=List.mem_of_find?_eq_some hq; have h2:=List.find?_some hq; obtain ⟨a,b⟩:=q
 have h2':a=k:=by simpa using h2
 dsimp only at e
 rw [<- h2',<- e]; exact h1
def putN (ns:Nd) (q ws:Pl):Nd:=if q ∈ keys ns then ns.map (fun x=>if x.1=q then (q,ws) else x) else ns ++ [(q,ws)]
theorem ziD (ns:Nd) (q ws:Pl):keys (putN ns q ws)=if q ∈ keys ns then keys ns else keys ns ++ [q]:=by
 unfold putN; split
 ·unfold keys
  rw [yh]
  refine yu fun x _=>?_
  show (if x.1=q then (q,ws) else x).1=x.1
  split
  ·rename_i h; exact h.symm
  ·rfl
 ·simp [keys]
open Classical in
theorem zk4 (ns:Nd) (q ws:Pl):znN (ndD ns) (plc q) (plc ws)=ndD (putN ns q ws):=by
 have hs:(zbX (ndD ns) (plc q)).isSome=true↔q ∈ keys ns:=by
  constructor
  ·intro h
   obtain ⟨v,hv⟩:=Option.isSome_iff_exists.mp h; obtain ⟨y,hy,e⟩:=yU.mp (zk7 hv)
   injection e with e1 e2
   rw [<- zeC e1]; exact List.mem_map_of_mem hy
  ·intro h
   rw [zdB h]; rfl
 unfold znN putN
 by_cases e:q ∈ keys ns
 ·rw [yR (hs.mpr e),yR e]
  unfold ndD; rw [yh,yh]
  refine yu fun x _=>?_
  show (if plc x.1=plc q then (plc x.1,plc ws) else (plc x.1,plc x.2))=(plc (if x.1=q then (q,ws) else x).1,plc (if x.1=q then (q,ws) else x).2)
  by_cases z:x.1=q
  ·rw [yR (by rw [z]),yR z,z]
  ·rw [yM (fun y=>z (zeC y)),yM z]
 ·rw [yM (fun z=>e (hs.mp z)),yM e]
  simp [ndD]
theorem zqf {ns:Nd} (o:NOk ns) {q ws:Pl} (hl:ns.length<=59) (h8:q.length<=8) (hu:q.dropLast ∈ keys ns) (hlab:∀ l,l ∈ q->zS l=true):NOk (putN ns q ws):=by
 have hk:=ziD ns q ws
 have hlen:(putN ns q ws).length<=ns.length+1:=by
  unfold putN; split
  ·rw [yE]; omega
  ·simp
 by_cases e:q ∈ keys ns
 ·rw [yR e] at hk
  exact ⟨by rw [hk]; exact o.nil,by rw [hk]; exact o.nd,by rw [hk]; exact o.len,by rw [hk]; exact o.up,by rw [hk]; exact o.lab,by omega⟩
 ·rw [yM e] at hk
  refine ⟨by rw [hk]; simp [o.nil],?_,fun x hx=>?_,fun x hx=>?_,fun x hx=>?_,by omega⟩
  ·rw [hk,List.nodup_append]
   refine ⟨o.nd,by simp,fun a ha b hb=>?_⟩
   rw [show b=q by simpa using hb]
   exact fun z=>e (z ▸ ha)
  all_goals
   rw [hk] at hx
   rcases yn.mp hx with h | h
  ·exact o.len x h
  ·rw [show x=q by simpa using h]; exact h8
  ·rw [hk]; simp [o.up x h]
  ·rw [hk,show x=q by simpa using h]; simp [hu]
  ·exact o.lab x h
  ·rw [show x=q by simpa using h]; exact hlab
theorem znl {ns:Nd} (o:NW ns) {q ws:Pl} (hw:WS ws) (hl:ns.length<=59) (h8:q.length<=8) (hu:q.dropLast ∈ keys ns) (hlab:∀ l,l ∈ q->zS l=true):NW (putN ns q ws):=by
 refine ⟨zqf o.ok hl h8 hu hlab,fun x hx=>?_⟩
 unfold putN at hx; split at hx
 ·obtain ⟨y,hy,e⟩:=yU.mp hx
  rw [<- e]; split
  ·exact hw
  ·exact o.wd y hy
 ·rcases yn.mp hx with z | z
  ·exact o.wd x z
  ·rw [YI.mp z]; exact hw
theorem zfl {α β:Type} {f:α->β}:∀ {l:List α},l.Nodup->(∀ a ∈ l,∀ b ∈ l,f a=f b->a=b)->(l.map f).Nodup
 | [],_,_=>List.nodup_nil
 | x :: l,h,hi=>by
  rw [YC] at h; rw [yZ,YC]
  refine ⟨fun z=>?_,zfl h.2 fun a ha b hb=>hi a (yH _ ha) b (yH _ hb)⟩
  obtain ⟨y,hy,e⟩:=yU.mp z; rw [hi y (yH _ hy) x yT e] at hy; exact h.1 hy
theorem zlJ {α β:Type} (f:α->β) (lt:Nat->Nat->Bool) (d:α) (ps:List α):(srt lt d ps).map f=srt lt (f d) (ps.map f):=by
 unfold srt; rw [yE]; split
 ·rfl
 ·rw [yh]
  refine yu fun i _=>?_
  simp [List.getD,yJ]
def zbi:Sp':=fun ds Q=>∃ ns p,ds=[.dit (ndD ns),plc p]/\NOk ns/\p ∈ keys ns/\Q (.own (.lst (((za5 ns p).map zbk).map D.str)))
def zba:Nat->Sp'
 | 0=>fun _ _=>False
 | n+1=>fun ds Q=>∃ ns p,ds=[.dit (ndD ns),plc p]/\NOk ns/\p ∈ keys ns/\8<=p.length+n/\Q (.val (trD (zad n ns p)))
instance {n:Nat}:MSp (zba n):=⟨fun _ _ _ h q=>by
 cases n with
 | zero=>exact q
 | succ n =>
  obtain ⟨ns,p,a,b,c,d,q⟩:=q; exact ⟨ns,p,a,b,c,d,h _ q⟩⟩
def zbh:Nat->Sp'
 | 0=>fun _ _=>False
 | n+1=>fun ds Q=>∃ ns p,ds=[.dit (ndD ns),plc p]/\NW ns/\p ∈ keys ns/\8<=p.length+n/\Q (.val (.lst (((zaR (zad n ns p) p).map ze4).map D.str)))
instance {n:Nat}:MSp (zbh n):=⟨fun _ _ _ h q=>by
 cases n with
 | zero=>exact q
 | succ n =>
  obtain ⟨ns,p,a,b,c,d,q⟩:=q; exact ⟨ns,p,a,b,c,d,h _ q⟩⟩
theorem zfs {ns:Nd} (o:NW ns) (p:Pl):WS (zbK ns p):=by
 unfold zbK
 cases h:ns.lookup p with
 | none=>exact ⟨by simp,by simp⟩
 | some ws =>
  have:(p,ws) ∈ ns:=by
   clear o
   induction ns with
   | nil=>cases h
   | cons x r ih =>
    obtain ⟨a,b⟩:=x; rw [YD] at h
    by_cases e:p=a
    ·subst e
     simp at h
     subst h; exact yT
    ·rw [show (p == a)=false from beq_eq_false_iff_ne.mpr e] at h
     exact yH _ (ih h)
  exact o.wd _ this
theorem zni {ns:Nd} (o:NW ns) {p:Pl} (hp:p ∈ keys ns):RowOk (p,zbK ns p):=by
 have hw:=zfs o p
 have wf:∀ x ∈ zbK ns p,1<=x.length/\x.length<=12/\∀ c ∈ x,c ∈ wsg:=fun x hx=>by
  have:=hw.2 x hx
  unfold ze0 at this; rw [yg,ym,yW] at this
  exact ⟨this.1.1,this.1.2,fun c hc=>of_decide_eq_true (this.2 c hc)⟩
 exact ⟨o.ok.len p hp,yW.mpr (o.ok.lab p hp),hw.1,fun x hx=>(wf x hx).2.1,fun x hx=>⟨fun z=>yO ((wf x hx).2.2 _ z) (by decide),fun z=>yO ((wf x hx).2.2 _ z) (by decide)⟩⟩
theorem zjp {ns:Nd} (o:NOk ns) (p:Pl):(za5 ns p).length<=60:=by
 have h1:=List.length_filter_le (fun q:Pl=>decide (q.length=p.length+1) && decide (q.dropLast=p)) (keys ns)
 have h2:(keys ns).length<=60:=by unfold keys; rw [yE]; exact o.many
 have h3:(za5 ns p).length=(zcd ns p).length:=zjQ (zhA _) _ _
 unfold zcd at h3; omega
section
variable {P:Program} {w:World} {K:W.Frag} {mg:Str->Option Value} {base:Heap}
theorem zaS:FnScope ["_law_cells","_law_nodes_here","_law_made","_law_cell","_law_parent","_law_place"] ["_law_cells"] (zm zdb):=⟨rfl,rfl,rfl,by decide +kernel,rfl,by decide +kernel,by decide +kernel⟩
theorem zgD (d:Df K mg "_law_nodes" zdb ["_law_cells"]) (G_law_label:Fn P w K mg base 1 "_law_label" ["_law_cell"] zbn) (G_law_words:Fn P w K mg base 2 "_law_words" ["_law_cell"] zbm) (z_len:mg "len"=none):Fn P w K mg base 3 "_law_nodes" ["_law_cells"] zbZ:=by
 refine d.ok zaS (fun ds Q h=>?_) (fun f cdv A outer s H E hr ds Q h=>⟨_,(zj (zcY 1 zaS.nd (zme (za7 hr) (zaF zi) (zaF zi)))
  (zj (zcY 2 zaS.nd (zeB (zc (zaF zi) zi)))
  (zj (zcm (zbG (pv' 0)) (zaA 3 zaS.nd)
   (zj (zax 4 zaS.nd (zoA (zaK (i_A (za7 hr)) (pv' 2) (zae zd5 (zae zcF (pv' 3) zn) (zO zbJ z_len yq (zc (pv' 2) zi))))))
  (zj (za1 (zaI (zdt (zcp hr)) (zO zbJ z_len yq (zc (pv' 4) zi)) zn) (zk (zax 4 zaS.nd (zaF zi))) zay)
  (zj (zax 5 zaS.nd (zae zbE (pv' 4) (zaF (zc (zaC G_law_label (hr.mono (by decide)) (zc (zae zcF (pv' 3) zn) zi)) zi))))
  (zj (za1 (zaI (zdt (zcp hr)) (zae zd5 (pv' 3) zn) zn) (zk (zax 5 zaS.nd (pv' 4))) zay)
  (zj (za1 (zhx (zaI (zmx (za7 hr)) (pv' 5) (pv' 1))) (zk (zcZ 2 (pv' 5))) zay)
  (zk (zmb (za7 hr) 1 (pv' 5) (zaC G_law_words (hr.mono (by decide)) (zc (zae zcF (pv' 3) zn) zi))))))))))
  (zk (zir 1))))),?_⟩)
 ·obtain ⟨cs,rfl,_⟩:=h
  rfl
 obtain ⟨cs,rfl,hl,hq⟩:=h; simp [zX,zQ,zU,zV,zr,zB,tC',zam,zaM,tB',zac,zao,zbc,zH,zau,zK,zbd,zR,zt,zab,zak,za3,zbe,zaY,zY,zaZ,zo,zag,zap,zI,zA,zv,zaX,zw,zal,zy,zan,zz,zG,zC,zF,zaw,zW,za9,zJ,zaj,zL,zaf,zZ,zx,zaa,zat,zas,zE,zM,zah,zav,zq,zD,zp,zar,zam,zaq,zbn,zbm]; refine ⟨Imm.plc _,⟨[],rfl⟩,?_⟩
 refine zfp (fun i Γ=>∃ (ns:Nd) (mp:List Pl) (s3 s4 s5:Slot),Γ=[.val (.lst (cs.map .int)),.own (.dit (ndD ns)),.own (.lst (mp.map plc)),s3,s4,s5]/\NW ns/\ns.length<=1+i/\mp≠[]/\mp.length<=1+i/\∀ p ∈ mp,p ∈ keys ns)
  ⟨[([],[])],[[]],_,_,_,rfl,⟨⟨by simp [keys],by simp [keys],by simp [keys],by simp [keys],by simp [keys],by simp⟩,fun x hx=>by rw [YI.mp hx]; exact ⟨by decide,by simp⟩⟩,by simp,by simp,by simp,by simp [keys]⟩ ?_ ?_
 ·rintro i d Γ hd ⟨ns,mp,s3,s4,s5,rfl,o,hle,hmp,hml,hma⟩
  have hi:i<cs.length:=by simpa using (yG.mp hd).1
  rw [yJ,yB hi] at hd; cases hd
  have hpos:0<mp.length:=List.length_pos_iff.mpr hmp
  have hp0:=md (i:=cs[i] / 3) (n:=mp.length) hpos
  obtain ⟨d,e1,m1⟩:=zhf (mp.map plc) hp0.1 (by rw [yE]; exact hp0.2)
  obtain ⟨p,mq,rfl⟩:=yU.mp m1; have hpk:=hma p mq; have hp8:=o.ok.len p hpk; simp [zX,zQ,zU,zV,zr,zB,tC',zam,zaM,tB',zac,zao,zbc,zH,zau,zK,zbd,zR,zt,zab,zak,za3,zbe,zaY,zY,zaZ,zo,zag,zap,zI,zA,zv,zaX,zw,zal,zy,zan,zz,zG,zC,zF,zaw,zW,za9,zJ,zaj,zL,zaf,zZ,zx,zaa,zat,zas,zE,zM,zah,zav,zq,zD,zp,zar,zam,zaq,znR,zbn,zbm]; refine ⟨hpos,plc p,e1,Imm.plc p,?_⟩
  have hnl:(ndD ns).length=ns.length:=by unfold ndD; rw [yE]
  have hsE:(ndD ns).length<sizeLine:=zaW (by omega)
  have hsM:mp.length<sizeLine:=zaW (by omega)
  have fl:∀ q ws:Pl,(putN ns q ws).length<=1+(i+1):=fun q ws=>by
   have:(putN ns q ws).length<=ns.length+1:=by
    unfold putN; split
    ·rw [yE]; omega
    ·simp
   omega
  have fk:∀ (q ws r:Pl),r ∈ keys ns\/r=q->r ∈ keys (putN ns q ws):=fun q ws r h=>by
   rw [ziD]
   rcases h with z | z
   ·split
    ·exact z
    ·simp [z]
   ·split
    ·rename_i y; rw [z]; exact y
    ·simp [z]
  have finA:∀ q ws:Pl,WS ws->q.length<=8->q.dropLast ∈ keys ns->(∀ l,l ∈ q->zS l=true)->∃ (ns':Nd) (mp2:List Pl),(znN (ndD ns) (plc q) (plc ws)=ndD ns'/\List.map plc mp=List.map plc mp2)/\NW ns'/\ns'.length<=1+(i+1)/\¬ mp2=[]/\mp2.length<=1+(i+1)/\∀ r:Pl,r ∈ mp2->r ∈ keys ns':=fun q ws hw4 h1 h2 h3 =>
   ⟨putN ns q ws,mp,⟨zk4 _ _ _,rfl⟩,znl o hw4 (by omega) h1 h2 h3,fl q ws,hmp,by omega,fun r hr=>fk q ws r (.inl (hma r hr))⟩
  have finB:∀ q ws:Pl,WS ws->q.length<=8->q.dropLast ∈ keys ns->(∀ l,l ∈ q->zS l=true)->∃ (ns':Nd) (mp2:List Pl),(znN (ndD ns) (plc q) (plc ws)=ndD ns'/\List.map plc mp ++ [plc q]=List.map plc mp2)/\NW ns'/\ns'.length<=1+(i+1)/\¬ mp2=[]/\mp2.length<=1+(i+1)/\∀ r:Pl,r ∈ mp2->r ∈ keys ns':=fun q ws hw4 h1 h2 h3 =>
   ⟨putN ns q ws,mp ++ [q],⟨zk4 _ _ _,by simp⟩,znl o hw4 (by omega) h1 h2 h3,fl q ws,by simp,by simp; omega,fun r hr=>fk q ws r (by
    rcases yn.mp hr with z | z
    ·exact .inl (hma r z)
    ·exact .inr (by simpa using z))⟩
  have hpu:=o.ok.up p hpk; have hpl:=o.ok.lab p hpk; simp
  by_cases h8:p.length=8
  ·refine .inr ⟨by omega,?_⟩
   have nil8:([]:Pl).length<8:=by decide
   have nilu:([]:Pl).dropLast ∈ keys ns:=o.ok.nil
   have nill:∀ l,l ∈ ([]:Pl)->zS l=true:=fun _ z=>(nomatch z)
   have niln:=o.ok.nil; intro l hlab
   by_cases h7:cs[i] % 7=6
   ·refine .inr ⟨h7,zcl _ _ ?_⟩
    cases (zbX (ndD ns) (plc ([]:Pl))).isSome <;> simp
    ·exact ⟨hsM,fun ws hws=>⟨⟨zaN ([]:Pl),zbu ([]:Pl)⟩,hsE,finB ([]:Pl) ws hws (YZ nil8) nilu nill⟩⟩
    ·exact fun ws hws=>⟨⟨zaN ([]:Pl),zbu ([]:Pl)⟩,hsE,finA ([]:Pl) ws hws (YZ nil8) nilu nill⟩
   ·have h1:(([l]:Pl):Pl).length<=8:=by simp
    have h2:(([l]:Pl):Pl).dropLast ∈ keys ns:=niln
    have h3:∀ x,x ∈ (([l]:Pl):Pl)->zS x=true:=fun x hx=>by rw [YI.mp hx]; exact hlab
    refine .inl ⟨h7,zcl _ _ ?_⟩
    cases (zbX (ndD ns) (plc ([l]:Pl))).isSome <;> simp
    ·exact ⟨hsM,fun ws hws=>⟨⟨zaN ([l]:Pl),zbu ([l]:Pl)⟩,hsE,finB ([l]:Pl) ws hws h1 h2 h3⟩⟩
    ·exact fun ws hws=>⟨⟨zaN ([l]:Pl),zbu ([l]:Pl)⟩,hsE,finA ([l]:Pl) ws hws h1 h2 h3⟩
  ·refine .inl ⟨by omega,?_⟩
   have p8:p.length<8:=by omega
   intro l hlab
   refine ⟨za4 (by omega),?_⟩
   by_cases h7:cs[i] % 7=6
   ·refine .inr ⟨h7,zcl _ _ ?_⟩
    cases (zbX (ndD ns) (plc p)).isSome <;> simp
    ·exact ⟨hsM,fun ws hws=>⟨⟨zaN p,zbu p⟩,hsE,finB p ws hws (YZ p8) hpu hpl⟩⟩
    ·exact fun ws hws=>⟨⟨zaN p,zbu p⟩,hsE,finA p ws hws (YZ p8) hpu hpl⟩
   ·have h1:((p ++ [l]):Pl).length<=8:=by simp; omega
    have h2:((p ++ [l]):Pl).dropLast ∈ keys ns:=by rw [List.dropLast_concat]; exact hpk
    have h3:∀ x,x ∈ ((p ++ [l]):Pl)->zS x=true:=fun x hx=>(yn.mp hx).elim (hpl x) fun z=>by rw [show x=l by simpa using z]; exact hlab
    refine .inl ⟨h7,zcl _ _ ?_⟩
    cases (zbX (ndD ns) (plc (p ++ [l]))).isSome <;> simp
    ·exact ⟨hsM,fun ws hws=>⟨⟨zaN (p ++ [l]),zbu (p ++ [l])⟩,hsE,finB (p ++ [l]) ws hws h1 h2 h3⟩⟩
    ·exact fun ws hws=>⟨⟨zaN (p ++ [l]),zbu (p ++ [l])⟩,hsE,finA (p ++ [l]) ws hws h1 h2 h3⟩
 ·rintro Γ ⟨ns,mp,s3,s4,s5,rfl,o,hle,hmp,hml,hma⟩
  simp [zX,zQ,zU,zV,zr,zB,tC',zam,zaM,tB',zac,zao,zbc,zH,zau,zK,zbd,zR,zt,zab,zak,za3,zbe,zaY,zY,zaZ,zo,zag,zap,zI,zA,zv,zaX,zw,zal,zy,zan,zz,zG,zC,zF,zaw,zW,za9,zJ,zaj,zL,zaf,zZ,zx,zaa,zat,zas,zE,zM,zah,zav,zq,zD,zp,zar,zam,zaq]; exact hq ns o
theorem zen:FnScope ["_law_nodes_here","_law_place","_law_found"] ["_law_nodes_here","_law_place"] (zm zcU):=⟨rfl,rfl,rfl,by decide +kernel,rfl,by decide +kernel,by decide +kernel⟩
theorem zhH (d:Df K mg "_law_kids" zcU ["_law_nodes_here","_law_place"]) (G_law_key:Fn P w K mg base 1 "_law_key" ["_law_label_here"] zdE) (z_len:mg "len"=none) (z_sorted:mg "sorted"=none):Fn P w K mg base 4 "_law_kids" ["_law_nodes_here","_law_place"] zbi:=by
 refine d.ok zen (fun ds Q h=>?_) (fun f cdv A outer s H E hr ds Q h=>⟨_,(zj (ziq 2 zen.nd (zio (fsc:=zm zcU) (N:=["_law_nodes_here","_law_place","_law_found"]) (N':=["_law_other","_law_place"]) (src:=[none,some 1]) (by refine ⟨rfl,?_,?_,?_,rfl,rfl⟩ <;> decide +kernel) (zmh (pv' 0)) (fun _ _ _ _ _ _=>(zaA 0 (show (["_law_other","_law_place"]:List Str).Nodup by decide +kernel))) (fun _ _ _ _ _ _=>(zl8 (PW'.pt (zhw (zaI (zdt (zcp hr)) (zO zbJ z_len yq (zc (pv' 0) zi)) (zae zbE (zO zbJ z_len yq (zc (pv' 1) zi)) zn)) (zfQ (zaI (zdt (zcp hr)) (zc5 s_A (pv' 0) zgw (zd4 zeD)) (pv' 1))))))) (fun _ _ _ _ _ _=>(zaK (i_A (za7 hr)) (pv' 0) zeD))))
  (zk (zis (zmd G_law_key (hr.mono (by decide)) z_sorted (zc (pv' 2) zi))))),?_⟩)
 ·obtain ⟨ns,p,rfl,_⟩:=h
  rfl
 obtain ⟨ns,p,rfl,o,hp,hq⟩:=h; simp [zX,zQ,zU,zV,zr,zB,tC',zam,zaM,tB',zac,zao,zbc,zH,zau,zK,zbd,zR,zt,zab,zak,za3,zbe,zaY,zY,zaZ,zo,zag,zap,zI,zA,zv,zaX,zw,zal,zy,zan,zz,zG,zC,zF,zaw,zW,za9,zJ,zaj,zL,zaf,zZ,zx,zaa,zat,zas,zE,zM,zah,zav,zq,zD,zp,zar,zam,zaq]
 have hnl:(ndD ns).length<=60:=by unfold ndD; rw [yE]; exact o.many
 have hkeys:List.map (fun x=>x.fst) (ndD ns)=(keys ns).map plc:=by unfold ndD keys; rw [yh,yh]; rfl
 refine ⟨za4 (by omega),?_⟩
 rw [hkeys]
 refine zcN (fun i acc Γ=>∃ s0,acc=((((keys ns).take i).filter fun q=>decide (q.length=p.length+1) && decide (q.dropLast=p)).map fun q=>D.str (zbk q))/\Γ=[s0,.val (plc p)]) ⟨.emp,rfl,rfl⟩ ?_ ?_
 ·rintro i d acc Γ hd ⟨s0,rfl,rfl⟩
  rw [yJ] at hd
  cases hc:(keys ns)[i]? with
  | none=>rw [hc] at hd; cases hd
  | some q =>
   rw [hc] at hd; cases hd; have hq8:=o.len q (yV hc); have hp8:=o.len p hp; rw [YH,hc]; simp [zX,zQ,zU,zV,zr,zB,tC',zam,zaM,tB',zac,zao,zbc,zH,zau,zK,zbd,zR,zt,zab,zak,za3,zbe,zaY,zY,zaZ,zo,zag,zap,zI,zA,zv,zaX,zw,zal,zy,zan,zz,zG,zC,zF,zaw,zW,za9,zJ,zaj,zL,zaf,zZ,zx,zaa,zat,zas,zE,zM,zah,zav,zq,zD,zp,zar,zam,zaq,List.filter_append,zg1]
   by_cases h1:q.length=p.length+1
   ·refine .inr ⟨by omega,?_⟩
    have hq0:q≠[]:=fun z=>by rw [z] at h1; simp at h1
    by_cases h2:q.dropLast=p
    ·exact .inr ⟨h2,_,zgd hq0,by simp [h1,h2]⟩
    ·exact .inl ⟨h2,fun _=>h2⟩
   ·exact .inl ⟨by omega,fun z=>yO z h1⟩
 ·rintro acc Γ ⟨s0,rfl,rfl⟩
  rw [show List.take (List.map plc (keys ns)).length (keys ns)=keys ns from yd (by rw [yE]; exact yF _)]
  rw [show List.filter (fun q:Pl=>decide (q.length=p.length+1) && decide (q.dropLast=p)) (keys ns)=zcd ns p from rfl]
  have hkl:(zcd ns p).length<=60:=by
   have h1:=List.length_filter_le (fun q:Pl=>decide (q.length=p.length+1) && decide (q.dropLast=p)) (keys ns)
   have h2:(keys ns).length<=60:=by unfold keys; rw [yE]; exact o.many
   unfold zcd; omega
  refine ⟨by rw [yE]; omega,(zcd ns p).map (fun q=>keyD (zbk q)),by simp,fun i x k h1 h2=>?_,ltP ((zcd ns p).map zsF),.inr ⟨(zcd ns p).map zsF,by rw [yh]; rfl,rfl⟩,?_⟩
  ·rw [yJ] at h1 h2
   cases hc:(zcd ns p)[i]? with
   | none=>rw [hc] at h1; cases h1
   | some q =>
    rw [hc] at h1 h2; cases h1; cases h2; obtain ⟨m1,m2⟩:=zeK.mp (yV hc)
    exact ⟨zbk q,rfl,o.lab q m1 _ (by rw [m2,zdV]; simp),rfl⟩
  ·rw [zn3 (fun q=>D.str (zbk q)) [] (zcd ns p) (zhA _)]
   rw [yh] at hq; exact hq
theorem zbS:FnScope ["_law_nodes_here","_law_place","_law_label_here","_law_kids_here"] ["_law_nodes_here","_law_place"] (zm zcT):=⟨rfl,rfl,rfl,by decide +kernel,rfl,by decide +kernel,by decide +kernel⟩
theorem zhE (d:Df K mg "_law_tree" zcT ["_law_nodes_here","_law_place"]) (G_law_kids:Fn P w K mg base 4 "_law_kids" ["_law_nodes_here","_law_place"] zbi) (z_tuple:mg "tuple"=none):∀ n:Nat,Fn P w K mg base (n+5) "_law_tree" ["_law_nodes_here","_law_place"] (zba n):=by
 intro n
 induction n with
 | zero=>exact d.ok (k:=4) zbS (fun ds Q h=>(show False from h).elim) (fun f cdv A outer s H E hr ds Q h=>(show False from h).elim)
 | succ n ih =>
 have G_law_tree:Fn P w K mg base (n+5) "_law_tree" ["_law_nodes_here","_law_place"] (zba n):=ih
 refine d.ok (k:=n+5) zbS (fun ds Q h=>?_) (fun f cdv A outer s H E hr ds Q h=>⟨_,(zj (zax 2 zbS.nd (zaB []))
  (zj (za1 (zaI (zkv (zcp hr)) (pv' 1) (zaF zi)) (zk (zax 2 zbS.nd (zaK (i_A (za7 hr)) (pv' 1) zeD))) zay)
  (zj (ziq 3 zbS.nd (zio (fsc:=zm zcT) (N:=["_law_nodes_here","_law_place","_law_label_here","_law_kids_here"]) (N':=["_law_kid","_law_nodes_here","_law_place"]) (src:=[none,some 0,some 1]) (by refine ⟨rfl,?_,?_,?_,rfl,rfl⟩ <;> decide +kernel) (zbG (zaC G_law_kids (hr.mono (by omega)) (zc (pv' 0) (zc (pv' 1) zi)))) (fun _ _ _ _ _ _=>(zaA 0 (show (["_law_kid","_law_nodes_here","_law_place"]:List Str).Nodup by decide +kernel))) (fun _ _ _ _ _ _=>zb3) (fun _ _ _ _ _ _=>(zaC G_law_tree (hr.mono (by omega)) (zc (pv' 1) (zc (zae zbE (pv' 2) (zaF (zc (pv' 0) zi))) zi))))))
  (zk (zP (zaF (zc (pv' 2) (zc (zaK (i_A (za7 hr)) (pv' 0) (pv' 1)) (zc (zbB zgc z_tuple YF (zc (pv' 3) zi)) zi))))))))),?_⟩)
 ·obtain ⟨ns,p,rfl,_⟩:=h
  rfl
 obtain ⟨ns,p,rfl,o,hp,h8,hq⟩:=h; simp [zX,zQ,zU,zV,zr,zB,tC',zam,zaM,tB',zac,zao,zbc,zH,zau,zK,zbd,zR,zt,zab,zak,za3,zbe,zaY,zY,zaZ,zo,zag,zap,zI,zA,zv,zaX,zw,zal,zy,zan,zz,zG,zC,zF,zaw,zW,za9,zJ,zaj,zL,zaf,zZ,zx,zaa,zat,zas,zE,zM,zah,zav,zq,zD,zp,zar,zam,zaq,zbi]
 have hkl:(za5 ns p).length<=60:=zjp o p
 have hkc:∀ R:List D->Prop,R ((za5 ns p).map fun q=>trD (zad (n-1) ns q))->zd7 (zr 0) zaX (zv (zba n) (zt (zB 1) (zt (zaM zdR (zB 2) (zab (zt (zB 0) zR))) zR))) R (List.map (D.str ∘ zbk) (za5 ns p)) [] [Slot.emp,Slot.val (D.dit (ndD ns)),Slot.val (plc p)]:=by
  intro R hR
  refine zcN (fun i acc Γ=>∃ s0,acc=(((za5 ns p).take i).map fun q=>trD (zad (n-1) ns q))/\Γ=[s0,.val (D.dit (ndD ns)),.val (plc p)]) ⟨.emp,rfl,rfl⟩ ?_ ?_
  ·rintro i d acc Γ hd ⟨s0,rfl,rfl⟩
   rw [yJ] at hd
   cases hc:(za5 ns p)[i]? with
   | none=>rw [hc] at hd; cases hd
   | some q =>
    rw [hc] at hd; cases hd; have hm:=yV hc; have hql:=zdk hm; have hqe:=(za2.mp hm).2; have hp8:=o.len p hp
    cases n with
    | zero =>
     rw [zcG o (by omega)] at hm
     cases hm
    | succ n =>
     simp [zX,zQ,zU,zV,zr,zB,tC',zam,zaM,tB',zac,zao,zbc,zH,zau,zK,zbd,zR,zt,zab,zak,za3,zbe,zaY,zY,zaZ,zo,zag,zap,zI,zA,zv,zaX,zw,zal,zy,zan,zz,zG,zC,zF,zaw,zW,za9,zJ,zaj,zL,zaf,zZ,zx,zaa,zat,zas,zE,zM,zah,zav,zq,zD,zp,zar,zam,zaq,zba]
     refine ⟨za4 (by omega),ns,q,⟨rfl,hqe.symm⟩,o,(za2.mp hm).1,by omega,?_⟩
     rw [YH,yJ,hc]; rfl
  ·rintro acc Γ ⟨s0,rfl,rfl⟩
   rw [show List.take (List.map (D.str ∘ zbk) (za5 ns p)).length (za5 ns p)=za5 ns p from yd (by rw [yE]; exact yF _)]
   exact hR
 rw [zlG o h8] at hq
 by_cases hp0:p=[]
 ·refine .inl ⟨hp0,ns,p,⟨rfl,rfl⟩,o,hp,za4 (by omega),hkc _ (zea p (ndD ns) (zdB hp) ?_)⟩
  subst hp0; exact hq
 ·exact .inr ⟨hp0,_,zgd hp0,ns,p,⟨rfl,rfl⟩,o,hp,za4 (by omega),hkc _ (zea p (ndD ns) (zdB hp) hq)⟩
theorem zaU:FnScope ["_law_nodes_here","_law_place","_law_text","_law_word_here","_law_rows_here","_law_kid"] ["_law_nodes_here","_law_place"] (zm zdM):=⟨rfl,rfl,rfl,by decide +kernel,rfl,by decide +kernel,by decide +kernel⟩
theorem zhG (d:Df K mg "_law_rows" zdM ["_law_nodes_here","_law_place"]) (G_law_kids:Fn P w K mg base 4 "_law_kids" ["_law_nodes_here","_law_place"] zbi):∀ n:Nat,Fn P w K mg base (n+5) "_law_rows" ["_law_nodes_here","_law_place"] (zbh n):=by
 intro n
 induction n with
 | zero=>exact d.ok (k:=4) zaU (fun ds Q h=>(show False from h).elim) (fun f cdv A outer s H E hr ds Q h=>(show False from h).elim)
 | succ n ih =>
 have G_law_rows:Fn P w K mg base (n+5) "_law_rows" ["_law_nodes_here","_law_place"] (zbh n):=ih
 refine d.ok (k:=n+5) zaU (fun ds Q h=>?_) (fun f cdv A outer s H E hr ds Q h=>⟨_,(zj (zax 2 zaU.nd (zdr zgJ YB Yl Yk (zaB [46]) (zc (pv' 1) zi)))
  (zj (za1 (zaI (zdt (zcp hr)) (pv' 1) (zaF zi)) (zk (zax 2 zaU.nd (zaB [46]))) zay)
  (zj (zcm (zbG (zaK (i_A (za7 hr)) (pv' 0) (pv' 1))) (zaA 3 zaU.nd)
   (zk (zax 2 zaU.nd (zae zbE (zae zbE (pv' 2) (zaB [32])) (pv' 3)))))
  (zj (zax 4 zaU.nd (zcD (zeB (zc (pv' 2) zi))))
  (zj (zcm (zbG (zaC G_law_kids (hr.mono (by omega)) (zc (pv' 0) (zc (pv' 1) zi)))) (zaA 5 zaU.nd)
   (zk (zax 4 zaU.nd (zcD (znn zns (pv' 4) (zaC G_law_rows (hr.mono (by omega)) (zc (pv' 0) (zc (zae zbE (pv' 1) (zaF (zc (pv' 5) zi))) zi))))))))
  (zk (zP (pv' 4)))))))),?_⟩)
 ·obtain ⟨ns,p,rfl,_⟩:=h
  rfl
 obtain ⟨ns,p,rfl,o,hp,h8,hq⟩:=h; simp [zX,zQ,zU,zV,zr,zB,tC',zam,zaM,tB',zac,zao,zbc,zH,zau,zK,zbd,zR,zt,zab,zak,za3,zbe,zaY,zY,zaZ,zo,zag,zap,zI,zA,zv,zaX,zw,zal,zy,zan,zz,zG,zC,zF,zaw,zW,za9,zJ,zaj,zL,zaf,zZ,zx,zaa,zat,zas,zE,zM,zah,zav,zq,zD,zp,zar,zam,zaq]; have hws:=zfs o p; have hp8:=o.ok.len p hp
 have hpl:p.all zS=true:=yW.mpr (o.ok.lab p hp)
 have rok:RowOk (p,zbK ns p):=zni o hp
 have htot:(zaR (zad n ns p) p).length<=60:=by
  rw [zfL,zfS]; exact zh5 o.ok n hp
 have hrt:=zgs o.ok h8
 have key:zd2 (zr 3) (zV (zaM zdR (zaM zdR (zB 2) (tC' (D.str [32]))) (zB 3)) (zr 2)) { nx:=zX (zV (zam (zak (zt (zB 2) zR))) (zr 4)) (zX (zag (zap (zv zbi (zt (zB 0) (zt (zB 1) zR)))) (zr 5) (zV (zam (zaf zl6 (zB 4) (zv (zbh n) (zt (zB 0) (zt (zaM zdR (zB 1) (zab (zt (zB 5) zR))) zR))))) (zr 4))) (zQ (zB 4))) { nx:=fun _=>Q (.val .non),rt:=fun r _=>Q r },rt:=fun r _=>Q r } ((zbK ns p).map D.str) [.val (.dit (ndD ns)),.val (plc p),.val (.str (textOf p)),.emp,.emp,.emp]:=by
  refine zfp (fun i Γ=>∃ s3,Γ=[.val (.dit (ndD ns)),.val (plc p),.val (.str (za6 32 (textOf p :: (zbK ns p).take i))),s3,.emp,.emp]) ⟨.emp,rfl⟩ ?_ ?_
  ·rintro i d Γ hd ⟨s3,rfl⟩
   rw [yJ] at hd
   cases hc:(zbK ns p)[i]? with
   | none=>rw [hc] at hd; cases hd
   | some wd =>
    rw [hc] at hd; cases hd
    have hjl:(za6 32 (textOf p :: (zbK ns p).take i)).length<=200:=zhn (r:=(p,(zbK ns p).take i)) ⟨rok.len,rok.lab,by show ((zbK ns p).take i).length<=4; rw [Yd]; have:=hws.1; omega,fun x hx=>rok.wlen x (List.mem_of_mem_take hx),fun x hx=>rok.wno x (List.mem_of_mem_take hx)⟩
    have hwl:=rok.wlen wd (yV hc); rw [YH,hc]; have e:=zgP 32 ((zbK ns p).take i) (textOf p) wd; simp [zX,zQ,zU,zV,zr,zB,tC',zam,zaM,tB',zac,zao,zbc,zH,zau,zK,zbd,zR,zt,zab,zak,za3,zbe,zaY,zY,zaZ,zo,zag,zap,zI,zA,zv,zaX,zw,zal,zy,zan,zz,zG,zC,zF,zaw,zW,za9,zJ,zaj,zL,zaf,zZ,zx,zaa,zat,zas,zE,zM,zah,zav,zq,zD,zp,zar,zam,zaq]
    refine ⟨za4 (by omega),za4 (by omega),?_⟩
    rw [<- List.cons_append,e]
  ·rintro Γ ⟨s3,rfl⟩
   rw [show List.take (List.map D.str (zbK ns p)).length (zbK ns p)=zbK ns p from yd (by rw [yE]; exact yF _)]
   simp [zX,zQ,zU,zV,zr,zB,tC',zam,zaM,tB',zac,zao,zbc,zH,zau,zK,zbd,zR,zt,zab,zak,za3,zbe,zaY,zY,zaZ,zo,zag,zap,zI,zA,zv,zaX,zw,zal,zy,zan,zz,zG,zC,zF,zaw,zW,za9,zJ,zaj,zL,zaf,zZ,zx,zaa,zat,zas,zE,zM,zah,zav,zq,zD,zp,zar,zam,zaq,zbi]; refine ⟨ns,p,⟨rfl,rfl⟩,o.ok,hp,?_⟩
   refine zfp (fun i Γ=>∃ s5,Γ=[.val (.dit (ndD ns)),.val (plc p),.val (.str (za6 32 (textOf p :: zbK ns p))),s3,.val (.lst (((ze4 (p,zbK ns p)) :: (((za5 ns p).take i).flatMap fun q=>zaR (zad (n-1) ns q) q).map ze4).map D.str)),s5]) ⟨.emp,rfl⟩ ?_ ?_
   ·rintro i d Γ hd ⟨s5,rfl⟩
    rw [yJ] at hd
    cases hc:(za5 ns p)[i]? with
    | none=>rw [hc] at hd; cases hd
    | some q =>
     rw [hc] at hd; cases hd; have hm:=yV hc; have hql:=zdk hm; have hqe:=(za2.mp hm).2
     cases n with
     | zero =>
      rw [zcG o.ok (by omega)] at hm
      cases hm
     | succ n =>
      have ht1:=zkT (fun q=>zaR (zad n ns q) q) (za5 ns p) (i+1)
      have e1:(((za5 ns p).take (i+1)).flatMap fun q=>zaR (zad n ns q) q)=(((za5 ns p).take i).flatMap fun q=>zaR (zad n ns q) q) ++ zaR (zad n ns q) q:=by
       rw [YH,hc,List.flatMap_append]; simp
      rw [hrt,YA] at htot; simp only [Nat.add_sub_cancel] at htot; rw [e1,yP] at ht1; simp [zX,zQ,zU,zV,zr,zB,tC',zam,zaM,tB',zac,zao,zbc,zH,zau,zK,zbd,zR,zt,zab,zak,za3,zbe,zaY,zY,zaZ,zo,zag,zap,zI,zA,zv,zaX,zw,zal,zy,zan,zz,zG,zC,zF,zaw,zW,za9,zJ,zaj,zL,zaf,zZ,zx,zaa,zat,zas,zE,zM,zah,zav,zq,zD,zp,zar,zam,zaq,zbh]
      refine ⟨za4 (by omega),ns,q,⟨rfl,hqe.symm⟩,o,(za2.mp hm).1,by omega,?_⟩
      refine ⟨_,_,rfl,rfl,za4 (by simp only [YA,yE]; omega),?_⟩
      rw [e1]; simp [OD.toD]
   ·rintro Γ ⟨s5,rfl⟩
    rw [show List.take (List.map (D.str ∘ zbk) (za5 ns p)).length (za5 ns p)=za5 ns p from yd (by rw [yE]; exact yF _)]
    simp [zX,zQ,zU,zV,zr,zB,tC',zam,zaM,tB',zac,zao,zbc,zH,zau,zK,zbd,zR,zt,zab,zak,za3,zbe,zaY,zY,zaZ,zo,zag,zap,zI,zA,zv,zaX,zw,zal,zy,zan,zz,zG,zC,zF,zaw,zW,za9,zJ,zaj,zL,zaf,zZ,zx,zaa,zat,zas,zE,zM,zah,zav,zq,zD,zp,zar,zam,zaq]; rw [hrt] at hq
    simpa using hq
 refine ⟨46,p,rfl,.inr rfl,?_,?_⟩
 ·have h2:=M11.sum_le (B:=12) (L:=p) fun a ha=>(M11.prog_facts (o.ok.lab p hp a ha)).2.1
  omega
 ·by_cases hp0:p=[]
  ·refine .inr ⟨hp0,zea p (ndD ns) (zdB hp) ⟨_,rfl,?_⟩⟩
   have e:textOf p=[46]:=yR hp0
   rw [e] at key; exact key
  ·refine .inl ⟨hp0,zea p (ndD ns) (zdB hp) ⟨_,rfl,?_⟩⟩
   have e:textOf p=za6 46 p:=yM hp0
   rw [e] at key; exact key
end
inductive PlT:Nat->D->Prop
 | str (n:Nat) (l:List Nat):PlT n (.str l)
 | tup {n:Nat} {ds:List D} (h:∀ d ∈ ds,PlT n d):PlT (n+1) (.tup ds)
theorem PlT.plc (n:Nat) (p:Pl):PlT (n+1) (plc p):=.tup fun d hd=>by
 obtain ⟨l,_,rfl⟩:=yU.mp hd; exact .str n l
theorem PlT.up {n:Nat} {d:D} (h:PlT n d):∀ {m:Nat},n<=m->PlT m d:=by
 induction h with
 | str n l=>exact fun _=>.str _ l
 | tup h ih =>
  intro m hm
  obtain ⟨k,rfl⟩:∃ k,m=k+1:=⟨m-1,by omega⟩
  exact .tup fun d hd=>ih d hd (by omega)
def zbg:Nat->Sp'
 | 0=>fun _ _=>False
 | n+1=>fun ds Q=>∃ d,ds=[d,d]/\PlT n d/\Q (.val (.bl true))
def zc9:Sp':=fun ds Q=>∃ ns:List Int,ds=[.lst (ns.map .int)]/\ns.length<=63/\∀ (ms:List Int) (r:Res),r.toD=.lst (ms.map .int)->Q r
def zrg (t:Tr):Prop:=t.lab.length<=12/\WS t.wds/\t.kds.length<=60/\∀ k ∈ t.kds,Sn (trD k)
def Fit:Nat->Tr->Prop
 | 0,_=>False
 | n+1,t=>t.lab.length<=12/\WS t.wds/\t.kds.length<=60/\Ris (t.kds.map Tr.lab)/\∀ k ∈ t.kds,zS k.lab=true/\Fit n k
theorem zsE {l:List Nat} (h:zS l=true):l.length<=12:=by
 obtain ⟨m,n,hm,m1,m9,ml,l12,_⟩:=zeP h; exact l12
theorem zrL {l:List Nat} (h:ze0 l=true):l.length<=12:=by
 unfold ze0 at h; rw [yg,ym] at h; exact h.1.2
theorem Sn.plc {ws:Pl} (h:WS ws):Sn (plc ws):=.tup (by rw [yE]; have:=h.1; omega) fun d hd=>by
 obtain ⟨l,hl,rfl⟩:=yU.mp hd
 have:=zrL (h.2 l hl)
 exact .str (by omega)
theorem Sn.three {a b c:D} (ha:Sn a) (hb:Sn b) (hc:Sn c):Sn (.tup [a,b,c]):=.tup (by simp) fun d hd=>by
 simp only [yN,yz,or_false] at hd
 rcases hd with rfl | rfl | rfl
 ·exact ha
 ·exact hb
 ·exact hc
theorem zrg.kids {t:Tr} (h:zrg t):Sn (.tup (t.kds.map trD)):=.tup (by rw [yE]; have:=h.2.2.1; omega) fun d hd=>by
 obtain ⟨k,hk,rfl⟩:=yU.mp hd; exact h.2.2.2 k hk
theorem zrg.sn {t:Tr} (h:zrg t):Sn (trD t):=by
 rw [zbI]
 exact .three (.str (by have:=h.1; omega)) (.plc h.2.1) h.kids
theorem Fit.sn:∀ {n:Nat} {t:Tr},Fit n t->Sn (trD t)
 | n+1,t,h=>zrg.sn ⟨h.1,h.2.1,h.2.2.1,fun k hk=>Fit.sn (h.2.2.2.2 k hk).2⟩
theorem ziV {ws:Pl} (h:WS ws):zc2 (plc ws)=true:=by
 show (ws.map D.str).all zpy=true
 rw [yW]; intro d hd; obtain ⟨l,hl,rfl⟩:=yU.mp hd; exact h.2 l hl
theorem zoV (ks:List Tr):(ks.map trD).map zgM=ks.map Tr.lab:=by
 rw [yh]
 refine yu fun k _=>?_
 show zgM (trD k)=_
 rw [zbI]; rfl
open Classical in
theorem zij:∀ {L:List (List Nat)},Ris L->zlV L=true
 | [],_=>rfl
 | [a],_=>rfl
 | a :: b :: r,h=>by
  have h':=List.pairwise_cons.mp h; unfold zlV
  rw [yp (h'.1 b (by simp)),Bool.true_and]
  exact zij h'.2
theorem ziF:∀ {n:Nat} {t:Tr},Fit n t->zhW n (plc t.wds) (.tup (t.kds.map trD))=true
 | n+1,t,h=>by
  show (zc2 (plc t.wds) && zd0 (zcs n) (.tup (t.kds.map trD)))=true
  rw [ziV h.2.1,Bool.true_and]
  show ((t.kds.map trD).all (zcs n) && zlV ((t.kds.map trD).map zgM))=true
  rw [zoV,zij h.2.2.2.1,Bool.and_true,yW]; intro d hd; obtain ⟨k,hk,rfl⟩:=yU.mp hd; obtain ⟨h1,h2⟩:=h.2.2.2.2 k hk; rw [zbI,zix,ziF h2,Bool.and_true]; exact h1
theorem zkL (ns:Nd) (n:Nat) (p:Pl):((za5 ns p).map (zad n ns)).map Tr.lab=srt (ltP (((zcd ns p).map zbk).map zcH)) [] ((zcd ns p).map zbk):=by
 rw [yh]
 have e:(Tr.lab ∘ zad n ns)=zbk:=by funext q; exact zcR n ns q
 rw [e]; unfold za5; rw [zlJ,yh]; rfl
theorem zd8 {ns:Nd} (o:NW ns):∀ (m n:Nat) (p:Pl),p ∈ keys ns->8<=p.length+n->9<=p.length+m->Fit m (zad n ns p)
 | 0,n,p,hp,_,h9=>by
  have:=o.ok.len p hp
  omega
 | m+1,n,p,hp,h8,h9=>by
  have hlab:(zad n ns p).lab.length<=12:=by
   rw [zcR]
   cases hc:p.getLast? with
   | none=>unfold zbk; rw [hc]; exact yf _
   | some l =>
    unfold zbk; rw [hc]; exact zsE (o.ok.lab p hp l (List.mem_of_getLast? hc))
  have hw:WS (zad n ns p).wds:=by cases n <;> exact zfs o p
  cases n with
  | zero=>exact ⟨hlab,hw,yf _,.nil,fun k hk=>(nomatch hk)⟩
  | succ n =>
   have hf:∀ q ∈ zcd ns p,q ∈ keys ns/\q=p ++ [zbk q]:=fun q hq=>zeK.mp hq
   have hkl:(zcd ns p).length<=60:=by
    have h1:=List.length_filter_le (fun q:Pl=>decide (q.length=p.length+1) && decide (q.dropLast=p)) (keys ns)
    have h2:(keys ns).length<=60:=by unfold keys; rw [yE]; exact o.ok.many
    unfold zcd; omega
   have hsl:(za5 ns p).length=(zcd ns p).length:=zjQ (zhA _) _ _
   refine ⟨hlab,hw,?_,?_,fun k hk=>?_⟩
   ·show ((za5 ns p).map _).length<=_
    rw [yE]; omega
   ·show Ris (((za5 ns p).map (zad n ns)).map Tr.lab)
    rw [zkL]
    refine zjT ?_ fun l hl=>?_
    ·refine zfl (o.ok.nd.sublist List.filter_sublist) fun a ha b hb e=>?_
     rw [(hf a ha).2,(hf b hb).2,e]
    ·obtain ⟨q,hq,rfl⟩:=yU.mp hl
     exact o.ok.lab q (hf q hq).1 (zbk q) (by rw [(hf q hq).2,zdV]; simp)
   ·obtain ⟨q,hq,rfl⟩:=yU.mp hk
    have hm:=za2.mp hq; have hl:=zdk hq
    refine ⟨?_,zd8 o m n q hm.1 (by omega) (by omega)⟩
    rw [zcR]
    exact o.ok.lab q hm.1 (zbk q) (by rw [hm.2,zdV]; simp)
theorem Fit.ds:∀ {n:Nat} {t:Tr},Fit n t->Ds t
 | n+1,.node l ws ks,h=>.mk h.2.2.2.1.nodup fun k hk=>Fit.ds (h.2.2.2.2 k hk).2
theorem Fit.plt:∀ {n:Nat} {t:Tr},Fit n t->PlT (2 * n) (trD t)
 | n+1,t,h=>by
  rw [zbI]
  refine PlT.tup (n:=2 * n+1) fun d hd=>?_
  simp only [yN,yz,or_false] at hd
  rcases hd with rfl | rfl | rfl
  ·exact .str _ _
  ·exact .plc _ _
  ·exact .tup fun d hd=>by
    obtain ⟨k,hk,rfl⟩:=yU.mp hd; exact Fit.plt (h.2.2.2.2 k hk).2
theorem zjY {ns:Nd} (o:NW ns):∀ (n:Nat) (p:Pl),p ∈ keys ns->8<=p.length+n->∀ r ∈ zaR (zad n ns p) p,RowOk r
 | n,p,hp,h8=>by
  intro r hr; rw [zgs o.ok h8] at hr
  rcases yN.mp hr with rfl | hr
  ·exact zni o hp
  ·obtain ⟨q,hq,hr⟩:=List.mem_flatMap.mp hr
   have hl:=zdk hq
   cases n with
   | zero=>rw [zcG o.ok (by omega)] at hq; cases hq
   | succ n=>exact zjY o n q (za2.mp hq).1 (by omega) r hr
theorem zcQ {ns:Nd} (o:NW ns):TOk (zad 9 ns []) :=
 ⟨(zd8 o 9 9 [] o.ok.nil (by decide) (by decide)).ds,by rw [zfL,zfS]; exact zh5 o.ok 9 o.ok.nil,zjY o 9 [] o.ok.nil (by decide)⟩
theorem zej {ns:Nd} (o:NW ns) {Q:Res->Prop} (q:Q (.val (trD (zad 9 ns [])))):zfD [.str (zcb (zad 9 ns []))] Q:=by
 have hf:=zd8 o 9 9 [] o.ok.nil (by decide) (by decide)
 have hl:(zad 9 ns []).lab=[]:=zcR 9 ns []
 refine ⟨_,rfl,zcQ o,hl,hf.sn,⟨_,_,?_,ziF hf⟩,q⟩; rw [zbI,hl]
theorem zei {ns:Nd} (o:NW ns) {Q:Res->Prop} (q:Q (.val (.bl true))):zbg 24 [trD (zad 9 ns []),trD (zad 9 ns [])] Q :=
 ⟨_,rfl,(zd8 o 9 9 [] o.ok.nil (by decide) (by decide)).plt.up (by decide),q⟩
theorem zts (xs:List Int) {a b:Nat} (h:b<=a+50):(zeg xs (some a) (some b)).length<=50:=by
 unfold zeg; rw [Yd,HT.sIx_nat,HT.sIx_nat]; omega
def zbQ:Sp':=fun ds Q=>∃ ms:List Int,ds=[.lst (ms.map .int)]/\Q (.val (.bl true))
def znh:Sp':=zhj
theorem zlH (a b:D) (Q:Res->Prop):zba 10 [a,b] Q↔∃ ns p,(a=.dit (ndD ns)/\b=plc p)/\NOk ns/\p ∈ keys ns/\8<=p.length+9/\Q (.val (trD (zad 9 ns p))):=by
 constructor
 ·rintro ⟨ns,p,h,r⟩
  cases h; exact ⟨ns,p,⟨rfl,rfl⟩,r⟩
 ·rintro ⟨ns,p,⟨rfl,rfl⟩,r⟩
  exact ⟨ns,p,rfl,r⟩
section
variable {P:Program} {w:World} {K:W.Frag} {mg:Str->Option Value} {base:Heap}
theorem zm0 {Q:Res->Prop} {n:Nat}:∀ {ds:List D},(∀ d ∈ ds,PlT n d)->∀ (A B s2 s3:Slot),Q (.val (.bl true))->zd2 (zZ 2 (zx (zr 2) (zx (zr 3) zaa))) (zU (zac (tB' (zv (zbg (n+1)) (zt (zB 2) (zt (zB 3) zR))))) (zQ (tC' (D.bl false))) zw)
  { nx:=zQ (tC' (D.bl true)) { nx:=fun x=>Q (Res.val D.non),rt:=fun r x=>Q r },rt:=fun r x=>Q r } ((ds.zip ds).map fun p=>D.tup [p.fst,p.snd]) [A,B,s2,s3]:=by
 intro ds
 induction ds with
 | nil=>intro _ A B s2 s3 q; simpa [zd2,zQ,tC'] using q
 | cons d ds ih =>
  intro hd A B s2 s3 q
  have ih':=ih (fun x hx=>hd x (yH _ hx)) A B (.val d) (.val d) q
  have h1:=hd d yT; simp only [List.zip_cons_cons,yZ,zd2]; simp [zZ,zx,zaa,zr,zU,zac,tB',zv,zt,zR,zB,tC',zQ,zw,zbg,Res.toD]; exact ⟨d,[],⟨rfl,rfl⟩,rfl,d,⟨rfl,rfl⟩,h1,ih'⟩
theorem zci:FnScope ["_law_found","_law_due","_law_one","_law_other"] ["_law_found","_law_due"] (zm zdL):=⟨rfl,rfl,rfl,by decide +kernel,rfl,by decide +kernel,by decide +kernel⟩
theorem zhF (d:Df K mg "_law_same" zdL ["_law_found","_law_due"]) (z_isinstance:mg "isinstance"=none) (z_len:mg "len"=none) (z_str:mg "str"=none) (z_tuple:mg "tuple"=none) (z_zip:mg "zip"=none):∀ n:Nat,Fn P w K mg base (n+1) "_law_same" ["_law_found","_law_due"] (zbg n):=by
 intro n
 induction n with
 | zero=>exact d.ok (k:=0) zci (fun ds Q h=>(show False from h).elim) (fun f cdv A outer s H E hr ds Q h=>(show False from h).elim)
 | succ n ih =>
 have G_law_same:Fn P w K mg base (n+1) "_law_same" ["_law_found","_law_due"] (zbg n):=ih
 refine d.ok (k:=n+1) zci (fun ds Q h=>?_) (fun f cdv A outer s H E hr ds Q h=>⟨_,(zj (za1 (zbs (zO (zcO K rfl) z_isinstance yY (zc (pv' 1) (zc (zcC z_str YG) zi)))) (zk (zP (zbH (zO (zcO K rfl) z_isinstance yY (zc (pv' 0) (zc (zcC z_str YG) zi))) (zb7 (zcn (zdt (zcp hr)) (pv' 0) (pv' 1)))))) zay)
  (zj (za1 (PW'.pt (zfh (zbt (zbs (zO (zcO K rfl) z_isinstance yY (zc (pv' 0) (zc (zcC z_tuple YF) zi))))) (zey (zaI (zkv (zcp hr)) (zO zbJ z_len yq (zc (pv' 0) zi)) (zO zbJ z_len yq (zc (pv' 1) zi)))))) (zk (zP zcE)) zay)
  (zj (zcm (zkh z_zip (zc (pv' 0) (zc (pv' 1) zi))) (zhy (n:=2) (zcc (zaA 2 zci.nd) (zcc (zaA 3 zci.nd) zfU)))
   (zk (za1 (zbt (zbs (zaC G_law_same (hr.mono (by omega)) (zc (pv' 2) (zc (pv' 3) zi))))) (zk (zP zcE)) zay)))
  (zk (zP zcE))))),?_⟩)
 ·obtain ⟨d,rfl,_⟩:=h
  rfl
 obtain ⟨d,rfl,hp,q⟩:=h
 cases hp with
 | str n l =>
  simp [zX,zQ,zU,zV,zr,zB,tC',zam,zaM,tB',zac,zao,zbc,zH,zau,zK,zbd,zR,zt,zab,zak,za3,zbe,zaY,zY,zaZ,zo,zag,zap,zI,zA,zv,zaX,zw,zal,zy,zan,zz,zG,zC,zF,zaw,zW,za9,zJ,zaj,zL,zaf,zZ,zx,zaa,zat,zas,zE,zM,zah,zav,zq,zD,zp,zar,zam,zaq]; exact q
 | tup hd =>
  simp [zX,zQ,zU,zV,zr,zB,tC',zam,zaM,tB',zac,zao,zbc,zH,zau,zK,zbd,zR,zt,zab,zak,za3,zbe,zaY,zY,zaZ,zo,zag,zap,zI,zA,zv,zaX,zw,zal,zy,zan,zz,zG,zC,zF,zaw,zW,za9,zJ,zaj,zL,zaf,zZ,zx,zaa,zat,zas,zE,zM,zah,zav,zq,zD,zp,zar,zam,zaq]; exact zm0 hd _ _ _ _ q
theorem zch:FnScope ["_law_script","_law_found","_law_number"] ["_law_script"] (zm zdK):=⟨rfl,rfl,rfl,by decide +kernel,rfl,by decide +kernel,by decide +kernel⟩
theorem zhD (d:Df K mg "_law_wide" zdK ["_law_script"]) (z_abs:mg "abs"=none) (z_len:mg "len"=none):Fn P w K mg base 1 "_law_wide" ["_law_script"] zc9:=by
 refine d.ok zch (fun ds Q h=>?_) (fun f cdv A outer s H E hr ds Q h=>⟨_,(zj (za1 (PW'.pt (zfh (zaI zrE (zO zbJ z_len yq (zc (pv' 0) zi)) zn) (zey (zaI zrE (zO zrb z_abs ziQ (zc (zaK (i_A (za7 hr)) (pv' 0) zn) zi)) (zae zoN zn zn))))) (zk (zP (pv' 0))) zay)
  (zj (zcY 1 zch.nd (zeB zi))
  (zj (zax 2 zch.nd (zO zrb z_abs ziQ (zc (zaK (i_A (za7 hr)) (pv' 0) zn) zi)))
  (zj (zez (zhx (PW'.pt (zhw (zaI zsA (pv' 2) zn) (zfQ (zaI zrE (zO zbJ z_len yq (zc (pv' 1) zi)) zn)))))
   (zj (zcZ 1 (zae zd5 (pv' 2) (zae zoN zn zn)))
  (zk (zax 2 zch.nd (zae zcF (pv' 2) (zae zoN zn zn))))))
  (zk (zis (zoq (znn zns (pv' 1) (zc5 s_A (pv' 0) (zd4 zn) zgw))))))))),?_⟩)
 ·obtain ⟨ns,rfl,_⟩:=h
  rfl
 obtain ⟨ns,rfl,h63,hq⟩:=h; simp [zX,zQ,zU,zV,zr,zB,tC',zam,zaM,tB',zac,zao,zbc,zH,zau,zK,zbd,zR,zt,zab,zak,za3,zbe,zaY,zY,zaZ,zo,zag,zap,zI,zA,zv,zaX,zw,zal,zy,zan,zz,zG,zC,zF,zaw,zW,za9,zJ,zaj,zL,zaf,zZ,zx,zaa,zat,zas,zE,zM,zah,zav,zq,zD,zp,zar,zam,zaq]
 rcases Nat.lt_or_ge ns.length 2 with h2 | h2
 ·exact .inr ⟨by omega,hq ns _ rfl⟩
 refine .inl ⟨by omega,?_⟩
 obtain ⟨z,hz⟩:∃ z,ns[1]?=some z:=⟨_,yB (by omega)⟩
 have ha:atI (ns.map D.int) 1=some (.int z):=show atI _ ((1:Nat):Int)=_ from zdl (by rw [yJ,hz]; rfl)
 refine ⟨.int z,ha,?_⟩; rw [zl7]
 refine ⟨by simp [zri],?_⟩
 simp; rw [ha]; simp
 generalize (if z<0 then -z else z)=N
 by_cases hN:N<1000000000000000000
 ·exact .inr ⟨hN,hq ns _ rfl⟩
 refine .inl ⟨by omega,?_⟩
 refine zeh (fun Γ=>∃ (fs:List Int) (M:Int),Γ=[.val (.lst (ns.map .int)),.own (.lst (fs.map .int)),.val (.int M)]/\fs.length<=63) (fun Γ=>match Γ with | [_,.own (.lst l),_]=>63-l.length | _=>0) ⟨[],N,rfl,by simp⟩ ?_
 rintro Γ ⟨fs,M,rfl,hf⟩
 simp [zX,zQ,zU,zV,zr,zB,tC',zam,zaM,tB',zac,zao,zbc,zH,zau,zK,zbd,zR,zt,zab,zak,za3,zbe,zaY,zY,zaZ,zo,zag,zap,zI,zA,zv,zaX,zw,zal,zy,zan,zz,zG,zC,zF,zaw,zW,za9,zJ,zaj,zL,zaf,zZ,zx,zaa,zat,zas,zE,zM,zah,zav,zq,zD,zp,zar,zam,zaq,OD.toD]
 have hadd:zl6 (.lst (fs.map .int)) (.lst (zeg (ns.map .int) (some 2) none)) fun o=>ztv o/\Q (.own o):=by
  rw [zef]
  have hl:(zeg ns (some 2) none).length<=ns.length:=by unfold zeg; rw [Yd,List.length_drop]; omega
  refine ⟨_,_,rfl,rfl,za4 (by simp; omega),?_⟩
  rw [<- YM]
  exact ⟨fun d hd=>by obtain ⟨i,_,rfl⟩:=yU.mp hd; exact .int i,hq _ _ rfl⟩
 by_cases hM:M<=0
 ·exact .inl ⟨hM,hadd⟩
 refine .inr ⟨by omega,?_⟩
 by_cases h6:fs.length<63
 ·exact .inr ⟨by omega,by simp [zri],zaW (by omega),by simp [zri],by simp [znR],⟨fs ++ [M % 1000000],by simp,by simp; omega⟩,by omega⟩
 ·exact .inl ⟨by omega,hadd⟩
theorem zaP:FnScope ["_law_script","_law_nodes_here","_law_tree_here","_law_due","_law_found","_law_other"] ["_law_script"] (zm zb5):=⟨rfl,rfl,rfl,by decide +kernel,rfl,by decide +kernel,by decide +kernel⟩
theorem zeG (d:Df K mg "_law_asked_so" zb5 ["_law_script"]) (G_shown:Fn P w K mg base 3 "shown" ["tree"] zd9) (G_read:Fn P w K mg base 40 "read" ["text"] zfD) (G_law_nodes:Fn P w K mg base 3 "_law_nodes" ["_law_cells"] zbZ) (G_law_tree:Fn P w K mg base 15 "_law_tree" ["_law_nodes_here","_law_place"] (zba 10)) (G_law_rows:Fn P w K mg base 15 "_law_rows" ["_law_nodes_here","_law_place"] (zbh 10)) (G_law_same:Fn P w K mg base 25 "_law_same" ["_law_found","_law_due"] (zbg 24)) (z_isinstance:mg "isinstance"=none) (z_str:mg "str"=none):Fn P w K mg base 41 "_law_asked_so" ["_law_script"] zbQ:=by
 refine d.ok zaP (fun ds Q h=>?_) (fun f cdv A outer s H E hr ds Q h=>⟨_,(zj (zax 1 zaP.nd (zaC G_law_nodes (hr.mono (by decide)) (zc (zc5 s_A (pv' 0) (zd4 zn) (zd4 zn)) zi)))
  (zj (zax 2 zaP.nd (zaC G_law_tree (hr.mono (by decide)) (zc (pv' 1) (zc (zaF zi) zi))))
  (zj (zax 3 zaP.nd (zdr zgJ YB Yl Yk (zaB [10]) (zc (zaC G_law_rows (hr.mono (by decide)) (zc (pv' 1) (zc (zaF zi) zi))) zi)))
  (zj (zax 4 zaP.nd (zaC G_shown (hr.mono (by decide)) (zc (pv' 2) zi)))
  (zj (za1 (PW'.pt (zfh (zbt (zbs (zO (zcO K rfl) z_isinstance yY (zc (pv' 4) (zc (zcC z_str YG) zi))))) (zfh (zaI (zkv (zcp hr)) (pv' 4) (pv' 3)) (zey (zbt (zbs (zaC G_law_same (hr.mono (by decide)) (zc (zaC G_read (hr.mono (by decide)) (zc (pv' 3) zi)) (zc (pv' 2) zi))))))))) (zk (zP zcE)) zay)
  (zj (zax 5 zaP.nd (zaC G_law_tree (hr.mono (by decide)) (zc (zaC G_law_nodes (hr.mono (by decide)) (zc (zc5 s_A (pv' 0) (zd4 zn) (zd4 zn)) zi)) (zc (zaF zi) zi))))
  (zj (za1 (zbt (zbs (zaC G_law_same (hr.mono (by decide)) (zc (zaC G_read (hr.mono (by decide)) (zc (zaC G_shown (hr.mono (by decide)) (zc (pv' 5) zi)) zi)) (zc (pv' 5) zi))))) (zk (zP zcE)) zay)
  (zk (zP (zbH (zaC G_law_same (hr.mono (by decide)) (zc (zaC G_read (hr.mono (by decide)) (zc (pv' 3) zi)) (zc (pv' 2) zi))) (zb7 (zcn (zdt (zcp hr)) (zaC G_shown (hr.mono (by decide)) (zc (pv' 2) zi)) (pv' 3))))))))))))),?_⟩)
 ·obtain ⟨ns,rfl,_⟩:=h
  rfl
 obtain ⟨ms,rfl,q⟩:=h; simp [zX,zQ,zU,zV,zr,zB,tC',zam,zaM,tB',zac,zao,zbc,zH,zau,zK,zbd,zR,zt,zab,zak,za3,zbe,zaY,zY,zaZ,zo,zag,zap,zI,zA,zv,zaX,zw,zal,zy,zan,zz,zG,zC,zF,zaw,zW,za9,zJ,zaj,zL,zaf,zZ,zx,zaa,zat,zas,zE,zM,zah,zav,zq,zD,zp,zar,zam,zaq,zbZ,zlH]
 refine ⟨zeg ms (some 1) (some 51),zef _ _ _ _,zts ms (a:=1) (b:=51) (by decide),fun ns o=>⟨ns,[],⟨rfl,rfl⟩,o.ok,o.ok.nil,ns,[],rfl,o,o.ok.nil,by decide,10,(zaR (zad 9 ns []) []).map ze4,rfl,.inl rfl,?_,zad 9 ns [],rfl,zcQ o,?_⟩⟩
 ·have h1:=zfA (zcQ o).ok
  have h2:=(zcQ o).len; rw [yE]; omega
 refine zkQ (b:=true) rfl rfl (.inr ⟨rfl,?_⟩)
 show zlZ (.str (zcb (zad 9 ns []))) (.str (zcb (zad 9 ns []))) _
 rw [zin]
 refine .inl ⟨by simp,zej o (zei o (.inr ⟨rfl,?_⟩))⟩
 refine ⟨zeg ms (some 1) (some 3),zef _ _ _ _,zts ms (a:=1) (b:=3) (by decide),fun ns2 o2=>⟨ns2,[],⟨rfl,rfl⟩,o2.ok,o2.ok.nil,zad 9 ns2 [],rfl,zcQ o2,zej o2 (zei o2 (.inr ⟨rfl,?_⟩))⟩⟩
 refine zej o (zei o (.inr ⟨rfl,zad 9 ns [],rfl,zcQ o,?_⟩))
 show zlo (.str (zcb (zad 9 ns []))) (.str (zcb (zad 9 ns []))) _
 rw [zl5]
 simpa using q
theorem zpT:FnScope ["_law_script"] ["_law_script"] (zm ze3):=⟨rfl,rfl,rfl,by decide +kernel,rfl,by decide +kernel,by decide +kernel⟩
theorem zqD (d:Df K mg "law" ze3 ["_law_script"]) (G_law_asked_so:Fn P w K mg base 41 "_law_asked_so" ["_law_script"] zbQ) (G_law_wide:Fn P w K mg base 1 "_law_wide" ["_law_script"] zc9):Fn P w K mg base 42 "law" ["_law_script"] znh:=by
 refine d.ok zpT (fun ds Q h=>?_) (fun f cdv A outer s H E hr ds Q h=>⟨_,(zk (zP (zaC G_law_asked_so (hr.mono (by decide)) (zc (zaC G_law_wide (hr.mono (by decide)) (zc (pv' 0) zi)) zi)))),?_⟩)
 ·obtain ⟨ns,rfl,_⟩:=h
  rfl
 obtain ⟨cs,rfl,hl,hq⟩:=h; simp [zX,zQ,zU,zV,zr,zB,tC',zam,zaM,tB',zac,zao,zbc,zH,zau,zK,zbd,zR,zt,zab,zak,za3,zbe,zaY,zY,zaZ,zo,zag,zap,zI,zA,zv,zaX,zw,zal,zy,zan,zz,zG,zC,zF,zaw,zW,za9,zJ,zaj,zL,zaf,zZ,zx,zaa,zat,zas,zE,zM,zah,zav,zq,zD,zp,zar,zam,zaq]
 exact ⟨cs,rfl,hl,fun ms r e=>⟨ms,by rw [e],hq⟩⟩
end
end K12
namespace PL
open PySem L2
theorem ar1 {A B C D E F:Sort _} {p:A->B->C->D->E->F->List Value->Prop} (h:∀ a b c d e f x0,p a b c d e f [x0]):∀ a b c d e f us,us.length=1->p a b c d e f us:=fun a b c d e f us hl=>match us,hl with | [x0],_=>h a b c d e f x0
theorem ar2 {A B C D E F:Sort _} {p:A->B->C->D->E->F->List Value->Prop} (h:∀ a b c d e f x0 x1,p a b c d e f [x0,x1]):∀ a b c d e f us,us.length=2->p a b c d e f us:=fun a b c d e f us hl=>match us,hl with | [x0,x1],_=>h a b c d e f x0 x1
def Dn (K:W.Frag) (x:Str) (st:Stmt):Prop:=∃ f fd,Fun K x x st f fd/\W.nsIn K mainGlobals x=some (some (.ref f))
section
variable {K:W.Frag} {x:Str} {st:Stmt}
theorem Dn.mk {f:Addr} {oc:Value} {od an:Option Addr} {osl:Array (Option Value)} {kV doc pm cdv ct:Value} (a:W.nsIn K mainGlobals x=some (some (.ref f))) (l:K.lookup f=some ⟨oc,od,.func (W.fnOf x x (zcL st) (zbW st) (zm st) .none kV doc pm an cdv ct),osl⟩) (c:W.codeIn K cdv x=true) (k:W.keepIn K (.ref f)=true):Dn K x st:=⟨f,_,znJ l c k,a⟩
theorem Dn.df {h:Heap} {mg:Str->Option Value} (D:Dn K x st) (X:K.In h) (G:h.Ns mainGlobals mg) (ps:List Str) (hb:∀ (kV doc pm:Value) (an:Option Addr) (cdv ct:Value) (us:List Value),us.length=ps.length->bindArgs (W.fnOf x x (zcL st) (zbW st) (zm st) .none kV doc pm an cdv ct) ⟨us,[]⟩=pure (ps.zip us)):Df K mg x st ps:=by
 obtain ⟨f,fd,F,a⟩:=D; exact ⟨f,fd,F,F.binds hb,W.mg_of X G a⟩
end
end PL
namespace K12
open PySem L2 Lb PL MT M04 MS M70 M11 M12
section
variable {P:Program} {w:World} {K:W.Frag} {mg:Str->Option Value} {base:Heap}
end
theorem all_mk {l:W.OpenLaw} {w:World} {K:W.Frag} {h:Heap} {mg:Str->Option Value} {fa f36  :Addr} (X:K.In h) (G:h.Ns mainGlobals mg) (hfa:mg "law"=some (.ref fa))
  {od36 an36:Option Addr} {sl36:Array (Option Value)} {oc36 kV36 dc36 pm36 cd36 ct36:Value}
  {x1:Str} {t1:Tok} {x2:Int} {t2:Tok} {x3:Int} {t3:Tok} {x4:Int} {t4:Tok} {x5:Int} {t5:Tok} {x6:Str} {t6:Tok} {x7:Str} {t7:Tok}
  (D1:Dn K "figures_of" zcz)
  (D2:Dn K "has_only" zcV)
  (D3:Dn K "is_triple" zde)
  (D4:Dn K "kid_with" zdN)
  (D5:Dn K "places" zfK)
  (D6:Dn K "place_text" zcx)
  (D7:Dn K "tree_of_rows" zb4)
  (D8:Dn K "labels_in" zdd)
  (D9:Dn K "_law_label" zdc)
  (D10:Dn K "_law_word" zdJ)
  (D11:Dn K "_law_key" zet)
  (D12:Dn K "_law_wide" zdK)
  (D13:Dn K "is_word" zeu)
  (D14:Dn K "label_rank" zcy)
  (D15:Dn K "is_label_number" zbA)
  (D16:Dn K "node_at" zes)
  (D17:Dn K "row_text" zdI)
  (D18:Dn K "row_parts" zda)
  (D19:Dn K "_law_words" zcj)
  (D20:Dn K "is_label" zdO)
  (D21:Dn K "label_before" zb6)
  (D22:Dn K "are_words" zck)
  (D23:Dn K "shown" zfJ)
  (D24:Dn K "_law_nodes" zdb)
  (D25:Dn K "are_rising" zb2)
  (D26:Dn K "_law_kids" zcU)
  (D27:Dn K "_law_tree" zcT)
  (D28:Dn K "_law_rows" zdM)
  (D29:Dn K "_law_same" zdL)
  (D30:Dn K "is_node" zew)
  (D31:Dn K "has_good_parts" zbF)
  (D32:Dn K "are_kids" zcW)
  (D33:Dn K "is_tree" zev)
  (D34:Dn K "read" zif)
  (D35:Dn K "_law_asked_so" zb5)
  (a36:W.nsIn K mainGlobals "law"=some (some (.ref f36)))
  (l36:K.lookup f36=some ⟨oc36,od36,.func (W.fnOf "law" "law" (zcL ze3) (zbW ze3) (zm ze3) .none kV36 dc36 pm36 an36 cd36 ct36),sl36⟩)
  (c36:W.codeIn K cd36 "law"=true)
  (k36:W.keepIn K (.ref f36)=true)
  (z1:W.nsIn K mainGlobals "abs"=some none)
  (z2:W.nsIn K mainGlobals "all"=some none)
  (z3:W.nsIn K mainGlobals "int"=some none)
  (z4:W.nsIn K mainGlobals "isinstance"=some none)
  (z5:W.nsIn K mainGlobals "len"=some none)
  (z6:W.nsIn K mainGlobals "range"=some none)
  (z7:W.nsIn K mainGlobals "reversed"=some none)
  (z8:W.nsIn K mainGlobals "sorted"=some none)
  (z9:W.nsIn K mainGlobals "str"=some none)
  (z10:W.nsIn K mainGlobals "tuple"=some none)
  (z11:W.nsIn K mainGlobals "zip"=some none)
  (g1:W.nsIn K mainGlobals "FIGURES"=some (some (.str x1 t1)))
  (e1:x1=st zpC)
  (g2:W.nsIn K mainGlobals "LONGEST_WORD"=some (some (.int x2 t2)))
  (e2:x2=12)
  (g3:W.nsIn K mainGlobals "MOST_DEEP"=some (some (.int x3 t3)))
  (e3:x3=9)
  (g4:W.nsIn K mainGlobals "MOST_FIGURES"=some (some (.int x4 t4)))
  (e4:x4=9)
  (g5:W.nsIn K mainGlobals "MOST_LETTERS"=some (some (.int x5 t5)))
  (e5:x5=3)
  (g6:W.nsIn K mainGlobals "SMALL_LETTERS"=some (some (.str x6 t6)))
  (e6:x6=st zqN)
  (g7:W.nsIn K mainGlobals "WORD_SIGNS"=some (some (.str x7 t7)))
  (e7:x7=st wsg)
  :
  ∃ fd:FuncData,(∀ (s:Shared) (v:Value),BindsTo s fd ⟨[v],[]⟩ [("_law_script",v)])/\∀ base:Heap,K.In base->base.Ns mainGlobals mg->FnOk l.prog w K mg base CX0 42 fa fd ["_law_script"] (zlM K zhj):=by
 subst e1; subst e2; subst e3; subst e4; subst e5; subst e6; subst e7
 have d1:=D1.df X G ["label"] <| ar1 fun _ _ _ _ _ _ _=>rfl
 have d2:=D2.df X G ["text","signs"] <| ar2 fun _ _ _ _ _ _ _ _=>rfl
 have d3:=D3.df X G ["thing"] <| ar1 fun _ _ _ _ _ _ _=>rfl
 have d4:=D4.df X G ["node","label"] <| ar2 fun _ _ _ _ _ _ _ _=>rfl
 have d5:=D5.df X G ["tree"] <| ar1 fun _ _ _ _ _ _ _=>rfl
 have d6:=D6.df X G ["place"] <| ar1 fun _ _ _ _ _ _ _=>rfl
 have d7:=D7.df X G ["rows"] <| ar1 fun _ _ _ _ _ _ _=>rfl
 have d8:=D8.df X G ["text"] <| ar1 fun _ _ _ _ _ _ _=>rfl
 have d9:=D9.df X G ["_law_cell"] <| ar1 fun _ _ _ _ _ _ _=>rfl
 have d10:=D10.df X G ["_law_cell"] <| ar1 fun _ _ _ _ _ _ _=>rfl
 have d11:=D11.df X G ["_law_label_here"] <| ar1 fun _ _ _ _ _ _ _=>rfl
 have d12:=D12.df X G ["_law_script"] <| ar1 fun _ _ _ _ _ _ _=>rfl
 have d13:=D13.df X G ["thing"] <| ar1 fun _ _ _ _ _ _ _=>rfl
 have d14:=D14.df X G ["label"] <| ar1 fun _ _ _ _ _ _ _=>rfl
 have d15:=D15.df X G ["text"] <| ar1 fun _ _ _ _ _ _ _=>rfl
 have d16:=D16.df X G ["tree","place"] <| ar2 fun _ _ _ _ _ _ _ _=>rfl
 have d17:=D17.df X G ["place","words"] <| ar2 fun _ _ _ _ _ _ _ _=>rfl
 have d18:=D18.df X G ["row"] <| ar1 fun _ _ _ _ _ _ _=>rfl
 have d19:=D19.df X G ["_law_cell"] <| ar1 fun _ _ _ _ _ _ _=>rfl
 have d20:=D20.df X G ["thing"] <| ar1 fun _ _ _ _ _ _ _=>rfl
 have d21:=D21.df X G ["one","other"] <| ar2 fun _ _ _ _ _ _ _ _=>rfl
 have d22:=D22.df X G ["thing"] <| ar1 fun _ _ _ _ _ _ _=>rfl
 have d23:=D23.df X G ["tree"] <| ar1 fun _ _ _ _ _ _ _=>rfl
 have d24:=D24.df X G ["_law_cells"] <| ar1 fun _ _ _ _ _ _ _=>rfl
 have d25:=D25.df X G ["labels"] <| ar1 fun _ _ _ _ _ _ _=>rfl
 have d26:=D26.df X G ["_law_nodes_here","_law_place"] <| ar2 fun _ _ _ _ _ _ _ _=>rfl
 have d27:=D27.df X G ["_law_nodes_here","_law_place"] <| ar2 fun _ _ _ _ _ _ _ _=>rfl
 have d28:=D28.df X G ["_law_nodes_here","_law_place"] <| ar2 fun _ _ _ _ _ _ _ _=>rfl
 have d29:=D29.df X G ["_law_found","_law_due"] <| ar2 fun _ _ _ _ _ _ _ _=>rfl
 have d30:=D30.df X G ["thing","levels"] <| ar2 fun _ _ _ _ _ _ _ _=>rfl
 have d31:=D31.df X G ["node","levels"] <| ar2 fun _ _ _ _ _ _ _ _=>rfl
 have d32:=D32.df X G ["thing","levels"] <| ar2 fun _ _ _ _ _ _ _ _=>rfl
 have d33:=D33.df X G ["thing"] <| ar1 fun _ _ _ _ _ _ _=>rfl
 have d34:=D34.df X G ["text"] <| ar1 fun _ _ _ _ _ _ _=>rfl
 have d35:=D35.df X G ["_law_script"] <| ar1 fun _ _ _ _ _ _ _=>rfl
 have F36:=znJ (st:=ze3) l36 c36 k36; have m36:=W.mg_of X G a36
 have b36:=F36.binds (ps:=["_law_script"]) <| ar1 fun _ _ _ _ _ _ _=>rfl
 have d36:Df K mg "law" ze3 ["_law_script"]:=⟨f36,_,F36,b36,m36⟩
 have z_abs:=W.mg_none_of X G z1; have z_all:=W.mg_none_of X G z2; have z_int:=W.mg_none_of X G z3; have z_isinstance:=W.mg_none_of X G z4; have z_len:=W.mg_none_of X G z5; have z_range:=W.mg_none_of X G z6; have z_reversed:=W.mg_none_of X G z7; have z_sorted:=W.mg_none_of X G z8; have z_str:=W.mg_none_of X G z9; have z_tuple:=W.mg_none_of X G z10; have z_zip:=W.mg_none_of X G z11; have g_FIGURES:=W.mg_of X G g1; have g_LONGEST_WORD:=W.mg_of X G g2; have g_MOST_DEEP:=W.mg_of X G g3; have g_MOST_FIGURES:=W.mg_of X G g4; have g_MOST_LETTERS:=W.mg_of X G g5; have g_SMALL_LETTERS:=W.mg_of X G g6; have g_WORD_SIGNS:=W.mg_of X G g7; have e:=hfa.symm.trans m36; cases e
 refine ⟨W.fnOf "law" "law" (zcL ze3) (zbW ze3) (zm ze3) .none kV36 dc36 pm36 an36 cd36 ct36,fun s v=>.of_eq rfl,fun base _ _=>?_⟩
 have G_figures_of:Fn l.prog w K mg base 1 "figures_of" ["label"] zbf:=zfZ d1 g_SMALL_LETTERS
 have G_has_only:Fn l.prog w K mg base 1 "has_only" ["text","signs"] zby:=zhK d2 z_all
 have G_is_triple:Fn l.prog w K mg base 1 "is_triple" ["thing"] zb1:=zgG d3 z_isinstance z_len z_tuple
 have G_kid_with:Fn l.prog w K mg base 1 "kid_with" ["node","label"] zbx:=zhI d4 
 have G_places:Fn l.prog w K mg base 1 "places" ["tree"] zdo:=zks d5 z_len z_reversed
 have G_place_text:Fn l.prog w K mg base 1 "place_text" ["place"] zbL:=zfW d6 
 have G_tree_of_rows:Fn l.prog w K mg base 1 "tree_of_rows" ["rows"] zbr:=zeF d7 z_reversed z_tuple
 have G_labels_in:Fn l.prog w K mg base 1 "labels_in" ["text"] zb0:=zgF d8 z_tuple
 have G_law_label:Fn l.prog w K mg base 1 "_law_label" ["_law_cell"] zbn:=zgE d9 z_str
 have G_law_word:Fn l.prog w K mg base 1 "_law_word" ["_law_cell"] zbw:=zhC d10 z_range
 have G_law_key:Fn l.prog w K mg base 1 "_law_key" ["_law_label_here"] zdE:=zjg d11 z_int z_len
 have G_law_wide:Fn l.prog w K mg base 1 "_law_wide" ["_law_script"] zc9:=zhD d12 z_abs z_len
 have G_is_word:Fn l.prog w K mg base 2 "is_word" ["thing"] zca:=zjh d13 G_has_only z_isinstance z_len z_str g_LONGEST_WORD g_WORD_SIGNS
 have G_label_rank:Fn l.prog w K mg base 2 "label_rank" ["label"] zcf:=zfY d14 G_figures_of z_int z_len
 have G_is_label_number:Fn l.prog w K mg base 2 "is_label_number" ["text"] za0:=zds d15 G_has_only z_len g_FIGURES g_MOST_FIGURES
 have G_node_at:Fn l.prog w K mg base 2 "node_at" ["tree","place"] zb9:=zjf d16 G_kid_with
 have G_row_text:Fn l.prog w K mg base 2 "row_text" ["place","words"] zbP:=zhB d17 G_place_text
 have G_row_parts:Fn l.prog w K mg base 2 "row_parts" ["row"] zbY:=zgB d18 G_labels_in z_tuple
 have G_law_words:Fn l.prog w K mg base 2 "_law_words" ["_law_cell"] zbm:=zgC d19 G_law_word z_range z_tuple
 have G_is_label:Fn l.prog w K mg base 3 "is_label" ["thing"] zcg:=zhJ d20 G_figures_of G_is_label_number z_isinstance z_len z_str g_MOST_LETTERS
 have G_label_before:Fn l.prog w K mg base 3 "label_before" ["one","other"] zbb:=zeH d21 G_label_rank
 have G_are_words:Fn l.prog w K mg base 3 "are_words" ["thing"] zcu:=zgH d22 G_is_word z_all z_isinstance z_tuple
 have G_shown:Fn l.prog w K mg base 3 "shown" ["tree"] zd9:=zmr d23 G_node_at G_places G_row_text
 have G_law_nodes:Fn l.prog w K mg base 3 "_law_nodes" ["_law_cells"] zbZ:=zgD d24 G_law_label G_law_words z_len
 have G_are_rising:Fn l.prog w K mg base 4 "are_rising" ["labels"] zbM:=zf1 d25 G_label_before z_all z_zip
 have G_law_kids:Fn l.prog w K mg base 4 "_law_kids" ["_law_nodes_here","_law_place"] zbi:=zhH d26 G_law_key z_len z_sorted
 have G_law_tree:Fn l.prog w K mg base 15 "_law_tree" ["_law_nodes_here","_law_place"] (zba 10):=zhE d27 G_law_kids z_tuple 10
 have G_law_rows:Fn l.prog w K mg base 15 "_law_rows" ["_law_nodes_here","_law_place"] (zbh 10):=zhG d28 G_law_kids 10
 have G_law_same:Fn l.prog w K mg base 25 "_law_same" ["_law_found","_law_due"] (zbg 24):=zhF d29 z_isinstance z_len z_str z_tuple z_zip 24
 have S_are_kids:=zhL (P:=l.prog) (w:=w) (base:=base) d32 G_are_rising z_isinstance z_tuple; have S_has_good_parts:=zdT (P:=l.prog) (w:=w) (base:=base) d31 G_are_words S_are_kids; have G_has_good_parts:=S_has_good_parts 10 (zjj d30 G_is_label G_is_triple S_has_good_parts 10)
 have G_is_tree:Fn l.prog w K mg base 39 "is_tree" ["thing"] zdF:=zji d33 G_is_triple G_has_good_parts z_isinstance z_str g_MOST_DEEP
 have G_read:Fn l.prog w K mg base 40 "read" ["text"] zfD:=zoM d34 G_is_tree G_shown G_row_parts G_tree_of_rows z_isinstance z_str
 have G_law_asked_so:Fn l.prog w K mg base 41 "_law_asked_so" ["_law_script"] zbQ:=zeG d35 G_shown G_read G_law_nodes G_law_tree G_law_rows G_law_same z_isinstance z_str
 have G_law:Fn l.prog w K mg base 42 "law" ["_law_script"] znh:=zqD d36 G_law_asked_so G_law_wide
 exact zqO m36 l36 base G_law
end K12
namespace PySem.W.Fast
def tw18359470247375807252:=yy
def tw1299100905309303457:=yy
def tw14346993910664356378:=yy
def tw17683254608017009305:=yy
def tw1927343725032463358:=yy
def tw11470388843067750302:=yy
def tw13034012245669694718:=yy
def tw17797624184075543760:=yy
def tw12905949378699939362:=yy
def tw4310250594371718576:=yy
def tw9196699469368132209:=yy
def tw1754594812176381517:=yy
def tw17376061336497524008:=yy
def tw1462881514892519403:=yy
def tw4973317090969241546:=yy
def tw15808619599620352944:=yy
def tw14157207914998914768:=yy
def tw3912238264992499070:=yy
def tw15976735248969501393:=yy
def tw17504152016890988339:=yy
def tw2759940453472902914:=yy
def tw12067858665269714087:=yy
def tw16184592410876038427:=yy
def tw14222301490132401745:=yy
def tw17551050469120690800:=yy
def tw13432447079804319474:=yy
def tw14651543452627391185:=yy
def tw15410102665776365504:=yy
def tw5374206997827592100:=yy
def tw1786714602090517975:=yy
def tw78750103140440441:=yy
def tw7927772805228259297:=yy
def tw15937493196406393213:=yy
def tw3824124000883141141:=yy
def tw2216165642595346817:=yy
def tw6751430670675287058:=yy
def tw12003725023668805288:=yy
def tw15092023874183029264:=yy
def tw18057399498272744389:=yy
def tw16960849097939431625:=yy
def tw15486255279655407573:=yy
def tw10089339756147885795:=yy
def tw17085637017846555979:=yy
def tw10946194115868587439:=yy
def tw10802637050594263022:=yy
def tw3712476266623094494:=yy
def tw15201878143047174221:=yy
def tw3631263626086647988:=yy
def tw17590563488605326215:=yy
def tw9076301698219980209:=yy
def tw1378757665011039886:=yy
def tw16661387421704197514:=yy
def tw14309012776920055747:=yy
def tw6335531691138052190:=yy
def tw6655775927091525734:=yy
def tw14095397828018472186:=yy
def tw5952910631796055717:=yy
def tw17857922042957371010:=yy
def tw14549825972255477968:=yy
def tw13900968478600489639:=yy
def tw16667765894328239229:=yy
def tw17042943479351582851:=yy
def tw9891696969746722207:=yy
def tw2375374772466693930:=yy
def tw3211136454468713216:=yy
def tw18288431538002927556:=yy
def tw13288743678327640111:=yy
def tw7428766588816505568:=yy
def tw9592217206967021623:=yy
def tw4840923439250885635:=yy
def tw10224201705493515733:=yy
def tw5265793036730908865:=yy
def tw4261245202165540478:=yy
def tw10448314503579160997:=yy
def tw17554748594511766390:=yy
def tw11991522324493151280:=yy
def tw12080866389771753426:=yy
def tw4593880419989794129:=yy
def tw1720520260189459712:=yy
def tw1766422390175544505:=yy
def tw315244837500405977:=yy
def tw6266831603622248531:=yy
def tw4349205212488138177:=yy
def tw10508347526122533833:=yy
def tw12881501683998048133:=yy
def tw18196422115426002745:=yy
def tw16216422661761015901:=yy
def tw7343032229800960643:=yy
def tw361719179176558345:=yy
def tw12005492825228135633:=yy
def tw15640406740064558760:=yy
def tw3297434589820566083:=yy
def tw16513133866527544699:=yy
def tw5515787273224370309:=yy
def tw3729707119379926045:=yy
def tw97538410014916024:=yy
def tw6616664820844940471:=yy
def tw4085679250407866798:=yy
def tw10954359819081663332:=yy
def tw14805749765376203945:=yy
def tw4764465956495827972:=yy
def tw5724403619210251254:=yy
def tw2230931147440709591:=yy
def tw13943496656432778220:=yy
def tw5178133682771260909:=yy
def tw9148085011095411672:=yy
def tw9809617620763522328:=yy
def tw10496467697257586399:=yy
def tw6748198035935110759:=yy
def tw12402690723641983504:=yy
def tw11544678706087711673:=yy
def tw6351852727303893909:=yy
def tw12494422596059025920:=yy
def tw9796761184910223641:=yy
def tw17972874041092040900:=yy
def tw4053493378602201793:=yy
def tw15892834169883893933:=yy
def tw4250295117352681358:=yy
def tw12488920446563868771:=yy
def tw13759427762945552234:=yy
def tw14706411382677549282:=yy
def tw14012562195203485751:=yy
def tw1635492039830368931:=yy
def tw18198181364828321837:=yy
def tw11012600914330032202:=yy
def tw5973079471032921474:=yy
def tw4105749371006554960:=yy
def tw774470606428516287:=yy
def tw8786016185896050456:=yy
def tw16197099736092125688:=yy
def tw7061120348623507334:=yy
def tw3418177391771229620:=yy
def tw16344596778340227922:=yy
def tw16206354755866103960:=yy
def tw4294557247246067781:=yy
def tw4286985636728767424:=yy
def tw11912027076826221895:=yy
def tw6242990289145579368:=yy
def tw3463555146462743467:=yy
def tw456465081466755641:=yy
def tw3075458937535407927:=yy
def tw16037757561111546330:=yy
def tw822830506487775138:=yy
def tw11341016538024233429:=yy
def tw7021724538933276537:=yy
def tw9095017929335830831:=yy
def tw6824927461741828144:=yy
def tw5750503300033236060:=yy
def tw2584988054071916040:=yy
def tw7791068931729674575:=yy
def tw10748718203975659910:=yy
def tw7917455681438298654:=yy
def tw5897831816519582267:=yy
def tw8133455637899902854:=yy
def tw7524577519614056127:=yy
def tw832155906828358358:=yy
def tw4823511706674403549:=yy
def tw6843596551716301843:=yy
def tw2235327933948889987:=yy
def tw896885883782580433:=yy
def tw10820115017942817995:=yy
def tw11917429840639902154:=yy
def tw2354313668089936582:=yy
def tw15417750335312265651:=yy
def tw14944510290315570099:=yy
def tw5306090608725627471:=yy
def tw9125813600998858904:=yy
def tw2247885476360517990:=yy
def tw8178032402079908867:=yy
def tw7325920644153980340:=yy
def tw6095449540517859839:=yy
def tw9972856194099690672:=yy
def tw9889760198931738590:=yy
def tw419892541314387014:=yy
def tw525132182101595299:=yy
def tw4995156969242819445:=yy
def tw11789440369621780922:=yy
def tw9523549831696137630:=yy
def tw4598427811873114130:=yy
def tw1475240128731225870:=yy
def tw13161133080142799846:=yy
def tw9426336840897176910:=yy
def tw8312739669873535561:=yy
def tw13935995519599250014:=yy
def tw7402862579048356894:=yy
def tw6069369439824884587:=yy
def tw5931115542268482787:=yy
def tw16749204038840887160:=yy
def tw11963612061091088093:=yy
def tw17540284032286996633:=yy
def tw12339860450534043508:=yy
def tw6400284735899702442:=yy
def tw10898564837574174456:=yy
def tw12134754982653883173:=yy
def tw15408283086722945549:=yy
def tw1030925820735140297:=yy
def tw12452134080195889535:=yy
def tw15556518943447213377:=yy
def tw7153368613062461572:=yy
def tw11315270654110863922:=yy
def tw3150532196998383518:=yy
def tw14989567795938757525:=yy
def tw8908728089658782408:=yy
def tw11381212005597493233:=yy
def tw3343571610369459356:=yy
def tw6714547827899689255:=yy
def tw10707396575964615951:=yy
def tw8559794201582916772:=yy
def tw425157085090660510:=yy
def tw2667004573770775644:=yy
def tw17964805689015434545:=yy
def tw1857365706057345013:=yy
def tw17793327579065857976:=yy
def tw4554848429326304453:=yy
def tw218179158014104928:=yy
def tw5545571069541604530:=yy
def tw11649556145424653337:=yy
def tw2884542670685341872:=yy
def tw7705348165697399034:=yy
def tw4546015344515605387:=yy
def tw3719438163632238962:=yy
def tw1993518266687575771:=yy
def tw4138219851861834354:=yy
def tw1738224062096345729:=yy
def tw14449060722942391221:=yy
def tw16451485798731865622:=yy
def tw2786275165898655785:=yy
def tw12420458589360259107:=yy
def tw9109444266265455207:=yy
def tw11419986381856840264:=yy
def tw13938267970947757953:=yy
def tw13786068677830049523:=yy
def tw17054322482108668716:=yy
def tw826507873592861148:=yy
def tw15888759390540310989:=yy
def tw11050570779344215585:=yy
def tw335622278151992351:=yy
def tw11767971575383429200:=yy
def tw18372570059483188267:=yy
def tw17410487052551559518:=yy
def tw6965043680147829788:=yy
def tw17067147205852251687:=yy
def tw8306674210039969040:=yy
def tw14925202298856130290:=yy
def tw12663939358343257506:=yy
def tw1211755354059534917:=yy
def tw6843937909068620895:=yy
def tw18223402516309216594:=yy
def tw12657011263801551450:=yy
def tw5358821822962997077:=yy
def tw2554681972042141813:=yy
def tw6005962984744590805:=yy
def tw12136611138519468517:=yy
def tw17915538286697748243:=yy
end PySem.W.Fast
open PySem PySem.W PyProof.Rows
set_option maxRecDepth 100000 in
set_option maxHeartbeats 0 in
theorem PySem.Challenge.cw_codemend_k12_whole_trees_as_text_holds : PySem.Challenge.rw_codemend_k12_whole_trees_as_text.Holds := by
 w_on; o_law; k_head; (case hw=>w_witness2)
 k_fill
 refine PL.walk_law (l:=PySem.Challenge.rw_codemend_k12_whole_trees_as_text) (k:=42) (x:="_law_script") rfl rfl ⟨rfl,by decide,by decide⟩ (fun w h Y=>PySem.W.kIn_of Y) ?F
 case F =>
  intro w mg fa h KX G hmg
  refine' K12.all_mk KX G hmg ?q0 ?q1 ?q2 ?q3 ?q4 ?q5 ?q6 ?q7 ?q8 ?q9 ?qa ?qb ?qc ?qd ?qe ?qf ?qg ?qh ?qi ?qj ?qk ?ql ?qm ?qn ?qo ?qp ?qq ?qr ?qs ?qt ?qu ?qv ?qw ?qx ?qy ?qz ?q10 ?q11 ?q12 ?q13 ?q14 ?q15 ?q16 ?q17 ?q18 ?q19 ?q1a ?q1b ?q1c ?q1d ?q1e ?q1f ?q1g ?q1h ?q1i ?q1j ?q1k ?q1l ?q1m ?q1n ?q1o ?q1p ?q1q ?q1r
  (case q0|q1|q2|q3|q4|q5|q6|q7|q8|q9|qa|qb|qc|qd|qe|qf|qg|qh|qi|qj|qk|ql|qm|qn|qo|qp|qq|qr|qs|qt|qu|qv|qw|qx|qy=>apply PL.Dn.mk<;>k_is)
  (case qz|q10|q11|q12|q13|q14|q15|q16|q17|q18|q19|q1a|q1b|q1c|q1d|q1e=>k_is)
  (case q1f=>decide +kernel)
  (case q1g=>k_is)
  (case q1h=>decide +kernel)
  (case q1i=>k_is)
  (case q1j=>decide +kernel)
  (case q1k=>k_is)
  (case q1l=>decide +kernel)
  (case q1m=>k_is)
  (case q1n=>decide +kernel)
  (case q1o=>k_is)
  (case q1p=>decide +kernel)
  (case q1q=>k_is)
  (case q1r=>decide +kernel)
