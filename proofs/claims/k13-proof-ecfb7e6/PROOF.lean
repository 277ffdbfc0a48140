import PyProof.Rows.All
import Wide.All
import OpenK.AllK
import Wide.FinOn
import Lean
import PyProof.EqAt
import PyProof.EqKinds
import PyProof.TupleCall
import KE.KRevIter
import PyProof.StationsW
import PyProof.ExcClass2
import PyProof.ExcInit
import PyProof.ExcBaseAll.ValueError
import PyProof.ExcArgsOwn
import OpenK.KMake
import KE.KIsAll
import PyProof.InstStoreFacts
import PyProof.FString2
import KE.KTryMore
import PyProof.NsDelKeeps
import PyProof.Rows.StrSplitJoin
import PyProof.StrLawsTight
import PyProof.ListMulRoad
import PyProof.ZipIter
import PyProof.TupleIter
import PyProof.WalksMore
import KE.KSortAsk
import KE.KSortTup
import KE.KDictLaws
import PyProof.NeKinds
import PyProof.EnumFor
import PyProof.EnumMake
import PyProof.DictItems
import PyProof.Draws
import PyProof.Rows.CallKwBuiltin
import PySem.Challenge.RW_codemend_k13_texts_spoilt
set_option compiler.extract_closed false
set_option linter.all false
def yy:=trivial
noncomputable section
section
open PySem PySem.Spec PySem.Calls PyProof.Rows
def yA:=@wpAny_bind
def yB:=@Heap.get?_push_of_some
def yC:=@List.getElem?_eq_getElem
def yD:=@List.length_map
def yE:=@wpAny_pure
def yF:=@List.getElem?_eq_some_iff
def yG:=@Nat.le_refl
def yH:=@List.length_append
def yI:=@List.mem_cons_of_mem
def yJ:=@List.mem_cons
def yK:=@Heap.get?_push_size
def yL:=@List.getElem?_map
def yM:=@absurd
def yN:=@Heap.lt_size
def yO:=@List.size_toArray
def yP:=@Bool.false_ne_true
def yQ:=@if_neg
def yR:=@List.mem_cons_self
def yS:=@if_pos
def yT:=@List.mem_map
def yU:=@List.mem_append
def yV:=@decide_eq_false
def yW:=@Nat.lt_of_lt_of_le
def yX:=@Bool.and_eq_true
def yY:=@List.all_eq_true
def yZ:=@List.map_cons
def ya:=@List.length_singleton
def yb:=@List.mem_of_getElem?
def yc:=@List.mem_singleton
def yd:=@Nat.ne_of_lt
def ye:=@List.getElem?_set_ne
def yf:=@List.mem_append_right
def yg:=@List.length_cons
def yh:=@PySem.F.plainAttrs_str
def yi:=@PyProof.Rows.boot_isinstance
def yj:=@wpAny_newObj_type
def yk:=@decide_eq_true_eq
def ym:=@List.length_reverse
def yn:=@Array.getElem?_eq_getElem
def yo:=@Nat.zero_le
def yp:=@congrArg
def yq:=@PyProof.Rows.callWith_type1
def yr:=@List.take_of_length_le
def yt:=@List.map_map
def yu:=@List.not_mem_nil
def yw:=@wpAny_field
def yx:=@wpAny_mono
def yz:=@Nat.le_trans
def YA:=@Heap.get?_update_other
def YB:=@decide_eq_true
def YC:=@List.map_congr_left
def YD:=@List.nodup_cons
def YE:=@List.map_append
def YF:=@List.find?_cons
def YG:=@List.append_nil
def YH:=@PySem.boot_len
def YI:=@Array.length_toList
def YJ:=@wpAny_call_entry
def YK:=@List.length_drop
def YL:=@List.lookup_cons
def YM:=@PySem.F.type_str_join
def YN:=@PySem.F.slot_str_join
def YO:=@Calls.spliced_cons
def YQ:=@List.length_take
def YR:=@Heap.get?_update_self
def YS:=@Nat.lt_irrefl
def YT:=@Heap.size_push
def YU:=@Bool.false_eq_true
def YV:=@PyProof.Rows.boot_tuple
def YW:=@wpAny_holding
def YX:=@wpAny_setField
def YY:=@PySem.F.slot_str_split
def YZ:=@Nat.le_of_lt
def Ya:=@List.getElem?_set_self
def Yb:=@List.count_cons
def Yc:=@List.getElem?_append_left
def Yd:=@List.drop_eq_getElem_cons
def Ye:=@List.getElem_mem
def Yf:=@Nat.ne_of_gt
def Yg:=@wpAny_of_eq
def Yh:=@List.take_succ
def Yi:=@wpAny_truthy_bool
def Yj:=@List.count_append
def Yk:=@List.append_assoc
def Yl:=@Calls.spliced_nil
def Ym:=@List.length_nil
def Yn:=@List.replicate_succ
def Yo:=@List.mem_map_of_mem
def Yp:=@List.drop_eq_nil_of_le
def Yq:=@wpAny_attempt
def Yr:=@wpAny_seqItems
def Ys:=@wpAny_Call_Name_kw
def Yt:=@Obj.data_mapFields
def Yu:=@Array.getElem?_eq_some_iff
def Yv:=@PyProof.Rows.boot_str
def Yw:=@List.getElem?_reverse
def Yx:=@wpAny_execs_nil
def Yy:=@PySem.F.slot_tuple_iterator_next
def Yz:=@List.reverse_cons
def JA:=@List.nodup_append
def JB:=@List.mem_of_mem_drop
def JC:=@PyProof.Rows.slot_tuple_getitem
def JD:=@Option.getD_some
def JE:=@wpAny_typeNameOfWhole_keyiter
def JF:=@List.eq_nil_of_length_eq_zero
def JG:=@wpAny_setField_rec
def JH:=@wpAny_passesOwn
def JI:=@List.nil_append
def JJ:=@Array.getElem?_toList
def JK:=@List.foldl_append
def JL:=@List.flatten_cons
def JM:=@Int.toNat_natCast
end
set_option Elab.async false
set_option maxRecDepth 100000
namespace L2
open PySem PySem.Spec PyProof.Rows
abbrev Key:=Sum Int Str
def zkI:Key->Value->Bool
 | .inl k,v=>Value.isInt k v
 | .inr x,v=>Value.isStrOf x v
def zwy (w:World):Key->Int
 | .inl k=>hashInt k
 | .inr x=>hashStr w x
theorem zbd:∀ {k:Key} {v:Value},zkI k v=true->(∃ i t,k=Sum.inl i/\v=Value.int i t)\/(∃ x t,k=Sum.inr x/\v=Value.str x t)
 | .inl i,v,h=>by
  obtain ⟨t,e⟩:=Value.isInt_shape (k:=i) (v:=v) h; exact .inl ⟨i,t,rfl,e⟩
 | .inr x,v,h=>by
  obtain ⟨t,e⟩:=Value.isStrOf_shape (x:=x) (v:=v) h; exact .inr ⟨x,t,rfl,e⟩
theorem zmd (i:Int) (t:Tok):zkI (.inl i) (.int i t)=true:=by simp [zkI,Value.isInt]
theorem zmc (x:Str) (t:Tok):zkI (.inr x) (.str x t)=true:=by simp [zkI,Value.isStrOf]
theorem zti (a b:Int):decide ((Sum.inl a:Key)=Sum.inl b)=(a == b):=by
 by_cases e:a=b
 ·subst e; simp
 ·have h:¬ (Sum.inl a:Key)=Sum.inl b:=fun q=>e (Sum.inl.inj q)
  rw [yV h]; exact (beq_eq_false_iff_ne.mpr e).symm
theorem ztf (a b:Str):decide ((Sum.inr a:Key)=Sum.inr b)=decide (a=b):=by
 by_cases e:a=b
 ·subst e; simp
 ·have h:¬ (Sum.inr a:Key)=Sum.inr b:=fun q=>e (Sum.inr.inj q)
  rw [yV h,yV e]
theorem zth (a:Int) (b:Str):decide ((Sum.inl a:Key)=Sum.inr b)=false:=yV (fun q=>nomatch q)
theorem ztg (a:Str) (b:Int):decide ((Sum.inr a:Key)=Sum.inl b)=false:=yV (fun q=>nomatch q)
def zbA (prog:Program) (w:World):PySem.KeyKind prog w Key where
 is:=zkI
 hash:=zwy w
 inj:=fun v a b ha hb=>by
  rcases zbd ha with ⟨i,t,rfl,rfl⟩ | ⟨x,t,rfl,rfl⟩
  ·rcases zbd hb with ⟨j,u,rfl,e⟩ | ⟨y,u,rfl,e⟩
   ·injection e with e1 _; rw [e1]
   ·exact nomatch e
  ·rcases zbd hb with ⟨j,u,rfl,e⟩ | ⟨y,u,rfl,e⟩
   ·exact nomatch e
   ·injection e with e1 _; rw [e1]
 byValue:=fun k v h=>by
  rcases zbd h with ⟨i,t,rfl,rfl⟩ | ⟨x,t,rfl,rfl⟩ <;> rfl
 pyHash:=fun hv h=>by
  rcases zbd hv with ⟨i,t,rfl,rfl⟩ | ⟨x,t,rfl,rfl⟩
  ·exact wpAny_pyHash_int h
  ·exact wpAny_pyHash_str h
 eqBool:=fun hu hv h=>by
  rcases zbd hu with ⟨i,t,rfl,rfl⟩ | ⟨x,t,rfl,rfl⟩
  ·rcases zbd hv with ⟨j,u,rfl,rfl⟩ | ⟨y,u,rfl,rfl⟩
   ·rw [zti] at h; exact wpAny_eqBool_int h
   ·rw [zth] at h; exact SeqAt.EqAt.int_str i t y u _ _ _ _ h
  ·rcases zbd hv with ⟨j,u,rfl,rfl⟩ | ⟨y,u,rfl,rfl⟩
   ·rw [ztg] at h; exact SeqAt.EqAt.str_int x t j u _ _ _ _ h
   ·rw [ztf] at h; exact wpAny_eqBool_str h
 «strs»:=fun k x t v h=>by
  rcases zbd h with ⟨i,u,rfl,e⟩ | ⟨y,u,rfl,e⟩
  ·exact nomatch e
  ·injection e with e1 _
   subst e1
   cases v <;> rfl
theorem ziU (prog:Program) (w:World) (i:Int) (t:Tok):(zbA prog w).is (.inl i) (.int i t)=true:=zmd i t
theorem ziT (prog:Program) (w:World) (x:Str) (t:Tok):(zbA prog w).is (.inr x) (.str x t)=true:=zmc x t
inductive V where
 | non | bl (b:Bool) | int (i:Int) | str (x:Str) | byt (b:Array UInt8) | flt (b:UInt64) | ref (a:Addr) | ty (n:String)
 deriving DecidableEq
def zbo:V->Value->Prop
 | .non,u=>u=Value.none
 | .bl b,u=>u=Value.bool b
 | .int i,u=>∃ t,u=Value.int i t
 | .str x,u=>∃ t,u=Value.str x t
 | .byt b,u=>∃ t,u=Value.bytes b t
 | .flt b,u=>∃ t,u=Value.float b t
 | .ref a,u=>u=Value.ref a
 | .ty n,u=>u=Value.type n
abbrev za7:List V->List Value->Prop:=Paired zbo
theorem za7.length {xs:List V} {us:List Value} (r:za7 xs us):xs.length=us.length:=Paired.length r
theorem za7.get:∀ {xs:List V} {us:List Value} {i:Nat} {x:V},za7 xs us->xs[i]?=some x->∃ u,us[i]?=some u/\zbo x u
 | _,_,_,_,.nil,e=>by simp at e
 | _,_,0,_,.cons r _,e=>by simp at e; subst e; exact ⟨_,rfl,r⟩
 | _,_,i+1,x,.cons _ t,e=>by
  obtain ⟨u,h1,h2⟩:=za7.get (i:=i) (x:=x) t (by simpa using e)
  exact ⟨u,by simpa using h1,h2⟩
theorem za7.append:∀ {xs ys:List V} {us ws:List Value},za7 xs us->za7 ys ws->za7 (xs ++ ys) (us ++ ws)
 | _,_,_,_,.nil,s=>s
 | _,_,_,_,.cons r t,s=>.cons r (za7.append t s)
theorem za7.take:∀ {xs:List V} {us:List Value} (n:Nat),za7 xs us->za7 (xs.take n) (us.take n)
 | _,_,0,_=>.nil
 | _,_,_+1,.nil=>.nil
 | _,_,n+1,.cons r t=>.cons r (za7.take n t)
theorem za7.drop:∀ {xs:List V} {us:List Value} (n:Nat),za7 xs us->za7 (xs.drop n) (us.drop n)
 | _,_,0,r=>r
 | _,_,_+1,.nil=>.nil
 | _,_,n+1,.cons _ t=>za7.drop n t
def zmQ:Option V->Option Value->Prop
 | some v,some u=>zbo v u
 | none,none=>True
 | _,_=>False
def KV {κ:Type}:List (κ × V)->List (κ × Value)->Prop:=Paired fun (p:κ × V) (q:κ × Value)=>p.1=q.1/\zbo p.2 q.2
def kV:Key->V
 | .inl i=>.int i
 | .inr x=>.str x
inductive HO where
 | lst (xs:List V)
 | tup (xs:List V)
 | dK (kvs:List (Key × V)) | dT (kvs:List (List Key × V))
 | dE (kvs:List (List Key × V)) (ep:Nat)
 | set (S:Int->Bool) (n:Nat)
 | ins (C dx:Addr) (fs:List (Str × V))
 | own (x:Addr)
 | xd (fs:List (Str × V))
 | met (f x:Addr)
 | rng (lo hi:Int)
 | frz (o:Obj) (u:HO)
 | tbl (ps:Array Value)
 | ext (φ:Heap->Prop)
abbrev zvz:HO:=.ext fun _=>True
def zoL:List V ⊕ Obj->HO
 | .inl xs=>.tup xs
 | .inr o=>.frz o zvz
abbrev Hp:=Addr->Option HO
def upd (H:Hp) (a:Addr) (o:HO):Hp:=fun b=>if b=a then some o else H b
theorem zv {H:Hp} {a:Addr} {o:HO}:upd H a o a=some o:=by unfold upd; rw [yS rfl]
theorem zI {H:Hp} {a b:Addr} {o:HO} (h:b≠a):upd H a o b=H b:=by unfold upd; rw [yQ h]
theorem zq2 {H:Hp} {a b:Addr} {o u:HO} (h:H a=some o) (h':H b=some u) (d:o≠u):a≠b:=by
 intro e; subst e; rw [h] at h'; exact d (Option.some.inj h')
theorem za3 {H:Hp} {a b:Addr} {o:HO} (h:H a=some o) (h':H b=none):a≠b:=by
 intro e; subst e; rw [h] at h'; cases h'
section
variable (P:Program) (w:World)
def zbM (H:Hp) (h:Heap) (a:Addr):HO->Prop
 | .lst xs=>xs.length<=sizeLine/\∃ (its:List Value) (n:Nat),za7 xs its/\h.get? a=some { cls:=.type "list",data:=.seq its.toArray n }
 | .tup xs=>xs.length<=sizeLine/\∃ its:List Value,za7 xs its/\IsTup h a its.toArray
 | .dK kvs=>kvs.length<=sizeLine/\(a == sysModules)=false/\∃ vs,KV kvs vs/\h.DictOf (zbA P w) a vs
 | .dT kvs=>kvs.length<=sizeLine/\(a == sysModules)=false/\∃ xs:List (List Key × Addr × Value),
   Paired (fun (p:List Key × V) (q:List Key × Addr × Value)=>p.1=q.1/\H q.2.1=some (.tup (p.1.map kV))/\zbo p.2 q.2.2) kvs xs /\
   ∃ o es ep,h.get? a=some o/\o.ExactDict/\o.data=.dict es ep/\es.toList=xs.map (entryOfKey (tupleKind (zbA P w)))/\(xs.map (·.1)).Nodup
 | .dE kvs ep=>kvs.length<=sizeLine/\(a == sysModules)=false/\∃ xs:List (List Key × Addr × Value),
   Paired (fun (p:List Key × V) (q:List Key × Addr × Value)=>p.1=q.1/\H q.2.1=some (.tup (p.1.map kV))/\zbo p.2 q.2.2) kvs xs /\
   ∃ o es,h.get? a=some o/\o.ExactDict/\o.data=.dict es ep/\es.toList=xs.map (entryOfKey (tupleKind (zbA P w)))/\(xs.map (·.1)).Nodup
 | .set S n=>h.SetOf (intKind P w) a S n
 | .ins C dx fs=>H dx=some (.own a)/\fs.length<=1000/\dx≠a/\h.get? a=some (W.instObj C dx) /\
   ∃ mA,h.Ns1 dx mA/\(∀ f,zmQ (fs.lookup f) (mA f))/\PySem.Within mA (fs.map (·.1))
 | .own _=>∃ o,h.get? a=some o
 | .xd fs=>∃ mA,h.Ns1 a mA/\∀ f,zmQ (fs.lookup f) (mA f)
 | .rng lo hi=>∃ t u v,h.get? a=some { cls:=.type "range",data:=.fields #[.int lo t,.int hi u,.int 1 v] }
 | .frz o u=>h.get? a=some o/\zbM H h a u
 | .tbl ps=>∃ ts:Array Value,h.get? a=some { cls:=.none,data:=.fields ts }/\TriplesOk ts.toList/\∀ pos cv,codeAmong pos ts.toList=some cv->∃ c oc vs t q t0,cv=.ref c/\H c=some (zoL (.inr oc))/\oc.data=.fields vs/\vs[1]?=some (.str q t)/\ps[0]?=some (.str q t0)
 | .met f x=>h.get? a=some (W.methodObj (.ref f) (.ref x))
 | .ext φ=>φ h/\(∃ o,h.get? a=some o)/\∀ h1 h2:Heap,φ h1->(∀ o,h1.get? a=some o->h2.get? a=some o)->φ h2
def HOk (H:Hp) (h:Heap):Prop:=∀ a o,H a=some o->zbM P w H h a o
end
section
variable {P:Program} {w:World} {H H':Hp} {h h':Heap} {a:Addr} {o:HO}
theorem zbM.lt (x:zbM P w H h a o):a<h.objs.size:=by
 cases o with
 | lst xs=>obtain ⟨_,_,_,_,e⟩:=x; exact yN e
 | tup xs=>obtain ⟨_,_,_,p⟩:=x; exact p.lt
 | dK kvs=>obtain ⟨_,_,_,_,o,_,_,e,_⟩:=x; exact yN e
 | dT kvs=>obtain ⟨_,_,_,_,o,_,_,e,_⟩:=x; exact yN e
 | dE kvs ep=>obtain ⟨_,_,_,_,o,_,e,_⟩:=x; exact yN e
 | set S n=>obtain ⟨o,_,_,_,e,_⟩:=x; exact yN e
 | ins C dx fs=>obtain ⟨_,_,_,e,_⟩:=x; exact yN e
 | own y=>obtain ⟨_,e⟩:=x; exact yN e
 | xd fs=>obtain ⟨_,⟨_,_,_,e,_⟩,_⟩:=x; exact yN e
 | rng lo hi=>obtain ⟨_,_,_,e⟩:=x; exact yN e
 | frz ob u=>obtain ⟨e,_⟩:=x; exact yN e
 | tbl ps=>obtain ⟨_,e,_⟩:=x; exact yN e
 | met f y=>exact yN (show h.get? a=some _ from x)
 | ext φ=>obtain ⟨_,⟨_,e⟩,_⟩:=x; exact yN e
theorem Paired.mapP {α β:Type} {F G:α->β->Prop}:∀ {l₁:List α} {l₂:List β},Paired F l₁ l₂->(∀ a b,F a b->G a b)->Paired G l₁ l₂
 | _,_,.nil,_=>.nil
 | _,_,.cons r t,f=>.cons (f _ _ r) (Paired.mapP t f)
theorem zbM.stay (x:zbM P w H h a o) (k:∀ b u,(b=a\/H b=some (.own a))->h.get? b=some u->h'.get? b=some u)
  (ho:∀ b,H b=some (.own a)->H' b=some (.own a)) (ht:∀ b xs,H b=some (zoL xs)->H' b=some (zoL xs)):zbM P w H' h' a o:=by
 induction o with
 | lst xs=>obtain ⟨z,its,n,r,e⟩:=x; exact ⟨z,its,n,r,k _ _ (.inl rfl) e⟩
 | tup xs=>obtain ⟨z,its,r,ob,e,c⟩:=x; exact ⟨z,its,r,ob,k _ _ (.inl rfl) e,c⟩
 | dK kvs=>obtain ⟨z,y,vs,r,ob,es,ep,e,c⟩:=x; exact ⟨z,y,vs,r,ob,es,ep,k _ _ (.inl rfl) e,c⟩
 | dT kvs =>
  obtain ⟨z,y,xs,r,ob,es,ep,e,c⟩:=x
  exact ⟨z,y,xs,Paired.mapP r fun p q z=>⟨z.1,ht _ (.inl _) z.2.1,z.2.2⟩,ob,es,ep,k _ _ (.inl rfl) e,c⟩
 | dE kvs ep =>
  obtain ⟨z,y,xs,r,ob,es,e,c⟩:=x
  exact ⟨z,y,xs,Paired.mapP r fun p q z=>⟨z.1,ht _ (.inl _) z.2.1,z.2.2⟩,ob,es,k _ _ (.inl rfl) e,c⟩
 | set S n=>obtain ⟨ob,es,ep,t,e,c⟩:=x; exact ⟨ob,es,ep,t,k _ _ (.inl rfl) e,c⟩
 | ins C dx fs =>
  obtain ⟨d,z,ne,e,mA,⟨od,es,ep,e2,c⟩,r⟩:=x
  exact ⟨ho _ d,z,ne,k _ _ (.inl rfl) e,mA,⟨od,es,ep,k _ _ (.inr d) e2,c⟩,r⟩
 | own y=>obtain ⟨ob,e⟩:=x; exact ⟨ob,k _ _ (.inl rfl) e⟩
 | xd fs=>obtain ⟨mA,⟨od,es,ep,e,c⟩,r⟩:=x; exact ⟨mA,⟨od,es,ep,k _ _ (.inl rfl) e,c⟩,r⟩
 | rng lo hi=>obtain ⟨t,u,v,e⟩:=x; exact ⟨t,u,v,k _ _ (.inl rfl) e⟩
 | frz ob u ih=>obtain ⟨e,q⟩:=x; exact ⟨k _ _ (.inl rfl) e,ih q⟩
 | tbl ps=>obtain ⟨ts,e,t,c⟩:=x; exact ⟨ts,k _ _ (.inl rfl) e,t,fun pos cv z=>let ⟨c,oc,vs,t,q,t0,z1,z2,z3⟩:=c pos cv z; ⟨c,oc,vs,t,q,t0,z1,ht _ _ z2,z3⟩⟩
 | met f y =>
  have e:h.get? a=some (W.methodObj (.ref f) (.ref y)):=x
  show h'.get? a=some (W.methodObj (.ref f) (.ref y))
  exact k a _ (.inl rfl) e
 | ext φ=>obtain ⟨p,⟨o,e⟩,st⟩:=x; exact ⟨st _ _ p fun o q=>k _ _ (.inl rfl) q,⟨o,k _ _ (.inl rfl) e⟩,st⟩
theorem HOk.lt (x:HOk P w H h) (e:H a=some o):a<h.objs.size:=(x a o e).lt
theorem HOk.fresh (x:HOk P w H h) (e:h.objs.size<=a):H a=none:=by
 cases q:H a with
 | none=>rfl
 | some u=>exact yM (yW (x.lt q) e) (YS _)
theorem HOk.kept (x:HOk P w H h) (k:∀ b u,h.get? b=some u->h'.get? b=some u):HOk P w H h':=fun a o e =>
 (x a o e).stay (fun b u _ q=>k b u q) (fun _ q=>q) fun _ _ q=>q
theorem HOk.laid (x:HOk P w H h) (k:∀ b u,h.get? b=some u->h'.get? b=some u) (hp:h.objs.size<=a) (new:zbM P w (upd H a o) h' a o):HOk P w (upd H a o) h':=fun b u e=>by
 have hn:=x.fresh hp
 by_cases hb:b=a
 ·subst hb; rw [zv] at e; cases e; exact new
 ·rw [zI hb] at e
  exact (x b u e).stay (fun c v _ q=>k c v q) (fun c q=>by rw [zI (za3 q hn)]; exact q) fun c xs q=>by rw [zI (za3 q hn)]; exact q
end
def Rd (H:Hp) (a:Addr) (u:HO):Prop:=H a=some u\/∃ o,H a=some (.frz o u)
theorem Rd.ok {P:Program} {w:World} {H:Hp} {h:Heap} {a:Addr} {u:HO} (r:Rd H a u) (x:HOk P w H h):zbM P w H h a u:=by
 rcases r with r | ⟨o,r⟩
 ·exact x a u r
 ·obtain ⟨_,q⟩:=x a _ r
  exact q
def Mut:Option HO->Prop
 | some (.lst _)=>True
 | some (.dK _)=>True
 | some (.dT _)=>True
 | some (.dE _ _)=>True
 | some (.set _ _)=>True
 | some (.ins _ _ _)=>True
 | some (.ext _)=>True
 | _=>False
section
variable {P:Program} {w:World} {H:Hp} {h h':Heap} {x e:Addr} {o':HO}
theorem HOk.write (ok:HOk P w H h) (mu:Mut (H x)) (he:e=x\/H e=some (.own x)) (k:∀ b u,b≠e->h.get? b=some u->h'.get? b=some u) (heo:∃ u,h'.get? e=some u)
  (new:zbM P w (upd H x o') h' x o'):HOk P w (upd H x o') h':=fun b u q=>by
 have nown:∀ c y,H c=some (.own y)->c≠x:=fun c y r z=>by subst z; rw [r] at mu; exact mu
 have ntup:∀ c xs,H c=some (zoL xs)->c≠x:=fun c xs r z=>by subst z; rw [r] at mu; cases xs <;> exact mu
 by_cases hb:b=x
 ·subst hb; rw [zv] at q; cases q; exact new
 ·rw [zI hb] at q
  by_cases hbe:b=e
  ·have q':H b=some (.own x):=by
    rcases he with z | z
    ·exact yM (hbe.trans z) hb
    ·rw [hbe]; exact z
   rw [q] at q'; cases q'
   obtain ⟨v,hv⟩:=heo
   exact ⟨v,by rw [hbe]; exact hv⟩
  ·refine (ok b u q).stay (fun c v hc r=>k c v ?_ r) (fun c r=>by rw [zI (nown c b r)]; exact r) fun c xs r=>by rw [zI (ntup c xs r)]; exact r
   rcases hc with rfl | hc
   ·exact hbe
   ·rintro rfl
    rcases he with z | z
    ·exact nown c b hc z
    ·rw [hc] at z; cases z; exact hb rfl
end
structure Un (fs ex:List Addr) (H H':Hp) (h h':Heap):Prop where
 keep:∀ b o,h.get? b=some o->H b=none->b ∉ fs->b ∉ ex->h'.get? b=some o
 slot:∀ b o,h.get? b=some o->H b=none->b ∈ fs->b ∉ ex->∃ sl,h'.get? b=some { o with slots:=sl }
 free:∀ b o,h.get? b=some o->H b=none->b ∉ ex->H' b=none
 there:∀ b o,h.get? b=some o->b ∉ ex->∃ o',h'.get? b=some o'
 tups:∀ b xs,H b=some (.tup xs)->H' b=some (.tup xs)
 frzs:∀ b o u,H b=some (.frz o u)->H' b=some (.frz o u)
 tbls:∀ b ps,H b=some (.tbl ps)->∃ more,H' b=some (.tbl (ps ++ more))
section
variable {fs fs' ex ex':List Addr} {H H1 H2:Hp} {h h1 h2 h':Heap} {a x e:Addr} {o:HO}
theorem Un.any (u:Un fs ex H H1 h h1) {b:Addr} {ob:Obj} (q:h.get? b=some ob) (n:H b=none) (hx:b ∉ ex):∃ sl,h1.get? b=some { ob with slots:=sl }:=by
 by_cases hb:b ∈ fs
 ·exact u.slot b ob q n hb hx
 ·exact ⟨ob.slots,u.keep b ob q n hb hx⟩
theorem Un.kept (k:∀ b u,h.get? b=some u->h'.get? b=some u):Un fs ex H H h h' :=
 ⟨fun b ob q _ _ _=>k b ob q,fun b ob q _ _ _=>⟨ob.slots,k b ob q⟩,fun _ _ _ n _=>n,fun b ob q _=>⟨ob,k b ob q⟩,fun _ _ q=>q,fun _ _ _ q=>q,fun _ ps q=>⟨#[],by rw [q]; simp⟩⟩
theorem Un.refl:Un fs ex H H h h:=Un.kept fun _ _ q=>q
theorem Un.laid (k:∀ b u,h.get? b=some u->h'.get? b=some u) (hp:h.objs.size<=a) (hn:H a=none):Un fs ex H (upd H a o) h h' where
 keep:=fun b u q _ _ _=>k b u q
 slot:=fun b u q _ _ _=>⟨u.slots,k b u q⟩
 free:=fun b u q n _=>by rw [zI (yd (yW (yN q) hp))]; exact n
 there:=fun b u q _=>⟨u,k b u q⟩
 tups:=fun b xs q=>by rw [zI (za3 q hn)]; exact q
 frzs:=fun b u xs q=>by rw [zI (za3 q hn)]; exact q
 tbls:=fun b ps q=>⟨#[],by rw [zI (za3 q hn),q]; simp⟩
theorem Un.write (mu:Mut (H x)) (he:e=x\/H e=some (.own x)) (k:∀ b u,b≠e->h.get? b=some u->h'.get? b=some u) (heo:∃ u,h'.get? e=some u):Un fs ex H (upd H x o) h h':=by
 have hx:∀ b,H b=none->b≠x:=fun b n z=>by subst z; rw [n] at mu; exact mu
 have hb:∀ b,H b=none->b≠e:=fun b n z=>by
  subst z
  rcases he with r | r
  ·exact hx b n r
  ·rw [n] at r; cases r
 have hm:∀ b u,H b=some u->¬ Mut (some u)->b≠x:=fun b u q nm z=>by subst z; rw [q] at mu; exact nm mu
 refine ⟨fun b u q n _ _=>k b u (hb b n) q,fun b u q n _ _=>⟨u.slots,k b u (hb b n) q⟩,fun b u q n _=>by rw [zI (hx b n)]; exact n,fun b u q _=>?_,
  fun b xs q=>by rw [zI (hm b _ q fun z=>z)]; exact q,fun b u xs q=>by rw [zI (hm b _ q fun z=>z)]; exact q,fun b ps q=>⟨#[],by rw [zI (hm b _ q fun z=>z),q]; simp⟩⟩
 by_cases hbe:b=e
 ·subst hbe; exact heo
 ·exact ⟨u,k b u hbe q⟩
end
def zrH (g h:Heap) (L:Addr):List (Addr × Obj):=(List.range h.objs.size).filterMap fun a=>if a=L\/(g.get? a).isSome=true then none else (h.get? a).map fun o=>(a,o)
def zba (g h:Heap) (L d:Addr):List (Addr × Obj):=(zrH g h L).filter fun p=>decide (p.1≠d)
def znj (q:Str):Obj:=⟨.str q 0,none,.freed,#[]⟩
def zkR (base:Heap) (H:Hp):Prop:=∀ P q,base.objs[P]?=some (znj q)->∃ ps,H P=some (.tbl ps)/\ps[0]?=some (.str q 0)
theorem zkR.un {base:Heap} {H H':Hp} (t:zkR base H) (u:∀ b ps,H b=some (.tbl ps)->∃ more,H' b=some (.tbl (ps ++ more))):zkR base H':=fun P q e=>by
 obtain ⟨ps,e1,e2⟩:=t P q e; obtain ⟨more,e3⟩:=u P ps e1; refine ⟨_,e3,?_⟩
 rw [Array.getElem?_append_left (by rw [Yu] at e2; exact e2.1)]
 exact e2
def zue:Obj:=⟨.none,none,.freed,#[]⟩
def zog (o:Obj):Option HO->Obj
 | some (.tbl ps)=>match (ps[0]?:Option Value) with
  | some (.str q 0)=>znj q
  | _=>zue
 | some _=>zue
 | none=>match o.data with
  | .freed=>zue
  | _=>o
def nrm (h:Heap) (H:Hp):Heap:=⟨h.objs.mapIdx fun a o=>zog o (H a),h.life⟩
theorem zof (h:Heap) (H:Hp):(nrm h H).objs.size=h.objs.size:=by unfold nrm; simp
theorem zlW (h:Heap) (H:Hp) (b:Addr):(nrm h H).objs[b]?=(h.objs[b]?).map fun o=>zog o (H b):=by unfold nrm; simp
theorem zfI {h:Heap} {b:Addr} {o:Obj} (e:h.objs[b]?=some o) (n:o.data≠.freed):h.get? b=some o:=by
 unfold Heap.get?
 rw [e]; obtain ⟨c,d,dt,sl⟩:=o
 cases dt <;> first | rfl | exact yM rfl n
theorem zfx {h:Heap} {b:Addr} {o:Obj} (e:h.get? b=some o):h.objs[b]?=some o/\o.data≠.freed:=by
 unfold Heap.get? at e
 cases q:h.objs[b]? with
 | none=>rw [q] at e; cases e
 | some u =>
  rw [q] at e; obtain ⟨c,d,dt,sl⟩:=u
  cases dt <;> first | (cases e; exact ⟨rfl,fun z=>nomatch z⟩) | cases e
theorem zqZ {h:Heap} {H:Hp} {b:Addr} {o:Obj} (e:h.get? b=some o) (n:H b=none):(nrm h H).get? b=some o:=by
 obtain ⟨e1,e2⟩:=zfx e; refine zfI ?_ e2; rw [zlW,e1,n]
 show some (zog o none)=some o
 obtain ⟨c,d,dt,sl⟩:=o
 cases dt <;> first | rfl | exact yM rfl e2
theorem zsX {h:Heap} {H:Hp} {b:Addr} {o:Obj} (e:(nrm h H).get? b=some o):h.get? b=some o/\H b=none:=by
 obtain ⟨e1,e2⟩:=zfx e; rw [zlW] at e1
 cases q:h.objs[b]? with
 | none=>rw [q] at e1; cases e1
 | some u =>
  rw [q] at e1
  have e3:zog u (H b)=o:=Option.some.inj e1
  cases z:H b with
  | some t =>
   rw [z] at e3
   exfalso
   unfold zog at e3; split at e3
   ·split at e3 <;> exact e2 (by rw [<- e3]; rfl)
   ·exact e2 (by rw [<- e3]; rfl)
   ·rename_i y; cases y
  | none =>
   rw [z] at e3; refine ⟨?_,rfl⟩; obtain ⟨c,d,dt,sl⟩:=u; unfold zog at e3
   cases dt <;> first | (cases e3; exact zfI q fun y=>nomatch y) | exact yM (show o.data=.freed by rw [<- e3]; rfl) e2
theorem zoe (h:Heap) (H:Hp):zkR (nrm h H) H:=fun P q e=>by
 rw [zlW] at e
 cases z:h.objs[P]? with
 | none=>rw [z] at e; cases e
 | some u =>
  rw [z] at e
  have e3:zog u (H P)=znj q:=Option.some.inj e
  cases y:H P with
  | none =>
   rw [y] at e3
   exfalso
   obtain ⟨c,d,dt,sl⟩:=u; unfold zog znj zue at e3
   cases dt <;> cases e3
  | some t =>
   rw [y] at e3; unfold zog at e3; split at e3
   ·rename_i ps hps
    cases hps; split at e3
    ·rename_i q' hq
     cases e3; exact ⟨_,rfl,hq⟩
    ·cases e3
   ·cases e3
   ·rename_i hh; cases hh
structure Mod (K:W.Frag) (mg:Str->Option Value) (base:Heap):Prop where
 kin:K.In base
 glob:base.Ns mainGlobals mg
 blt:∃ mb,base.Ns builtinsNs mb/\∀ x:Str,x≠"__name__"->mb x=bootBuiltins x
 nolimit:base.NoLimit
 bm:∃ bm ob,mg "__builtins__"=some (.ref bm)/\bm≠builtinsNs/\base.get? bm=some ob/\ob.cls=.type "module"/\ob.dict=some builtinsNs/\ob.data=.plain
/-- the context: a def's body (or a comprehension's block) running. base: fixed through the whole law; s₀, H₀: the entry; outer: the frames whose slots others may change (a def's callers); stack: all frames that run;
   ex: iterators that were made ahead of the entry and are walked here (a comprehension's); fn: the names whose cells were made at the entry (a def: all; a comprehension's block: its own); calm: not within an except suite; pn: pins that every state bears; xe: what is wanted of an exception that leaves the code -/
structure Cx where
 prog:Program
 w:World
 K:W.Frag
 mg:Str->Option Value
 base:Heap
 A:Around
 N:List Str
 s₀:Shared
 H₀:Hp
 env:Env
 outer:List Env
 stack:List Env
 ex:List Addr
 fn:Str->Bool
 calm:Bool
 pn:List (Addr × Obj)
 xe:Value->Shared->Prop
def frs (l:List Env):List Addr:=l.filterMap (·.frame)
abbrev Cx.fs (X:Cx):List Addr:=frs X.outer
def Vis (sc:Scope) (x:Str):Prop:=sc.names.lookup x=some .local\/sc.names.lookup x=some .cell\/sc.names.lookup x=some .free
def Loc (sc:Scope) (x:Str):Prop:=sc.names.lookup x=some .local\/sc.names.lookup x=some .cell
def zwL (env:Env) (h:Heap) (m:Str->Option Value) (x:Str) (u:Value):Prop :=
 (env.kindOf x=some .local/\m x=some u)\/((env.kindOf x=some .cell\/env.kindOf x=some .free)/\∃ c,env.cells.lookup x=some c/\h.IsCell c (some u))
structure Cx.Ok (X:Cx):Prop where
 mod:Mod X.K X.mg X.base
 kind:X.env.scope.kind=.function
 glob:X.env.globals=mainGlobals
 blt:X.env.builtins=builtinsNs
 above:X.s₀.heap.objs.size<=X.env.locals
 inj:∀ x y c,X.env.cells.lookup x=some c->X.env.cells.lookup y=some c->x=y
 has:∀ x,(X.env.kindOf x=some .cell\/X.env.kindOf x=some .free)->∃ c,X.env.cells.lookup x=some c
 cab:∀ x c,X.fn x=true->X.env.cells.lookup x=some c->X.s₀.heap.objs.size<=c
 hd:X.calm=true->X.A.handled=none
 frames:X.A.frames=some X.stack
 stk:X.stack=X.outer\/(X.stack=X.env :: X.outer/\X.env.frame=some X.env.locals)
 exf:∀ b ∈ X.ex,b≠X.env.locals/\∀ x c,X.env.cells.lookup x=some c->c≠b
 bs:∀ b o,X.base.get? b=some o->X.s₀.heap.get? b=some o/\X.H₀ b=none
 bsz:X.base.objs.size<=X.s₀.heap.objs.size
 noex:∀ b o,X.base.get? b=some o->b ∉ X.ex
 exfs:∀ b ∈ X.ex,b ∉ X.fs
 funs:X.s₀.heap.FunFrames X.base X.outer
 frf:∀ b ∈ X.fs,X.H₀ b=none
 tab:zkR X.base X.H₀
structure Inv (X:Cx) (pins:List (Addr × Obj)) (σ:List (Option V)) (H:Hp) (s:Shared):Prop where
 ok:X.Ok
 os:s.os=X.s₀.os
 bare:AllBare s.gens
 base:Un X.fs X.ex X.H₀ H X.s₀.heap s.heap
 loc:∃ m,s.heap.Ns X.env.locals m/\∀ (i:Nat) (x:Str) (v:V),X.N[i]?=some x->σ[i]?=some (some v)->Vis X.env.scope x->∃ u,zbo v u/\zwL X.env s.heap m x u
 cell:∀ x c,X.env.cells.lookup x=some c->∃ v,s.heap.IsCell c v
 free:H X.env.locals=none
 freeC:∀ x c,X.env.cells.lookup x=some c->H c=none
 pin:∀ p ∈ X.pn ++ pins,s.heap.get? p.1=some p.2/\H p.1=none/\p.1≠X.env.locals/\p.1 ∉ X.fs/\∀ v,p.2.data≠.cell v
 hok:HOk X.prog X.w H s.heap
 len:σ.length=X.N.length
section
variable {X:Cx} {pins:List (Addr × Obj)} {σ:List (Option V)} {H H':Hp} {s:Shared} {h':Heap}
theorem Cx.Ok.nofr (ok:X.Ok) {b:Addr} {o:Obj} (e:X.base.get? b=some o):b ∉ X.fs:=fun hb=>by
 have:=(ok.funs.mem hb).1
 rw [e] at this; cases this
theorem Inv.bs (I:Inv X pins σ H s):∀ b o,X.base.get? b=some o->s.heap.get? b=some o/\H b=none:=fun b o e =>
 ⟨I.base.keep b o (I.ok.bs b o e).1 (I.ok.bs b o e).2 (I.ok.nofr e) (I.ok.noex b o e),I.base.free b o (I.ok.bs b o e).1 (I.ok.bs b o e).2 (I.ok.noex b o e)⟩
theorem Inv.bk (I:Inv X pins σ H s):∀ b o,X.base.get? b=some o->s.heap.get? b=some o:=fun b o e=>(I.bs b o e).1
theorem Inv.mod (I:Inv X pins σ H s):Mod X.K X.mg X.base:=I.ok.mod
theorem Inv.kIn (I:Inv X pins σ H s):X.K.In s.heap:=I.ok.mod.kin.keeps I.bk
theorem Inv.lt (I:Inv X pins σ H s):X.env.locals<s.heap.objs.size:=let ⟨_,hn,_⟩:=I.loc; hn.lt
theorem Inv.sz (I:Inv X pins σ H s):X.s₀.heap.objs.size<=s.heap.objs.size:=yz I.ok.above (YZ I.lt)
theorem Inv.nofs (I:Inv X pins σ H s) {a:Addr} (h:s.heap.objs.size<=a):a ∉ X.fs:=fun hb=>by
 obtain ⟨_,o,ho,_⟩:=I.ok.funs.mem hb; exact yM (yW (yN ho) (yz I.sz h)) (YS _)
theorem Inv.cne (I:Inv X pins σ H s):∀ x c,X.env.cells.lookup x=some c->c≠X.env.locals:=fun x c e z=>by
 obtain ⟨v,o,ho,hd⟩:=I.cell x c e
 obtain ⟨m,⟨o',es,ep,ho',hd',_⟩,_⟩:=I.loc
 rw [z,ho'] at ho; cases ho; rw [hd'] at hd; cases hd
theorem Inv.funs (I:Inv X pins σ H s):s.heap.FunFrames X.base X.outer:=by
 have all:∀ (l:List Env),(∀ b ∈ frs l,b ∈ X.fs)->X.s₀.heap.FunFrames X.base l->s.heap.FunFrames X.base l:=by
  intro l
  induction l with
  | nil=>intro _ _; trivial
  | cons env r ih =>
   intro hs hl
   obtain ⟨hk,⟨L,o,hf,hn,ho,hd⟩,hr⟩:=hl
   have hL:L ∈ X.fs:=hs L (by unfold frs; rw [List.filterMap_cons,hf]; exact yR)
   obtain ⟨sl,e⟩:=I.base.slot L o ho (I.ok.frf L hL) hL fun z=>I.ok.exfs L z hL
   exact ⟨hk,⟨L,_,hf,hn,e,hd⟩,ih (fun b hb=>hs b (by unfold frs; rw [List.filterMap_cons,hf]; exact yI _ hb)) hr⟩
 exact all X.outer (fun _ hb=>hb) I.ok.funs
theorem Inv.stack (I:Inv X pins σ H s):s.heap.FunFrames X.base X.stack:=by
 rcases I.ok.stk with e | ⟨e,hf⟩
 ·rw [e]; exact I.funs
 ·rw [e]
  obtain ⟨m,hn,_⟩:=I.loc
  refine .cons (by rw [I.ok.kind]; decide) hf hn ?_ I.funs
  exact Heap.get?_none_of_le (yz I.ok.bsz I.ok.above)
theorem Inv.stkSub (I:Inv X pins σ H s):∀ b ∈ frs X.stack,b ∈ X.env.locals :: X.fs:=fun b hb=>by
 rcases I.ok.stk with e | ⟨e,hf⟩
 ·rw [e] at hb; exact yI _ hb
 ·rw [e] at hb
  unfold frs at hb; rw [List.filterMap_cons,hf] at hb; exact hb
theorem Inv.stkFree (I:Inv X pins σ H s):∀ b ∈ frs X.stack,H b=none:=fun b hb=>by
 rcases yJ.mp (I.stkSub b hb) with e | hb
 ·rw [e]; exact I.free
 ·obtain ⟨_,o,ho,_⟩:=I.ok.funs.mem hb
  exact I.base.free b o ho (I.ok.frf b hb) fun z=>I.ok.exfs b z hb
theorem Inv.step {g':Array GenState} {t':Nat} {d':Drawn} {ch:List Addr} (I:Inv X pins σ H s)
  (hch:∀ b ∈ ch,(b ∈ X.ex\/X.s₀.heap.objs.size<=b)/\b≠X.env.locals/\(∀ x c,X.env.cells.lookup x=some c->c≠b)/\∀ p ∈ X.pn ++ pins,p.1≠b)
  (keep:∀ b o,b≠X.env.locals->b ∉ X.fs->b ∉ ch->s.heap.get? b=some o->H b=none->h'.get? b=some o)
  (slot:∀ b o,b≠X.env.locals->b ∈ X.fs->b ∉ ch->s.heap.get? b=some o->H b=none->∃ sl,h'.get? b=some { o with slots:=sl }) (free:∀ b o,b ∉ ch->s.heap.get? b=some o->H b=none->H' b=none)
  (there:∀ b o,b ∉ ch->s.heap.get? b=some o->∃ o',h'.get? b=some o')
  (tups:∀ b xs,H b=some (.tup xs)->H' b=some (.tup xs)) (frzs:∀ b o u,H b=some (.frz o u)->H' b=some (.frz o u)) (tbls:∀ b ps,H b=some (.tbl ps)->∃ more,H' b=some (.tbl (ps ++ more)))
  (ns:∀ m,s.heap.Ns X.env.locals m->h'.Ns X.env.locals m) (hok:HOk X.prog X.w H' h') (hg:AllBare g') :
  Inv X pins σ H' { s with heap:=h',gens:=g',drawn:=d',toks:=t' }:=by
 have neL:∀ b o,X.s₀.heap.get? b=some o->b≠X.env.locals:=fun b o e=>yd (yW (yN e) I.ok.above)
 have neC:∀ b o,X.s₀.heap.get? b=some o->b ∉ X.ex->b ∉ ch:=fun b o e hx hb=>by
  rcases (hch b hb).1 with z | z
  ·exact hx z
  ·exact yM (yW (yN e) z) (YS _)
 have cellK:∀ x c,X.env.cells.lookup x=some c->∀ v,s.heap.IsCell c v->h'.IsCell c v:=fun x c e v ⟨o,ho,hd⟩=>by
  have nch:c ∉ ch:=fun z=>(hch c z).2.2.1 x c e rfl
  by_cases hc:c ∈ X.fs
  ·obtain ⟨sl,q⟩:=slot c o (I.cne x c e) hc nch ho (I.freeC x c e)
   exact ⟨_,q,hd⟩
  ·exact ⟨o,keep c o (I.cne x c e) hc nch ho (I.freeC x c e),hd⟩
 refine ⟨I.ok,I.os,hg,⟨fun b o e n hb hx=>?_,fun b o e n hb hx=>?_,fun b o e n hx=>?_,fun b o e hx=>?_,fun b xs e=>tups b xs (I.base.tups b xs e),fun b o xs e=>frzs b o xs (I.base.frzs b o xs e),fun b ps e=>?_⟩,?_,fun x c e=>?_,?_,fun x c e=>?_,fun p hp=>?_,hok,I.len⟩
 ·exact keep b o (neL b o e) hb (neC b o e hx) (I.base.keep b o e n hb hx) (I.base.free b o e n hx)
 ·obtain ⟨sl,e1⟩:=I.base.slot b o e n hb hx
  obtain ⟨sl',e2⟩:=slot b _ (neL b o e) hb (neC b o e hx) e1 (I.base.free b o e n hx); exact ⟨sl',e2⟩
 ·obtain ⟨o',e1⟩:=I.base.there b o e hx
  exact free b o' (neC b o e hx) e1 (I.base.free b o e n hx)
 ·obtain ⟨o',e1⟩:=I.base.there b o e hx
  exact there b o' (neC b o e hx) e1
 ·obtain ⟨m1,e1⟩:=I.base.tbls b ps e
  obtain ⟨m2,e2⟩:=tbls b _ e1
  exact ⟨m1 ++ m2,by rw [e2,Array.append_assoc]⟩
 ·obtain ⟨m,hn,hl⟩:=I.loc
  refine ⟨m,ns m hn,fun i x v e1 e2 e3=>?_⟩
  obtain ⟨u,r,l⟩:=hl i x v e1 e2 e3; refine ⟨u,r,?_⟩
  rcases l with l | ⟨k,c,e,z⟩
  ·exact .inl l
  ·exact .inr ⟨k,c,e,cellK x c e _ z⟩
 ·obtain ⟨v,z⟩:=I.cell x c e
  exact ⟨v,cellK x c e v z⟩
 ·obtain ⟨m,⟨o,_,_,ho,_⟩,_⟩:=I.loc
  exact free _ o (fun z=>(hch _ z).2.1 rfl) ho I.free
 ·obtain ⟨v,o,ho,hd⟩:=I.cell x c e
  exact free c o (fun z=>(hch c z).2.2.1 x c e rfl) ho (I.freeC x c e)
 ·obtain ⟨e,n,ne,nf,d⟩:=I.pin p hp
  have nch:p.1 ∉ ch:=fun z=>(hch p.1 z).2.2.2 p hp rfl
  exact ⟨keep p.1 p.2 ne nf nch e n,free p.1 p.2 nch e n,ne,nf,d⟩
theorem Inv.un {t':Nat} (I:Inv X pins σ H s) (u:Un X.fs [] H H' s.heap h') (hok:HOk X.prog X.w H' h'):Inv X pins σ H' { s with heap:=h',toks:=t' }:=by
 obtain ⟨m,⟨o,es,ep,ho,r⟩,_⟩:=id I.loc
 obtain ⟨sl,hL⟩:=u.any ho I.free (by simp)
 exact I.step (g':=s.gens) (d':=s.drawn) (ch:=[]) (fun _ z=>nomatch z) (fun b o _ hb _ e n=>u.keep b o e n hb (by simp)) (fun b o _ hb _ e n=>u.slot b o e n hb (by simp)) (fun b o _ e n=>u.free b o e n (by simp)) (fun b o _ e=>u.there b o e (by simp)) u.tups u.frzs u.tbls (fun m' hm=>by
  obtain ⟨o',es',ep',ho',r'⟩:=hm
  rw [ho] at ho'; cases ho'
  exact ⟨_,es',ep',hL,r'⟩) hok I.bare
theorem Inv.call {g':Array GenState} {t':Nat} {d':Drawn} {ch:List Addr} (I:Inv X pins σ H s) (u:Un (frs X.stack) ch H H' s.heap h') (hok:HOk X.prog X.w H' h') (hg:AllBare g')
  (hch:∀ b ∈ ch,(b ∈ X.ex\/X.s₀.heap.objs.size<=b)/\b≠X.env.locals/\(∀ x c,X.env.cells.lookup x=some c->c≠b)/\∀ p ∈ X.pn ++ pins,p.1≠b) :
  Inv X pins σ H' { s with heap:=h',gens:=g',drawn:=d',toks:=t' }:=by
 obtain ⟨m,⟨o,es,ep,ho,r⟩,_⟩:=id I.loc
 obtain ⟨sl,hL⟩:=u.any ho I.free fun z=>(hch _ z).2.1 rfl
 exact I.step (ch:=ch) hch (fun b o hL hb hc e n=>u.keep b o e n (fun z=>(yJ.mp (I.stkSub b z)).elim hL hb) hc) (fun b o _ _ hc e n=>u.any e n hc) (fun b o hc e n=>u.free b o e n hc) (fun b o hc e=>u.there b o e hc) u.tups u.frzs u.tbls (fun m' hm=>by
  obtain ⟨o',es',ep',ho',r'⟩:=hm
  rw [ho] at ho'; cases ho'
  exact ⟨_,es',ep',hL,r'⟩) hok hg
theorem Inv.turned {t':Nat} {it:Addr} (I:Inv X pins σ H s) (k:∀ b o,b≠it->s.heap.get? b=some o->h'.get? b=some o) (hn:H it=none) (hL:it≠X.env.locals)
  (h1:it ∈ X.ex\/X.s₀.heap.objs.size<=it) (h2:∀ x c,X.env.cells.lookup x=some c->c≠it) (h3:∀ p ∈ X.pn ++ pins,p.1≠it):Inv X pins σ H { s with heap:=h',toks:=t' }:=by
 have nit:∀ b u,H b=some u->b≠it:=fun b u e z=>by rw [z,hn] at e; cases e
 refine I.step (g':=s.gens) (d':=s.drawn) (ch:=[it]) (fun b hb=>?_) (fun b o _ _ hc e _=>k b o (fun z=>hc (by simp [z])) e) (fun b o _ _ hc e _=>⟨o.slots,k b o (fun z=>hc (by simp [z])) e⟩) (fun _ _ _ _ n=>n)
  (fun b o hc e=>⟨o,k b o (fun z=>hc (by simp [z])) e⟩) (fun _ _ e=>e) (fun _ _ _ e=>e) (fun b ps e=>⟨#[],by rw [e]; simp⟩) (fun m hm=>?_) (fun b u e=>?_) I.bare
 ·have e:b=it:=by simpa using hb
  subst e; exact ⟨h1,hL,h2,h3⟩
 ·obtain ⟨o,es,ep,ho,r⟩:=hm
  exact ⟨o,es,ep,k _ o (Ne.symm hL) ho,r⟩
 ·refine (I.hok b u e).stay (fun c v hc q=>k c v ?_ q) (fun _ q=>q) fun _ _ q=>q
  rcases hc with z | z
  ·rw [z]; exact nit b u e
  ·exact nit c _ z
theorem Inv.tok (I:Inv X pins σ H s) (t:Nat):Inv X pins σ H { s with toks:=t }:=I.un (h':=s.heap) (t':=t) Un.refl I.hok
theorem Inv.kept {t':Nat} (I:Inv X pins σ H s) (k:∀ b u,s.heap.get? b=some u->h'.get? b=some u):Inv X pins σ H { s with heap:=h',toks:=t' }:=I.un (Un.kept k) (I.hok.kept k)
theorem Inv.laid {a:Addr} {o:HO} {t':Nat} (I:Inv X pins σ H s) (k:∀ b u,s.heap.get? b=some u->h'.get? b=some u) (hp:s.heap.objs.size<=a) (new:zbM X.prog X.w (upd H a o) h' a o) :
  Inv X pins σ (upd H a o) { s with heap:=h',toks:=t' }:=I.un (Un.laid k hp (I.hok.fresh hp)) (I.hok.laid k hp new)
theorem Inv.write {x e:Addr} {o:HO} {t':Nat} (I:Inv X pins σ H s) (mu:Mut (H x)) (he:e=x\/H e=some (.own x)) (k:∀ b u,b≠e->s.heap.get? b=some u->h'.get? b=some u) (heo:∃ u,h'.get? e=some u)
  (new:zbM X.prog X.w (upd H x o) h' x o):Inv X pins σ (upd H x o) { s with heap:=h',toks:=t' }:=I.un (Un.write mu he k heo) (I.hok.write mu he k heo new)
theorem Inv.pins_of {pins':List (Addr × Obj)} (I:Inv X pins σ H s) (h:∀ p ∈ pins',s.heap.get? p.1=some p.2/\H p.1=none/\p.1≠X.env.locals/\p.1 ∉ X.fs/\∀ v,p.2.data≠.cell v):Inv X pins' σ H s :=
 ⟨I.ok,I.os,I.bare,I.base,I.loc,I.cell,I.free,I.freeC,fun p hp=>(yU.mp hp).elim (fun z=>I.pin p (List.mem_append_left _ z)) (h p),I.hok,I.len⟩
theorem zgY {N:List Str} (hN:N.Nodup) {i j:Nat} {x:Str} (a:N[i]?=some x) (b:N[j]?=some x):i=j:=by
 obtain ⟨h1,e1⟩:=yF.mp a; obtain ⟨h2,e2⟩:=yF.mp b; exact (List.getElem_inj hN).mp (e1.trans e2.symm)
theorem zhq {M:Model} {A:Around} {E:Value->Shared->Prop} {i:Nat} {x:Str} {v:V} {u:Value} {Q:Unit->Shared->Prop} (I:Inv X pins σ H s) (hN:X.N.Nodup) (hi:X.N[i]?=some x) (hx:Loc X.env.scope x) (r:zbo v u)
  (h:∀ s',Inv X pins (σ.set i (some v)) H s'->(∃ a,Heap.SameBut a s.heap s'.heap/\(a=X.env.locals\/X.env.cells.lookup x=some a))->Q () s') (hf:X.fn x=true\/X.env.scope.names.lookup x=some .local:=by first | exact .inl rfl | exact .inr rfl | assumption):wpAny M A (storeName X.env x u) Q E s:=by
 obtain ⟨m,hn,hl⟩:=id I.loc
 have hcls:(X.env.scope.kind == .class || (X.env.scope.kind == .module && X.env.locals != X.env.globals))=false:=by rw [I.ok.kind]; rfl
 have hiσ:i<σ.length:=by rw [I.len]; exact (yF.mp hi).1
 have cne:=I.cne
 have tracked:∀ {a:Addr} {h':Heap},(∃ o,s.heap.get? a=some o/\H a=none)->Heap.SameBut a s.heap h'->HOk X.prog X.w H h':=fun {a h'} ha hs b ob e=>by
  obtain ⟨_,_,hfree⟩:=ha
  refine (I.hok b ob e).stay (fun c w' hc q=>(hs.2 c ?_).trans q) (fun _ q=>q) fun _ _ q=>q
  rintro rfl
  rcases hc with rfl | hc
  ·rw [hfree] at e; cases e
  ·rw [hfree] at hc; cases hc
 rcases hx with hk | hk
 ·refine wpAny_storeName_local hk hn (fun h' hn' hs=>?_) hcls
  obtain ⟨oL,_,_,hoL,_⟩:=id hn
  refine h _ ⟨I.ok,I.os,I.bare,⟨fun b o e n hb hx=>?_,fun b o e n hb hx=>?_,I.base.free,fun b o e hx=>?_,I.base.tups,I.base.frzs,I.base.tbls⟩,⟨_,hn',fun j y v' e1 e2 e3=>?_⟩,fun y c e=>?_,I.free,I.freeC,fun p hp=>?_,tracked ⟨oL,hoL,I.free⟩ hs,by simpa using I.len⟩ ⟨_,hs,.inl rfl⟩
  ·exact (hs.2 b (yd (yW (yN e) I.ok.above))).trans (I.base.keep b o e n hb hx)
  ·obtain ⟨sl,e1⟩:=I.base.slot b o e n hb hx
   exact ⟨sl,(hs.2 b (yd (yW (yN e) I.ok.above))).trans e1⟩
  ·obtain ⟨o',e1⟩:=I.base.there b o e hx
   exact ⟨o',(hs.2 b (yd (yW (yN e) I.ok.above))).trans e1⟩
  ·by_cases hj:j=i
   ·subst hj
    rw [hi] at e1; cases e1
    rw [Ya hiσ] at e2; cases e2
    exact ⟨u,r,.inl ⟨hk,by simp⟩⟩
   ·rw [ye (Ne.symm hj)] at e2
    obtain ⟨u',r',q⟩:=hl j y v' e1 e2 e3; refine ⟨u',r',?_⟩
    rcases q with ⟨k,e⟩ | ⟨k,c,e,z⟩
    ·refine .inl ⟨k,?_⟩
     have:y≠x:=fun e=>hj (zgY hN e1 (e ▸ hi))
     simp [this,e]
    ·exact .inr ⟨k,c,e,z.sameBut hs (cne y c e)⟩
  ·obtain ⟨w',z⟩:=I.cell y c e
   exact ⟨w',z.sameBut hs (cne y c e)⟩
  ·obtain ⟨e,n,ne,nf,d⟩:=I.pin p hp
   exact ⟨(hs.2 p.1 ne).trans e,n,ne,nf,d⟩
 ·have hfn:X.fn x=true:=by
   rcases hf with z | z
   ·exact z
   ·rw [z] at hk; cases hk
  obtain ⟨c,hc⟩:=I.ok.has x (.inl hk); obtain ⟨w',z⟩:=I.cell x c hc
  refine wpAny_storeName_cell I.ok.kind hk hc z (fun h' hc' hs=>?_)
  obtain ⟨oc,hoc,hocd⟩:=id z
  refine h { s with heap:=h' } ⟨I.ok,I.os,I.bare,⟨fun b o e n hb hx=>?_,fun b o e n hb hx=>?_,I.base.free,fun b o e hx=>?_,I.base.tups,I.base.frzs,I.base.tbls⟩,⟨m,hn.sameBut hs (Ne.symm (cne x c hc)),fun j y v' e1 e2 e3=>?_⟩,fun y c' e=>?_,I.free,I.freeC,fun p hp=>?_,tracked ⟨oc,hoc,I.freeC x c hc⟩ hs,by simpa using I.len⟩ ⟨c,hs,.inr hc⟩
  ·exact (hs.2 b (yd (yW (yN e) (I.ok.cab x c hfn hc)))).trans (I.base.keep b o e n hb hx)
  ·obtain ⟨sl,e1⟩:=I.base.slot b o e n hb hx
   exact ⟨sl,(hs.2 b (yd (yW (yN e) (I.ok.cab x c hfn hc)))).trans e1⟩
  ·obtain ⟨o',e1⟩:=I.base.there b o e hx
   exact ⟨o',(hs.2 b (yd (yW (yN e) (I.ok.cab x c hfn hc)))).trans e1⟩
  ·by_cases hj:j=i
   ·subst hj
    rw [hi] at e1; cases e1
    rw [Ya hiσ] at e2; cases e2; exact ⟨u,r,.inr ⟨.inl hk,c,hc,hc'⟩⟩
   ·rw [ye (Ne.symm hj)] at e2
    obtain ⟨u',r',q⟩:=hl j y v' e1 e2 e3; refine ⟨u',r',?_⟩
    rcases q with q | ⟨k,c',e,z'⟩
    ·exact .inl q
    ·refine .inr ⟨k,c',e,z'.sameBut hs ?_⟩
     rintro rfl
     exact hj (zgY hN e1 (I.ok.inj _ _ _ e hc ▸ hi))
  ·by_cases hcc:c'=c
   ·subst hcc; exact ⟨_,hc'⟩
   ·obtain ⟨w2,z2⟩:=I.cell y c' e
    exact ⟨w2,z2.sameBut hs hcc⟩
  ·obtain ⟨e,n,ne,nf,d⟩:=I.pin p hp
   refine ⟨(hs.2 p.1 ?_).trans e,n,ne,nf,d⟩; intro q; rw [q,hoc] at e
   have q':oc=p.2:=Option.some.inj e
   exact d w' (by rw [<- q']; exact hocd)
theorem zd5 {M:Model} {A:Around} {E:Value->Shared->Prop} {i:Nat} {x:Str} {v:V} {u:Value} {Q:Unit->Shared->Prop} (I:Inv X pins σ H s) (hN:X.N.Nodup) (hi:X.N[i]?=some x) (hx:Loc X.env.scope x) (r:zbo v u)
  (h:∀ s',Inv X pins (σ.set i (some v)) H s'->Q () s') (hf:X.fn x=true\/X.env.scope.names.lookup x=some .local:=by first | exact .inl rfl | exact .inr rfl | assumption):wpAny M A (storeName X.env x u) Q E s :=
 zhq I hN hi hx r (fun s' I' _=>h s' I') hf
theorem Inv.call' {s':Shared} {ch:List Addr} (I:Inv X pins σ H s) (ho:s'.os=s.os) (u:Un (frs X.stack) ch H H' s.heap s'.heap) (hok:HOk X.prog X.w H' s'.heap) (hg:AllBare s'.gens)
  (hch:∀ b ∈ ch,(b ∈ X.ex\/X.s₀.heap.objs.size<=b)/\b≠X.env.locals/\(∀ x c,X.env.cells.lookup x=some c->c≠b)/\∀ p ∈ X.pn ++ pins,p.1≠b):Inv X pins σ H' s':=by
 obtain ⟨h',g',d',t',o'⟩:=s'
 have e:o'=s.os:=ho
 subst e; exact I.call (g':=g') (t':=t') (d':=d') u hok hg hch
end
abbrev XK:=Value->Option Addr->Hp->Prop
abbrev St:=List (Option V)
abbrev VK:=V->Hp->Prop
abbrev TE:=St->Hp->VK->Prop
abbrev TT:=St->Hp->(Bool->Hp->Prop)->Prop
abbrev TA:=St->Hp->(List V->Hp->Prop)->Prop
structure Ends where
 nx:St->Hp->Prop
 rt:VK
 bk:St->Hp->Prop:=fun _ _=>False
 ct:St->Hp->Prop:=fun _ _=>False
abbrev TS:=Ends->St->Hp->Prop
def EP (X:Cx) (pins:List (Addr × Obj)) (σ:St) (Q:VK) (u:Value) (s':Shared):Prop:=∃ v H',Inv X pins σ H' s'/\zbo v u/\Q v H'
def TP (X:Cx) (pins:List (Addr × Obj)) (σ:St) (Q:Bool->Hp->Prop) (b:Bool) (s':Shared):Prop:=∃ H',Inv X pins σ H' s'/\Q b H'
def AP (X:Cx) (pins:List (Addr × Obj)) (σ:St) (Q:List V->Hp->Prop) (us:List Value) (s':Shared):Prop:=∃ vs H',Inv X pins σ H' s'/\za7 vs us/\Q vs H'
def SP (X:Cx) (pins:List (Addr × Obj)) (D:Ends) (f:Flow) (s':Shared):Prop :=
 match f with
 | .next=>∃ σ' H',Inv X pins σ' H' s'/\D.nx σ' H'
 | .brk=>∃ σ' H',Inv X pins σ' H' s'/\D.bk σ' H'
 | .cont=>∃ σ' H',Inv X pins σ' H' s'/\D.ct σ' H'
 | .ret u=>∃ v σ' H',Inv X pins σ' H' s'/\zbo v u/\D.rt v H'
def PE (X:Cx) (e:Expr) (t:TE):Prop :=
 ∀ (pins:List (Addr × Obj)) (s:Shared) (σ:St) (H:Hp) (Q:VK),Inv X pins σ H s->t σ H Q->wpAny (model X.prog X.w) X.A (eval e X.env) (EP X pins σ Q) X.xe s
def PT (X:Cx) (e:Expr) (t:TT):Prop :=
 ∀ (pins:List (Addr × Obj)) (s:Shared) (σ:St) (H:Hp) (Q:Bool->Hp->Prop),Inv X pins σ H s->t σ H Q->wpAny (model X.prog X.w) X.A (isTrue e X.env (eval e X.env)) (TP X pins σ Q) X.xe s
def PW (X:Cx) (e:Expr) (t:TT):Prop :=
 ∀ (whole:Sem Value) (pins:List (Addr × Obj)) (s:Shared) (σ:St) (H:Hp) (Q:Bool->Hp->Prop),Inv X pins σ H s->t σ H Q->wpAny (model X.prog X.w) X.A (isTrue e X.env whole) (TP X pins σ Q) X.xe s
def PA (X:Cx) (es:List Expr) (t:TA):Prop :=
 ∀ (pos:Pos) (pins:List (Addr × Obj)) (s:Shared) (σ:St) (H:Hp) (Q:List V->Hp->Prop),Inv X pins σ H s->t σ H Q->wpAny (model X.prog X.w) X.A (spliced (backTo pos (starEach es X.env))) (AP X pins σ Q) X.xe s
def PS (X:Cx) (st:Stmt) (t:TS):Prop :=
 ∀ (pins:List (Addr × Obj)) (s:Shared) (σ:St) (H:Hp) (D:Ends),Inv X pins σ H s->t D σ H->wpAny (model X.prog X.w) X.A (exec st X.env) (SP X pins D) X.xe s
def PSs (X:Cx) (st:List Stmt) (t:TS):Prop :=
 ∀ (pins:List (Addr × Obj)) (s:Shared) (σ:St) (H:Hp) (D:Ends),Inv X pins σ H s->t D σ H->wpAny (model X.prog X.w) X.A (execs st X.env) (SP X pins D) X.xe s
theorem thn {α:Type} {t:Sem α} {Q Q':α->Shared->Prop} {M:Model} {A:Around} {E:Value->Shared->Prop} {s:Shared} (h:wpAny M A t Q E s) (hQ:∀ a s,Q a s->Q' a s):wpAny M A t Q' E s:=yx h hQ fun _ _ x=>x
section
variable {X:Cx}
def zkb (i:Nat):TE:=fun σ H Q=>∃ v,σ[i]?=some (some v)/\Q v H
def tC (v:V):TE:=fun _ H Q=>Q v H
theorem zc8 {i:Nat} {x:Str} {pos:Pos} (hN:X.N[i]?=some x) (hv:Vis X.env.scope x) (hd:(x == ("__debug__":Str))=false:=by decide) (hcd:(x == ("__classdict__":Str))=false:=by decide):PE X (.Name x pos) (zkb i):=by
 intro pins s σ H Q I h; obtain ⟨v,e,h⟩:=h; obtain ⟨m,hn,hl⟩:=I.loc; obtain ⟨u,r,l⟩:=hl i x v hN e hv
 have fin:EP X pins σ Q u s:=⟨v,H,I,r,h⟩
 rcases l with ⟨hk,hm⟩ | ⟨hk,c,hc,hcell⟩
 ·exact wpAny_Name (wpAny_loadName_local I.ok.kind hk hn hm fin) hd
 ·rcases hk with hk | hk
  ·exact wpAny_Name (wpAny_loadName_cell I.ok.kind hk hc hcell fin) hd
  ·exact wpAny_Name (wpAny_loadName_free I.ok.kind hk hc hcell fin hcd) hd
theorem zpf {i j pos}:PE X (.Constant (.int i) j pos) (tC (.int i)):=fun _ _ _ H _ I h=>wpAny_Constant_int ⟨.int i,H,I.tok _,⟨_,rfl⟩,h⟩
theorem zu0 {b j pos}:PE X (.Constant (.bool b) j pos) (tC (.bl b)):=fun _ _ _ H _ I h=>Constant_bool ⟨.bl b,H,I,rfl,h⟩
theorem zsI {j pos}:PE X (.Constant .none j pos) (tC .non):=fun _ _ _ H _ I h=>Constant_none ⟨.non,H,I,rfl,h⟩
theorem zsF {x j pos}:PE X (.Constant (.str x) j pos) (tC (.str x)):=fun _ _ _ H _ I h=>Calls.Constant_str ⟨.str x,H,I.tok _,⟨_,rfl⟩,h⟩
def Gl (X:Cx) (x:Str):Prop:=X.env.kindOf x=some .globalImplicit
theorem zdZ {E:Value->Shared->Prop} {pins:List (Addr × Obj)} {s:Shared} {σ:St} {H:Hp} {x:Str} {u:Value} {pos:Pos} {Q:Value->Shared->Prop} (I:Inv X pins σ H s) (hg:Gl X x) (hm:X.mg x=some u) (h:Q u s)
  (hd:(x == ("__debug__":Str))=false:=by decide):wpAny (model X.prog X.w) X.A (eval (.Name x pos) X.env) Q E s :=
 Calls.Name_function_global I.ok.kind hg (Calls.loadGlobal_global (by rw [I.ok.glob]; exact I.mod.glob.keeps I.bk) hm h) hd
theorem zcA {E:Value->Shared->Prop} {pins:List (Addr × Obj)} {s:Shared} {σ:St} {H:Hp} {x:Str} {u:Value} {pos:Pos} {Q:Value->Shared->Prop} (I:Inv X pins σ H s) (hg:Gl X x) (hm:X.mg x=none) (hv:bootBuiltins x=some u) (h:Q u s)
  (hn:x≠"__name__":=by decide) (hd:(x == ("__debug__":Str))=false:=by decide):wpAny (model X.prog X.w) X.A (eval (.Name x pos) X.env) Q E s:=by
 obtain ⟨mb,h1,h2⟩:=I.mod.blt
 exact Calls.Name_function_global I.ok.kind hg (Calls.loadGlobal_builtin (by rw [I.ok.glob]; exact I.mod.glob.keeps I.bk) hm (by rw [I.ok.blt]; exact h1.keeps I.bk) ((h2 x hn).trans hv) h) hd
theorem zlJ {x:Str} {v:V} {u:Value} {pos:Pos} (hg:Gl X x) (hm:X.mg x=some u) (r:zbo v u) (hd:(x == ("__debug__":Str))=false:=by decide):PE X (.Name x pos) (tC v) :=
 fun _ _ _ H _ I h=>zdZ I hg hm ⟨v,H,I,r,h⟩ hd
theorem zqO {x:Str} {v:V} {u:Value} {pos:Pos} (hg:Gl X x) (hm:X.mg x=none) (hv:bootBuiltins x=some u) (r:zbo v u) (hn:x≠"__name__":=by decide) (hd:(x == ("__debug__":Str))=false:=by decide):PE X (.Name x pos) (tC v) :=
 fun _ _ _ H _ I h=>zcA I hg hm hv ⟨v,H,I,r,h⟩ hn hd
variable {a b:Expr} {ta tb:TE} {pos:Pos}
def tB (t:TE):TT:=fun σ H Q=>t σ H fun x H1=>∃ c,x=.bl c/\Q c H1
theorem zsy {e:Expr} {t:TE} (h:PE X e t) (he:∀ whole,isTrue e X.env whole=(do let v <- whole; standAt e.pos; holding [v] (truthy v)):=by intro _; rfl):PT X e (tB t):=by
 intro pins s σ H Q I hw
 refine isTrue_plain (thn (h pins s σ H _ I hw) fun v s1 ⟨x,H1,I1,r1,q1⟩=>?_) (he _)
 obtain ⟨d,rfl,q⟩:=q1; cases r1; exact Yi ⟨H1,I1,q⟩
variable {tA tB':TT} {zba:List Expr}
def zwk (t u:TT):TT:=fun σ H Q=>t σ H fun c H1=>if c=true then u σ H1 Q else Q false H1
def tOr (t u:TT):TT:=fun σ H Q=>t σ H fun c H1=>if c=true then Q true H1 else u σ H1 Q
def zwg (t:TT):TT:=fun σ H Q=>t σ H fun c H1=>Q (!c) H1
theorem zqg (ha:PT X a tA):PW X (.BoolOp .And [a] pos) tA:=by
 intro wh pins s σ H Q I h
 refine isTrue_and (thn (ha pins s σ H Q I h) fun c s1 e=>?_)
 cases c with
 | true=>exact isTrue_and_nil e
 | false=>exact e
theorem zsv (ha:PT X a tA):PW X (.BoolOp .Or [a] pos) tA:=by
 intro wh pins s σ H Q I h
 refine isTrue_or (thn (ha pins s σ H Q I h) fun c s1 e=>?_)
 cases c with
 | false=>exact isTrue_or_nil e
 | true=>exact e
theorem zsw (ha:PT X a tA) (hb:PW X (.BoolOp .And (b :: zba) pos) tB'):PW X (.BoolOp .And (a :: b :: zba) pos) (zwk tA tB'):=by
 intro wh pins s σ H Q I h
 refine isTrue_and (thn (ha pins s σ H _ I h) fun c s1 ⟨H1,I1,q1⟩=>?_)
 cases c with
 | true=>exact hb wh pins s1 σ H1 Q I1 q1
 | false=>exact ⟨H1,I1,q1⟩
theorem zuW (ha:PT X a tA) (hb:PW X (.BoolOp .Or (b :: zba) pos) tB'):PW X (.BoolOp .Or (a :: b :: zba) pos) (tOr tA tB'):=by
 intro wh pins s σ H Q I h
 refine isTrue_or (thn (ha pins s σ H _ I h) fun c s1 ⟨H1,I1,q1⟩=>?_)
 cases c with
 | true=>exact ⟨H1,I1,q1⟩
 | false=>exact hb wh pins s1 σ H1 Q I1 q1
theorem zsz (ha:PT X a tA):PT X (.UnaryOp .Not a pos) (zwg tA):=by
 intro pins s σ H Q I h
 exact isTrue_not (ha pins s σ H (fun c H1=>Q (!c) H1) I h)
def zuE (ta tb:TE):TE:=fun σ H Q=>ta σ H fun x H1=>∃ c,x=.bl c/\if c=true then tb σ H1 Q else Q (.bl false) H1
def zuy (ta:TE):TE:=fun σ H Q=>ta σ H fun x H1=>∃ c,x=.bl c/\Q (.bl (!c)) H1
theorem zsG {op} {t:TE} (h:PE X a t):PE X (.BoolOp op [a] pos) t:=fun pins s σ H Q I hw=>BoolOp_one (h pins s σ H Q I hw)
theorem zsL (ha:PE X a ta) (hb:PE X (.BoolOp .And (b :: zba) pos) tb):PE X (.BoolOp .And (a :: b :: zba) pos) (zuE ta tb):=by
 intro pins s σ H Q I h
 refine BoolOp_and (thn (ha pins s σ H _ I h) fun v s1 ⟨x,H1,I1,r1,q1⟩=>?_)
 obtain ⟨c,rfl,q1⟩:=q1; cases r1; refine Yi ?_
 cases c with
 | true=>exact hb pins s1 σ H1 Q I1 q1
 | false=>exact ⟨.bl false,H1,I1,rfl,q1⟩
theorem zsH (ha:PE X a ta):PE X (.UnaryOp .Not a pos) (zuy ta):=by
 intro pins s σ H Q I h
 refine UnaryOp_ (thn (ha pins s σ H _ I h) fun v s1 ⟨x,H1,I1,r1,q1⟩=>?_)
 obtain ⟨c,rfl,q1⟩:=q1; cases r1; exact not_of (Yi ⟨.bl (!c),H1,I1,rfl,q1⟩)
def tIf (t:TT) (ta tb:TE):TE:=fun σ H Q=>t σ H fun c H1=>if c=true then ta σ H1 Q else tb σ H1 Q
theorem zn1 {c:Expr} (hc:PT X c tA) (ha:PE X a ta) (hb:PE X b tb):PE X (.IfExp c a b pos) (tIf tA ta tb):=by
 intro pins s σ H Q I h
 refine wpAny_IfExp (thn (hc pins s σ H _ I h) fun d s1 ⟨H1,I1,q1⟩=>?_)
 cases d with
 | true=>exact ha pins s1 σ H1 Q I1 q1
 | false=>exact hb pins s1 σ H1 Q I1 q1
end
def SqL (K:W.Frag) (H:Hp) (a:Addr) (xs:List V):Prop :=
 Rd H a (.lst xs) \/
  ∃ (o:Obj) (its:Array Value) (n:Nat),K.lookup a=some o/\o.cls=.type "list"/\o.dict=none/\o.data=.seq its n/\its.size<=sizeLine/\za7 xs its.toList
def SqT (K:W.Frag) (H:Hp) (a:Addr) (xs:List V):Prop :=
 Rd H a (.tup xs) \/
  ∃ (o:Obj) (its:Array Value) (n:Nat),K.lookup a=some o/\o.cls=.type "tuple"/\o.data=.seq its n/\its.size<=sizeLine/\za7 xs its.toList
def zwJ:Value->Option V
 | .none=>some .non
 | .bool b=>some (.bl b)
 | .int i _=>some (.int i)
 | .str x _=>some (.str x)
 | .bytes b _=>some (.byt b)
 | .float b _=>some (.flt b)
 | .ref a=>some (.ref a)
 | .type n=>some (.ty n)
 | _=>none
theorem zbo.abs {x:V} {u:Value} (r:zbo x u):zwJ u=some x:=by
 cases x with
 | non=>cases r; rfl
 | bl _=>cases r; rfl
 | int _=>obtain ⟨t,rfl⟩:=r; rfl
 | str _=>obtain ⟨t,rfl⟩:=r; rfl
 | byt _=>obtain ⟨t,rfl⟩:=r; rfl
 | flt _=>obtain ⟨t,rfl⟩:=r; rfl
 | ref _=>cases r; rfl
 | ty _=>cases r; rfl
theorem zbo.inj {x y:V} {u:Value} (r:zbo x u) (q:zbo y u):x=y:=Option.some.inj (r.abs.symm.trans q.abs)
theorem za7.inj:∀ {xs ys:List V} {us:List Value},za7 xs us->za7 ys us->xs=ys
 | _,_,_,.nil,.nil=>rfl
 | _,_,_,.cons r t,.cons r' t'=>by rw [r.inj r',za7.inj t t']
section
variable {X:Cx} {pins:List (Addr × Obj)} {σ:St} {H:Hp} {s:Shared} {a:Addr} {xs ys:List V}
theorem SqL.of {K:W.Frag} (h:H a=some (.lst xs)):SqL K H a xs:=.inl (.inl h)
theorem SqT.of {K:W.Frag} (h:H a=some (.tup xs)):SqT K H a xs:=.inl (.inl h)
theorem Inv.list (I:Inv X pins σ H s) (h:SqL X.K H a xs):∃ its:List Value,za7 xs its/\PlainL s.heap a its.toArray/\xs.length<=sizeLine:=by
 rcases h with h | ⟨o,its,n,hk,hc,hd,hs,hz,r⟩
 ·obtain ⟨z,its,n,r,e⟩:=h.ok I.hok
  exact ⟨its,r,⟨_,n,e,rfl,rfl,rfl⟩,z⟩
 ·refine ⟨its.toList,r,⟨o,n,I.kIn a o hk,hc,hd,by simpa using hs⟩,?_⟩
  have e:=r.length; simp only [YI] at e; omega
theorem Inv.tuple (I:Inv X pins σ H s) (h:SqT X.K H a xs):∃ its:List Value,za7 xs its/\IsTup s.heap a its.toArray/\xs.length<=sizeLine:=by
 rcases h with h | ⟨o,its,n,hk,hc,hs,hz,r⟩
 ·obtain ⟨z,its,r,p⟩:=h.ok I.hok
  exact ⟨its,r,p,z⟩
 ·refine ⟨its.toList,r,⟨o,I.kIn a o hk,hc,n,by simpa using hs⟩,?_⟩
  have e:=r.length; simp only [YI] at e; omega
theorem Inv.list_inj (I:Inv X pins σ H s) (h:SqL X.K H a xs) (h':SqL X.K H a ys):xs=ys:=by
 obtain ⟨its,r,⟨o,n,e,_,_,d⟩,_⟩:=I.list h
 obtain ⟨its',r',⟨o',n',e',_,_,d'⟩,_⟩:=I.list h'
 rw [e] at e'; cases e'
 rw [d] at d'
 injection d' with d1 _
 have:its=its':=by simpa using yp Array.toList d1
 subst this; exact r.inj r'
theorem Inv.tuple_inj (I:Inv X pins σ H s) (h:SqT X.K H a xs) (h':SqT X.K H a ys):xs=ys:=by
 obtain ⟨its,r,⟨o,e,_,n,d⟩,_⟩:=I.tuple h
 obtain ⟨its',r',⟨o',e',_,n',d'⟩,_⟩:=I.tuple h'
 rw [e] at e'; cases e'
 rw [d] at d'
 injection d' with d1 _
 have:its=its':=by simpa using yp Array.toList d1
 subst this; exact r.inj r'
end
abbrev Cx.wish (X:Cx) (E:Value->Shared->Prop):Cx:={ X with xe:=E }
abbrev Cx.nox (X:Cx):Cx:=X.wish fun _ _=>False
theorem Cx.Ok.wish {X:Cx} (ok:X.Ok) (E:Value->Shared->Prop):(X.wish E).Ok :=
 ⟨ok.mod,ok.kind,ok.glob,ok.blt,ok.above,ok.inj,ok.has,ok.cab,ok.hd,ok.frames,ok.stk,ok.exf,ok.bs,ok.bsz,ok.noex,ok.exfs,ok.funs,ok.frf,ok.tab⟩
theorem Cx.Ok.unwish {X:Cx} {E:Value->Shared->Prop} (ok:(X.wish E).Ok):X.Ok :=
 ⟨ok.mod,ok.kind,ok.glob,ok.blt,ok.above,ok.inj,ok.has,ok.cab,ok.hd,ok.frames,ok.stk,ok.exf,ok.bs,ok.bsz,ok.noex,ok.exfs,ok.funs,ok.frf,ok.tab⟩
section
variable {X:Cx} {pins:List (Addr × Obj)} {σ:St} {H:Hp} {s:Shared} {E:Value->Shared->Prop}
theorem Inv.wish (I:Inv X pins σ H s) (E:Value->Shared->Prop):Inv (X.wish E) pins σ H s:=⟨I.ok.wish E,I.os,I.bare,I.base,I.loc,I.cell,I.free,I.freeC,I.pin,I.hok,I.len⟩
theorem Inv.unwish (I:Inv (X.wish E) pins σ H s):Inv X pins σ H s:=⟨I.ok.unwish,I.os,I.bare,I.base,I.loc,I.cell,I.free,I.freeC,I.pin,I.hok,I.len⟩
theorem SP.unwish {D:Ends} {f:Flow} {s':Shared} (h:SP (X.wish E) pins D f s'):SP X pins D f s':=by
 cases f with
 | next=>obtain ⟨σ',H',I,q⟩:=h; exact ⟨σ',H',I.unwish,q⟩
 | brk=>obtain ⟨σ',H',I,q⟩:=h; exact ⟨σ',H',I.unwish,q⟩
 | cont=>obtain ⟨σ',H',I,q⟩:=h; exact ⟨σ',H',I.unwish,q⟩
 | ret u=>obtain ⟨v,σ',H',I,r,q⟩:=h; exact ⟨v,σ',H',I.unwish,r,q⟩
theorem PSs.nox {st:List Stmt} {t:TS} (h:PSs X.nox st t):PSs X st t:=fun pins s σ H D I hw =>
 yx (h pins s σ H D (I.wish _) hw) (fun _ _ q=>q.unwish) fun _ _ z=>False.elim z
end
section
variable {X:Cx} {st:Stmt} {zba:List Stmt} {t u:TS} {e:Expr} {te:TE} {pos:Pos}
def zuz:TS:=fun D σ H=>D.nx σ H
def zwe (t u:TS):TS:=fun D σ H=>t { D with nx:=u D } σ H
theorem zql:PSs X [] zuz:=fun _ _ σ H _ I h=>Yx ⟨σ,H,I,h⟩
theorem zgN (h1:PS X st t) (h2:PSs X zba u):PSs X (st :: zba) (zwe t u):=by
 intro pins s σ H D I h
 refine wpAny_execs_cons (thn (h1 pins s σ H { D with nx:=u D } I h) fun f s1 q=>?_)
 cases f with
 | next =>
  obtain ⟨σ',H',I',q⟩:=q; exact h2 pins s1 σ' H' D I' q
 | ret v=>exact q
 | brk=>exact q
 | cont=>exact q
theorem zly (h1:PS X st t):PSs X [st] t:=by
 intro pins s σ H D I h
 refine wpAny_execs_cons (thn (h1 pins s σ H D I h) fun f s1 q=>?_)
 cases f with
 | next=>exact Yx q
 | ret v=>exact q
 | brk=>exact q
 | cont=>exact q
theorem Inv.quiet {pins:List (Addr × Obj)} {σ:St} {H:Hp} {s:Shared} (I:Inv X pins σ H s):interactive X.env=false:=by simp [interactive,I.ok.kind]
def zpY (te:TE):TS:=fun D σ H=>te σ H fun _ H1=>D.nx σ H1
theorem zlB (he:PE X e te) (hs:swapsWith e none pos.line X.env=pure false:=by rfl):PS X (.Expr e pos) (zpY te):=by
 intro pins s σ H D I h
 exact wpAny_Expr_any (thn (he pins s σ H _ I h) fun v s1 ⟨x,H1,I1,r1,q1⟩=>⟨σ,H1,I1,q1⟩) I.quiet hs
def zwf (te:TE):TS:=fun D σ H=>te σ H D.rt
theorem zlA (he:PE X e te):PS X (.Return (some e) pos) (zwf te):=by
 intro pins s σ H D I h
 exact wpAny_Return_some (thn (he pins s σ H _ I h) fun v s1 ⟨x,H1,I1,r1,q1⟩=>⟨x,σ,H1,I1,r1,q1⟩)
def zwh (c:TT) (t u:TS):TS:=fun D σ H=>c σ H fun b H1=>if b=true then t D σ H1 else u D σ H1
theorem zuX {c:Expr} {a b:List Stmt} {tc:TT} (hc:PT X c tc) (ha:PSs X a t) (hb:PSs X b u):PS X (.If c a b pos) (zwh tc t u):=by
 intro pins s σ H D I h
 refine wpAny_If (thn (hc pins s σ H _ I h) fun d s1 ⟨H1,I1,q1⟩=>?_)
 cases d with
 | true=>exact ha pins s1 σ H1 D I1 q1
 | false=>exact hb pins s1 σ H1 D I1 q1
end
abbrev TG:=V->St->Hp->(St->Hp->Prop)->Prop
abbrev TGs:=List V->St->Hp->(St->Hp->Prop)->Prop
def PG (X:Cx) (target:Expr) (t:TG):Prop :=
 ∀ (pins:List (Addr × Obj)) (s:Shared) (σ:St) (H:Hp) (v:V) (u:Value) (Q:St->Hp->Prop),Inv X pins σ H s->zbo v u->t v σ H Q ->
  wpAny (model X.prog X.w) X.A (assign target X.env u) (fun _ s'=>∃ σ' H',Inv X pins σ' H' s'/\Q σ' H') X.xe s
def PGs (X:Cx) (ts:List Expr) (t:TGs):Prop :=
 ∀ (pins:List (Addr × Obj)) (s:Shared) (σ:St) (H:Hp) (vs:List V) (us:List Value) (Q:St->Hp->Prop),Inv X pins σ H s->za7 vs us->t vs σ H Q ->
  wpAny (model X.prog X.w) X.A (assignInOrder ((assignEach ts X.env).map (·.2)) us) (fun _ s'=>∃ σ' H',Inv X pins σ' H' s'/\Q σ' H') X.xe s
section
variable {X:Cx} {pos:Pos}
def zmj (i:Nat):TG:=fun v σ H Q=>Q (σ.set i (some v)) H
theorem zqB {i:Nat} {x:Str} (hN:X.N.Nodup) (hi:X.N[i]?=some x) (hx:Loc X.env.scope x) (hf:X.fn x=true\/X.env.scope.names.lookup x=some .local:=by first | exact .inl rfl | exact .inr rfl | assumption):PG X (.Name x pos) (zmj i):=by
 intro pins s σ H v u Q I r h
 exact wpAny_assign_Name (zd5 I hN hi hx r (fun s' I'=>⟨_,H,I',h⟩) hf)
def zwF:TGs:=fun vs σ H Q=>vs=[]/\Q σ H
def zvp (t:TG) (u:TGs):TGs:=fun vs σ H Q=>∃ v r,vs=v :: r/\t v σ H fun σ' H'=>u r σ' H' Q
theorem zqA:PGs X [] zwF:=by
 intro pins s σ H vs us Q I r h; obtain ⟨e,h⟩:=h; subst e; cases r; exact assignInOrder_nil ⟨σ,H,I,h⟩
theorem znY {e:Expr} {es:List Expr} {t:TG} {u:TGs} (h1:PG X e t) (h2:PGs X es u)
  (hs:(assignEach (e :: es) X.env).map (·.2)=assign e X.env :: (assignEach es X.env).map (·.2):=by rfl):PGs X (e :: es) (zvp t u):=by
 intro pins s σ H vs us Q I r h; obtain ⟨v,vr,e1,h⟩:=h; subst e1
 cases r with
 | cons r rr =>
  rw [hs]
  refine assignInOrder_cons (thn (h1 pins s σ H _ _ _ I r h) fun _ s1 ⟨σ1,H1,I1,q1⟩=>?_)
  exact h2 pins s1 σ1 H1 _ _ Q I1 rr q1
def zwE (K:W.Frag) (n:Nat) (t:TGs):TG:=fun v σ H Q=>∃ a xs,v=.ref a/\SqT K H a xs/\xs.length=n/\t xs σ H Q
theorem zsE {es:List Expr} {k:Nat} {t:TGs} {n:Nat} (hc:X.calm=true) (h:PGs X es t)
  (hn:(assignEach es X.env).length=n:=by rfl) (hst:(assignEach es X.env).findIdx? (·.1)=none:=by rfl):PG X (.Tuple es k pos) (zwE X.K n t):=by
 intro pins s σ H v u Q I r hw; obtain ⟨a,xs,e1,hq,hl,hw⟩:=hw; subst e1; cases r; obtain ⟨its,rv,ht,hz⟩:=I.tuple hq
 refine assign_Tuple_tuple (I.ok.hd hc) ht (by simp [hn,<- hl,rv.length]) hst fun h' hx=>?_
 have I1:Inv X pins σ H { s with heap:=h' }:=I.kept (t':=s.toks) fun b o e=>hx b o (yd (yN e)) e
 exact h pins _ σ H xs _ Q I1 (by simpa using rv) hw
def zuD (te:TE) (g:TG):TS:=fun D σ H=>te σ H fun x H1=>g x σ H1 D.nx
theorem zlz {i:Nat} {x:Str} {e:Expr} {te:TE} {pos':Pos} (hN:X.N.Nodup) (hi:X.N[i]?=some x) (hx:Loc X.env.scope x) (he:PE X e te) (hs:swapsWith e (some (.Name x pos')) pos.line X.env=pure false:=by rfl) (hf:X.fn x=true\/X.env.scope.names.lookup x=some .local:=by first | exact .inl rfl | exact .inr rfl | assumption) :
  PS X (.Assign [.Name x pos'] e pos) (zuD te (zmj i)):=by
 intro pins s σ H D I h
 refine wpAny_Assign_Name (thn (he pins s σ H _ I h) fun v s1 ⟨y,H1,I1,r1,q1⟩=>?_) hs
 exact zd5 I1 hN hi hx r1 (fun s2 I2=>⟨_,H1,I2,q1⟩) hf
def zr4 (c:TT) (tb:TS):TS:=fun D σ H=>∃ W:Nat->St->Hp->Prop,(∃ m,W m σ H)/\∀ m σ H,W m σ H ->
 c σ H fun b H1=>if b=true then ∃ N:St->Hp->Prop,(∀ σ' H',N σ' H'->∃ m',m'<m/\W m' σ' H')/\tb { D with nx:=N,ct:=N,bk:=D.nx } σ H1 else D.nx σ H1
theorem znN {c:Expr} {body:List Stmt} {tc:TT} {tb:TS} (hp:PassesOwn (model X.prog X.w) X.A X.env X.xe) (hc:PT X c tc) (hb:PSs X body tb):PS X (.While c body [] pos) (zr4 tc tb):=by
 intro pins s σ H D I h
 obtain ⟨W,⟨m0,w0⟩,turn⟩:=h
 refine wpAny_While (codeAny_whileLoop (fun n s'=>∃ σ' H',Inv X pins σ' H' s'/\W n σ' H') ?_ m0 ⟨σ,H,I,w0⟩)
 rintro n s1 ⟨σ1,H1,I1,w1⟩
 refine JH hp (thn (hc pins s1 σ1 H1 _ I1 (turn n σ1 H1 w1)) fun b s2 ⟨H2,I2,q2⟩=>?_)
 cases b with
 | true =>
  obtain ⟨N,hN,q2⟩:=q2; rw [yS rfl]
  refine JH hp (thn (hb pins s2 σ1 H2 _ I2 q2) fun f s3 q3=>?_)
  cases f with
  | next =>
   obtain ⟨σ3,H3,I3,n3⟩:=q3; obtain ⟨m',hm,w3⟩:=hN σ3 H3 n3; exact ⟨m',hm,σ3,H3,I3,w3⟩
  | cont =>
   obtain ⟨σ3,H3,I3,n3⟩:=q3; obtain ⟨m',hm,w3⟩:=hN σ3 H3 n3; exact ⟨m',hm,σ3,H3,I3,w3⟩
  | brk=>exact q3
  | ret v=>exact q3
 | false =>
  rw [yQ yP]; exact Yx ⟨σ1,H2,I2,q2⟩
end
structure It where
 go:Nat->Hp->Prop
 yld:Nat->Hp->V->Hp->Prop
 stop:Nat->Hp->Prop
def zeT (X:Cx) (pins:List (Addr × Obj)) (H:Hp) (b:Addr):Prop :=
 H b=none/\b≠X.env.locals/\b ∉ X.fs/\(b ∈ X.ex\/X.s₀.heap.objs.size<=b)/\(∀ x c,X.env.cells.lookup x=some c->c≠b)/\∀ p ∈ X.pn ++ pins,p.1≠b
theorem Inv.fpOk {X:Cx} {pins:List (Addr × Obj)} {σ:St} {H H':Hp} {s:Shared} {b:Addr} (I:Inv X pins σ H s) (hb:s.heap.objs.size<=b) (hn:H' b=none):zeT X pins H' b:=by
 refine ⟨hn,Yf (yW I.lt hb),I.nofs hb,.inr (yz I.sz hb),fun x c e z=>?_,fun p hp z=>?_⟩
 ·obtain ⟨v,q⟩:=I.cell x c e
  exact yM (yW q.lt (by rw [z]; exact hb)) (YS _)
 ·exact yM (yW (yN (I.pin p hp).1) (by rw [z]; exact hb)) (YS _)
structure Turn (P:Program) (w:World) (K:W.Frag) (tg:Expr) (J:It) (fp:List Addr) (it:Addr) (tn:Nat->Heap->Prop):Prop where
 mem:it ∈ fp
 obj:∀ i h,tn i h->∀ b ∈ fp,∃ o,h.get? b=some o/\∀ v,o.data≠.cell v
 keep:∀ i h h',tn i h->(∀ b ∈ fp,∀ o,h.get? b=some o->h'.get? b=some o)->tn i h'
 item:∀ (X:Cx),X.prog=P->X.w=w->X.K=K->X.calm=true->∀ (i:Nat) (pins:List (Addr × Obj)) (s:Shared) (σ:St) (H:Hp) (E:Value->Shared->Prop),Inv X pins σ H s->(∀ b ∈ fp,zeT X pins H b)->tn i s.heap->J.go i H ->
  wpAny (model P w) X.A (pyNext (.ref it)) (fun r s1=>∃ u,r=some u /\
   wpAny (model P w) X.A (letOwnedTupleGo tg (.ref it) u) (fun _ s2=>∃ x H',Inv X pins σ H' s2/\zbo x u/\J.yld i H x H'/\tn (i+1) s2.heap/\∀ b ∈ fp,H' b=none) E s1) E s
 done:∀ (X:Cx),X.prog=P->X.w=w->X.K=K->X.calm=true->∀ (i:Nat) (pins:List (Addr × Obj)) (s:Shared) (σ:St) (H:Hp) (E:Value->Shared->Prop),Inv X pins σ H s->(∀ b ∈ fp,zeT X pins H b)->tn i s.heap->J.stop i H ->
  wpAny (model P w) X.A (pyNext (.ref it)) (fun r s1=>r=none/\Inv X pins σ H s1) E s
 self:∀ (A:Around) (i:Nat) (s:Shared) (Q:Value->Shared->Prop) (E:Value->Shared->Prop),tn i s.heap->Q (.ref it) s->wpAny (model P w) A (pyIter (.ref it)) Q E s
abbrev TI:=St->Hp->(It->Hp->Prop)->Prop
def PIE (X:Cx) (pins:List (Addr × Obj)) (σ:St) (tg:Expr) (R:It->Hp->Prop) (itv:Value) (s2:Shared):Prop :=
 ∃ (it:Addr) (fp:List Addr) (tn:Nat->Heap->Prop) (J:It) (H':Hp),itv=.ref it/\Inv X pins σ H' s2/\Turn X.prog X.w X.K tg J fp it tn/\tn 0 s2.heap/\(∀ b ∈ fp,zeT X pins H' b)/\R J H'
def PI (X:Cx) (tg iter:Expr) (wi:TI):Prop :=
 ∀ (pins:List (Addr × Obj)) (s:Shared) (σ:St) (H:Hp) (R:It->Hp->Prop),Inv X pins σ H s->wi σ H R ->
  wpAny (model X.prog X.w) X.A (eval iter X.env) (fun v s1=>wpAny (model X.prog X.w) X.A (pyIter v) (PIE X pins σ tg R) X.xe s1) X.xe s
theorem zhW {M:Model} {A:Around} {E:Value->Shared->Prop} {s:Shared} {tg:Expr} {it:Addr} {u:Value} {o:Obj} {n:String} {vs:Array Value} {Q:Unit->Shared->Prop} (ho:s.heap.get? it=some o) (hc:o.cls=.type n) (hd:o.data=.fields vs)
    (hn:["enumerate","zip","dict_itemiterator","dict_reverseitemiterator","odict_iterator","itertools.zip_longest","itertools.pairwise"].contains n=false) (hQ:Q () s):wpAny M A (letOwnedTupleGo tg (.ref it) u) Q E s:=by
  unfold letOwnedTupleGo
  cases tg <;> first
    | exact yE hQ
    | (cases u <;> first
        | exact yE hQ
        | (refine yA (wpAny_load ho ?_)
           rw [hc,hd]
           show wpAny M A (if (["enumerate","zip","dict_itemiterator","dict_reverseitemiterator","odict_iterator","itertools.zip_longest","itertools.pairwise"].contains n && vs[0]? == some (rawInt _))=true then _ else _) Q E s
           rw [yQ (by intro h; rw [hn,Bool.false_and] at h; cases h)]
           exact yE hQ))
def Itl (K:W.Frag) (a:Addr):It :=
 ⟨fun i H=>∃ xs x,SqL K H a xs/\xs[i]?=some x,fun i H x H'=>H'=H/\∀ xs,SqL K H a xs->xs[i]?=some x,fun i H=>∃ xs,SqL K H a xs/\xs.length<=i⟩
def Itt (K:W.Frag) (a:Addr):It :=
 ⟨fun i H=>∃ xs x,SqT K H a xs/\xs[i]?=some x,fun i H x H'=>H'=H/\∀ xs,SqT K H a xs->xs[i]?=some x,fun i H=>∃ xs,SqT K H a xs/\xs.length<=i⟩
def Itr (lo:Int) (n:Nat):It:=⟨fun i _=>i<n,fun i H x H'=>H'=H/\x=.int (lo+i),fun i _=>n<=i⟩
theorem zk2 {P:Program} {w:World} {K:W.Frag} {tg:Expr} (a it:Addr):Turn P w K tg (Itl K a) [it] it (fun i h=>h.IsListIter it a i) where
 mem:=by simp
 obj:=fun i h st b hb=>by
  have e:b=it:=by simpa using hb
  subst e; obtain ⟨o,e,c,d⟩:=st
  exact ⟨o,e,fun v z=>by rw [d] at z; cases z⟩
 keep:=fun i h h' st k=>st.at fun o e=>k it (by simp) o e
 item:=by
  intro X hP hw hK hc i pins s σ H E I hf st hg
  subst hP hw hK
  obtain ⟨xs,x,hq,hx⟩:=hg; obtain ⟨its,rv,p,hz⟩:=I.list hq; obtain ⟨u,hu,ru⟩:=rv.get hx
  obtain ⟨f0,f1,f2,f3,f4,f5⟩:=hf it (by simp)
  refine wpAny_pyNext_list_item st p.isList (x:=u) (by simpa using hu) fun h' st' sb=>?_
  have I1:Inv X pins σ H { s with heap:=h' }:=I.turned (t':=s.toks) (fun b o hb e=>(sb.2 b hb).trans e) f0 f1 f3 f4 f5
  obtain ⟨o,e,c,d⟩:=id st'
  exact ⟨u,rfl,zhW (s:={ s with heap:=h' }) e c d (by decide) ⟨x,H,I1,ru,⟨rfl,fun ys hy=>by rw [I.list_inj hy hq]; exact hx⟩,st',fun b hb=>(hf b hb).1⟩⟩
 done:=by
  intro X hP hw hK hc i pins s σ H E I hf st hg
  subst hP hw hK
  obtain ⟨xs,hq,hx⟩:=hg; obtain ⟨its,rv,p,hz⟩:=I.list hq
  obtain ⟨f0,f1,f2,f3,f4,f5⟩:=hf it (by simp)
  have hl:=rv.length
  exact wpAny_pyNext_list_end (I.ok.hd hc) st p.isList (by simp; omega) fun h' eb=>⟨rfl,I.turned (t':=s.toks) (fun b o hb e=>eb b o hb e) f0 f1 f3 f4 f5⟩
 self:=fun _ _ _ _ _ st h=>wpAny_pyIter_listiter st h
theorem zj8 {P:Program} {w:World} {K:W.Frag} {tg:Expr} (a it:Addr):Turn P w K tg (Itt K a) [it] it (fun i h=>h.IsTupleIter it a i) where
 mem:=by simp
 obj:=fun i h st b hb=>by
  have e:b=it:=by simpa using hb
  subst e; obtain ⟨o,e,c,d⟩:=st
  exact ⟨o,e,fun v z=>by rw [d] at z; cases z⟩
 keep:=fun i h h' st k=>st.at fun o e=>k it (by simp) o e
 item:=by
  intro X hP hw hK hc i pins s σ H E I hf st hg
  subst hP hw hK
  obtain ⟨xs,x,hq,hx⟩:=hg; obtain ⟨its,rv,p,hz⟩:=I.tuple hq; obtain ⟨u,hu,ru⟩:=rv.get hx
  obtain ⟨f0,f1,f2,f3,f4,f5⟩:=hf it (by simp)
  refine wpAny_pyNext_tuple_item st (show s.heap.IsTuple a its.toArray from p) (x:=u) (by simpa using hu) fun h' st' sb=>?_
  have I1:Inv X pins σ H { s with heap:=h' }:=I.turned (t':=s.toks) (fun b o hb e=>(sb.2 b hb).trans e) f0 f1 f3 f4 f5
  obtain ⟨o,e,c,d⟩:=id st'
  exact ⟨u,rfl,zhW (s:={ s with heap:=h' }) e c d (by decide) ⟨x,H,I1,ru,⟨rfl,fun ys hy=>by rw [I.tuple_inj hy hq]; exact hx⟩,st',fun b hb=>(hf b hb).1⟩⟩
 done:=by
  intro X hP hw hK hc i pins s σ H E I hf st hg
  subst hP hw hK
  obtain ⟨xs,hq,hx⟩:=hg; obtain ⟨its,rv,p,hz⟩:=I.tuple hq
  obtain ⟨f0,f1,f2,f3,f4,f5⟩:=hf it (by simp)
  have hl:=rv.length
  exact wpAny_pyNext_tuple_end (I.ok.hd hc) st (show s.heap.IsTuple a its.toArray from p) (by simp; omega) fun h' eb=>⟨rfl,I.turned (t':=s.toks) (fun b o hb e=>eb b o hb e) f0 f1 f3 f4 f5⟩
 self:=fun _ _ _ _ _ st h=>wpAny_pyIter_tupleiter st h
theorem zj9 {P:Program} {w:World} {K:W.Frag} {tg:Expr} (it:Addr) (lo:Int) (n:Nat):Turn P w K tg (Itr lo n) [it] it (fun i h=>IsRangeIter h it (lo+(i:Nat) * 1) ((n:Int)-(i:Nat)) 1) where
 mem:=by simp
 obj:=fun i h st b hb=>by
  have e:b=it:=by simpa using hb
  subst e
  exact ⟨_,st,fun v z=>by
   have z':Data.fields _=Data.cell v:=z
   cases z'⟩
 keep:=fun i h h' st k=>k it (by simp) _ st
 item:=by
  intro X hP hw hK hc i pins s σ H E I hf st hg
  subst hP hw hK
  obtain ⟨f0,f1,f2,f3,f4,f5⟩:=hf it (by simp)
  have W:=Walks.range (prog:=X.prog) (w:=X.w) (I.ok.hd hc) it lo 1 n
  refine W.item i s _ _ hg st fun v h' tk hv st' kk=>?_
  obtain ⟨t,rfl⟩:=hv
  have I1:Inv X pins σ H { s with heap:=h',toks:=tk }:=I.turned (fun b o hb e=>kk b o (by simpa using hb) e) f0 f1 f3 f4 f5
  refine ⟨_,rfl,zhW (s:={ s with heap:=h',toks:=tk }) (n:="range_iterator") st' rfl rfl (by decide) ⟨.int (lo+i),H,I1,⟨t,?_⟩,⟨rfl,rfl⟩,st',fun b hb=>(hf b hb).1⟩⟩
  rw [Int.mul_one]
 done:=by
  intro X hP hw hK hc i pins s σ H E I hf st hg
  subst hP hw hK
  obtain ⟨f0,f1,f2,f3,f4,f5⟩:=hf it (by simp)
  exact wpAny_pyNext_range_end (I.ok.hd hc) st (by have:n<=i:=hg; omega) fun h' eb=>⟨rfl,I.turned (t':=s.toks) (fun b o hb e=>eb b o hb e) f0 f1 f3 f4 f5⟩
 self:=fun _ _ _ _ _ st h=>wpAny_pyIter_rangeiter st h
section
variable {X:Cx} {tg:Expr}
theorem znz {pins:List (Addr × Obj)} {σ:St} {H:Hp} {s:Shared} {R:It->Hp->Prop} {E:Value->Shared->Prop} {lo hi:Int} {t u v:Tok} {tk:Nat} (I:Inv X pins σ H s) (h1:-(2 ^ 62)<=lo) (h2:lo<2 ^ 62) (h3:-(2 ^ 62)<=hi) (h4:hi<2 ^ 62)
  (q:R (Itr lo (hi-lo).toNat) H):wpAny (model X.prog X.w) X.A (pyIter (.ref s.heap.objs.size)) (PIE X pins σ tg R) E { s with heap:=s.heap.push { cls:=.type "range",data:=.fields #[.int lo t,.int hi u,.int 1 v] },toks:=tk }:=by
 refine wpAny_pyIter_range (IsRange.new ..) (small_one h1 h2 h3 h4) ?_
 have I1:Inv X pins σ H { s with heap:=s.heap.push { cls:=.type "range",data:=.fields #[.int lo t,.int hi u,.int 1 v] },toks:=tk }:=I.kept fun b o e=>yB _ e
 refine ⟨(s.heap.push { cls:=.type "range",data:=.fields #[.int lo t,.int hi u,.int 1 v] }).objs.size,[(s.heap.push { cls:=.type "range",data:=.fields #[.int lo t,.int hi u,.int 1 v] }).objs.size],_,_,H,rfl,
  I1.kept (t':=tk) fun b o e=>yB _ e,zj9 _ lo (hi-lo).toNat,?_,fun b hb=>?_,q⟩
 ·have e1:lo+((0:Nat):Int) * 1=lo:=by simp
  have e2:(((hi-lo).toNat:Nat):Int)-((0:Nat):Int)=Builtin.Range.rangeSize lo hi 1:=by rw [rangeSize_one]; split <;> omega
  show IsRangeIter _ _ (lo+((0:Nat):Int) * 1) ((((hi-lo).toNat:Nat):Int)-((0:Nat):Int)) 1
  rw [e1,e2]; exact yK _ rfl
 ·have e:b=(s.heap.push { cls:=.type "range",data:=.fields #[.int lo t,.int hi u,.int 1 v] }).objs.size:=by simpa using hb
  subst e; exact I1.fpOk (yG _) (I1.hok.fresh (yG _))
def zvn (ta:TA):TI:=fun σ H R=>ta σ H fun vs H1=>∃ j:Int,vs=[.int j]/\-(2 ^ 62)<=j/\j<2 ^ 62/\R (Itr 0 j.toNat) H1
theorem zlF {a:Expr} {ta:TA} {p pos:Pos} (hg:Gl X "range") (hm:X.mg "range"=none) (ha:PA X [a] ta) (hs:starEach [a] X.env=[(false,eval a X.env)]:=by rfl):PI X tg (.Call (.Name "range" p) [a] [] pos) (zvn ta):=by
 intro pins s σ H R I h
 refine Call_ (zcA I hg hm boot_range (yq (thn (ha pos pins s σ H _ I h) fun us s1 ⟨vs,H1,I1,r1,q1⟩=>?_) hs rfl))
 obtain ⟨j,e,q1,q2,q⟩:=q1; subst e
 cases r1 with
 | cons r rr =>
  cases rr; obtain ⟨t,rfl⟩:=r
  exact call_range_1 (znz I1 (by omega) (by omega) q1 q2 (by simpa using q))
def zwi (wi:TI) (g:TG) (tb:TS):TS:=fun D σ H=>wi σ H fun J H1=>∃ W:Nat->Nat->St->Hp->Prop,(∃ m,W 0 m σ H1)/\∀ i m σ H,W i m σ H ->
 (J.stop i H/\D.nx σ H)\/(J.go i H/\∃ N:St->Hp->Prop,(∀ σ' H',N σ' H'->∃ m',m'<m/\W (i+1) m' σ' H')/\∀ x H',J.yld i H x H'->g x σ H' fun σ2 H2=>tb { D with nx:=N,ct:=N,bk:=D.nx } σ2 H2)
def zgf (fp:List Addr) (h:Heap):List (Addr × Obj):=fp.filterMap fun b=>(h.get? b).map fun o=>(b,o)
theorem zdB {fp:List Addr} {h:Heap} {b:Addr} {o:Obj} (hb:b ∈ fp) (e:h.get? b=some o):(b,o) ∈ zgf fp h:=List.mem_filterMap.mpr ⟨b,hb,by rw [e]; rfl⟩
theorem zlT {fp:List Addr} {h:Heap} {p:Addr × Obj} (hp:p ∈ zgf fp h):p.1 ∈ fp/\h.get? p.1=some p.2:=by
 obtain ⟨b,hb,e⟩:=List.mem_filterMap.mp hp
 cases q:h.get? b with
 | none=>rw [q] at e; cases e
 | some o =>
  rw [q] at e
  have e':(b,o)=p:=Option.some.inj e
  subst e'
  exact ⟨hb,q⟩
theorem Inv.pinned {pins:List (Addr × Obj)} {σ:St} {H:Hp} {s:Shared} {fp:List Addr} (I:Inv X pins σ H s) (hf:∀ b ∈ fp,zeT X pins H b) (ho:∀ b ∈ fp,∃ o,s.heap.get? b=some o/\∀ v,o.data≠.cell v):Inv X (pins ++ zgf fp s.heap) σ H s :=
 I.pins_of fun p hp=>(yU.mp hp).elim (fun z=>I.pin p (yf _ z)) fun z=>by
  obtain ⟨hb,e⟩:=zlT z; obtain ⟨f0,f1,f2,_⟩:=hf p.1 hb; obtain ⟨o,e',d⟩:=ho p.1 hb
  rw [e] at e'; cases e'
  exact ⟨e,f0,f1,f2,d⟩
theorem Inv.unpinned {pins pl:List (Addr × Obj)} {σ:St} {H:Hp} {s:Shared} (I:Inv X (pins ++ pl) σ H s):Inv X pins σ H s:=I.pins_of fun p hp=>I.pin p (yf _ (List.mem_append_left _ hp))
theorem zpd {iter:Expr} {body:List Stmt} {wi:TI} {g:TG} {tb:TS} {pos:Pos} (hp:PassesOwn (model X.prog X.w) X.A X.env X.xe) (hc:X.calm=true) (hi:PI X tg iter wi) (hg:PG X tg g) (hb:PSs X body tb)
  (hs:∀ x,foldedSetIterable iter X.env x=pure x:=by intro _; rfl):PS X (.For tg iter body [] pos) (zwi wi g tb):=by
 intro pins s σ H D I h
 refine wpAny_For (thn (hi pins s σ H _ I h) fun v s1 h1=>thn h1 fun itv s2 h2=>?_) hs
 obtain ⟨it,fp,tn,J,H2,e,I2,T,st2,f2,W,⟨m0,w0⟩,turn⟩:=h2
 subst e
 -- what stays true of the iterator's objects through the loop
 have stat:∀ {H':Hp},(∀ b ∈ fp,H' b=none)->∀ b ∈ fp,zeT X pins H' b:=fun hn b hb=>⟨hn b hb,(f2 b hb).2⟩
 refine codeAny_forLoop_any (fun n s'=>∃ i σ' H',Inv X pins σ' H' s'/\tn i s'.heap/\(∀ b ∈ fp,H' b=none)/\W i n σ' H') ?_ m0 ⟨0,σ,H2,I2,st2,fun b hb=>(f2 b hb).1,w0⟩
 rintro n s3 ⟨i,σ3,H3,I3,st3,fr3,w3⟩
 rcases turn i n σ3 H3 w3 with ⟨stop,qn⟩ | ⟨go,N,hN,step⟩
 ·refine JH hp (thn (T.done X rfl rfl rfl hc i pins s3 σ3 H3 X.xe I3 (stat fr3) st3 stop) fun r s4 ⟨hr,I4⟩=>?_)
  subst hr; exact Yx ⟨σ3,H3,I4,qn⟩
 ·refine JH hp (thn (T.item X rfl rfl rfl hc i pins s3 σ3 H3 X.xe I3 (stat fr3) st3 go) fun r s4 ⟨u,hr,h4⟩=>?_)
  subst hr
  refine JH hp (thn h4 fun _ s5 ⟨x,H5,I5,r5,y5,st5,fr5⟩=>?_)
  have I5':=I5.pinned (stat fr5) (T.obj _ _ st5)
  refine JH hp (thn (hg _ s5 σ3 H5 x u _ I5' r5 (step x H5 y5)) fun _ s6 ⟨σ6,H6,I6,q6⟩=>?_)
  refine JH hp (thn (hb _ s6 σ6 H6 _ I6 q6) fun f s7 q7=>?_)
  have again:∀ {σ7:St} {H7:Hp},Inv X (pins ++ zgf fp s5.heap) σ7 H7 s7->N σ7 H7->∃ m,m<n/\∃ i σ' H',Inv X pins σ' H' s7/\tn i s7.heap/\(∀ b ∈ fp,H' b=none)/\W i m σ' H':=fun {σ7 H7} I7 n7=>by
   obtain ⟨m',hm,w7⟩:=hN σ7 H7 n7
   refine ⟨m',hm,i+1,σ7,H7,I7.unpinned,T.keep _ _ _ st5 fun b hb o e=>(I7.pin (b,o) (yf _ (yf _ (zdB hb e)))).1,fun b hb=>?_,w7⟩
   obtain ⟨o,e,d⟩:=T.obj _ _ st5 b hb; exact (I7.pin (b,o) (yf _ (yf _ (zdB hb e)))).2.1
  cases f with
  | next=>obtain ⟨σ7,H7,I7,n7⟩:=q7; exact again I7 n7
  | cont=>obtain ⟨σ7,H7,I7,n7⟩:=q7; exact again I7 n7
  | brk=>obtain ⟨σ7,H7,I7,q7⟩:=q7; exact ⟨σ7,H7,I7.unpinned,q7⟩
  | ret v=>obtain ⟨x7,σ7,H7,I7,r7,q7⟩:=q7; exact ⟨x7,σ7,H7,I7.unpinned,r7,q7⟩
end
abbrev R2:=V->V->Hp->VK->Prop
def OpR (X:Cx) (f:Value->Value->Sem Value) (r:R2):Prop :=
 ∀ (pins:List (Addr × Obj)) (s:Shared) (σ:St) (H:Hp) (x y:V) (v u:Value) (Q:VK),Inv X pins σ H s->zbo x v->zbo y u->r x y H Q ->
  wpAny (model X.prog X.w) X.A (f v u) (EP X pins σ Q) X.xe s
def UnR (X:Cx) (f:Value->Sem Value) (r:V->Hp->VK->Prop):Prop :=
 ∀ (pins:List (Addr × Obj)) (s:Shared) (σ:St) (H:Hp) (x:V) (v:Value) (Q:VK),Inv X pins σ H s->zbo x v->r x H Q ->
  wpAny (model X.prog X.w) X.A (f v) (EP X pins σ Q) X.xe s
def zdn (X:Cx) (f:Value) (r:List V->Hp->VK->Prop):Prop :=
 ∀ (pins:List (Addr × Obj)) (s:Shared) (σ:St) (H:Hp) (xs:List V) (us:List Value) (Q:VK),Inv X pins σ H s->za7 xs us->r xs H Q ->
  wpAny (model X.prog X.w) X.A (call f us) (EP X pins σ Q) X.xe s
def tOp (r:R2) (ta tb:TE):TE:=fun σ H Q=>ta σ H fun x H1=>tb σ H1 fun y H2=>r x y H2 Q
def tUn (r:V->Hp->VK->Prop) (ta:TE):TE:=fun σ H Q=>ta σ H fun x H1=>r x H1 Q
def rI (C:Int->Int->Prop) (g:Int->Int->V):R2:=fun x y H Q=>∃ i j,x=.int i/\y=.int j/\C i j/\Q (g i j) H
def rI0 (g:Int->Int->V):R2:=fun x y H Q=>∃ i j,x=.int i/\y=.int j/\Q (g i j) H
def rU (g:Int->V):V->Hp->VK->Prop:=fun x H Q=>∃ i,x=.int i/\Q (g i) H
section
variable {X:Cx} {a b c:Expr} {ta tb tc:TE} {pos:Pos}
theorem zvE (ha:PE X a ta) (hb:PE X b tb) {pins:List (Addr × Obj)} {s:Shared} {σ:St} {H:Hp} {R:V->V->Hp->Prop} (I:Inv X pins σ H s)
  (h:ta σ H fun x H1=>tb σ H1 fun y H2=>R x y H2) {Q:Value->Shared->Prop} {f:Value->Value->Sem Value}
  (hf:∀ v u s2 x y H2,Inv X pins σ H2 s2->zbo x v->zbo y u->R x y H2->wpAny (model X.prog X.w) X.A (f v u) Q X.xe s2) :
  wpAny (model X.prog X.w) X.A (eval a X.env) (fun v s₁=>wpAny (model X.prog X.w) X.A (eval b X.env) (fun u s₂=>wpAny (model X.prog X.w) X.A (f v u) Q X.xe s₂) X.xe s₁) X.xe s:=by
 refine thn (ha pins s σ H _ I h) fun v s1 ⟨x,H1,I1,r1,q1⟩=>?_
 refine thn (hb pins s1 σ H1 _ I1 q1) fun u s2 ⟨y,H2,I2,r2,q2⟩=>?_
 exact hf v u s2 x y H2 I2 r1 r2 q2
theorem zqE {op:Operator} {r:R2} (ho:OpR X (binaryOp op) r) (ha:PE X a ta) (hb:PE X b tb):PE X (.BinOp a op b pos) (tOp r ta tb):=by
 intro pins s σ H Q I h
 exact wpAny_BinOp (zvE ha hb I h fun v u s2 x y H2 I2 rx ry q=>ho pins s2 σ H2 x y v u Q I2 rx ry q)
theorem zuY {op:UnaryOp} {r:V->Hp->VK->Prop} (ho:UnR X (unaryOp op) r) (ha:PE X a ta):PE X (.UnaryOp op a pos) (tUn r ta):=by
 intro pins s σ H Q I h
 exact UnaryOp_ (thn (ha pins s σ H _ I h) fun v s1 ⟨x,H1,I1,r1,q1⟩=>ho pins s1 σ H1 x v Q I1 r1 q1)
theorem opI {f:Value->Value->Sem Value} {C:Int->Int->Prop} {g:Int->Int->Int}
  (rule:∀ (i j:Int) (t u:Tok) (s:Shared) (Q:Value->Shared->Prop) (E:Value->Shared->Prop),C i j->Q (.int (g i j) s.toks) { s with toks:=s.toks+1 }->wpAny (model X.prog X.w) X.A (f (.int i t) (.int j u)) Q E s) :
  OpR X f (rI C fun i j=>.int (g i j)):=by
 intro pins s σ H x y v u Q I rx ry h; obtain ⟨i,j,rfl,rfl,hc,q⟩:=h; obtain ⟨t,rfl⟩:=rx; obtain ⟨t',rfl⟩:=ry; exact rule i j t t' s _ _ hc ⟨.int (g i j),H,I.tok _,⟨_,rfl⟩,q⟩
theorem zvX {f:Value->Value->Sem Value} {g:Int->Int->Int}
  (rule:∀ (i j:Int) (t u:Tok) (s:Shared) (Q:Value->Shared->Prop) (E:Value->Shared->Prop),Q (.int (g i j) s.toks) { s with toks:=s.toks+1 }->wpAny (model X.prog X.w) X.A (f (.int i t) (.int j u)) Q E s) :
  OpR X f (rI0 fun i j=>.int (g i j)):=by
 intro pins s σ H x y v u Q I rx ry h; obtain ⟨i,j,rfl,rfl,q⟩:=h; obtain ⟨t,rfl⟩:=rx; obtain ⟨t',rfl⟩:=ry; exact rule i j t t' s _ _ ⟨.int (g i j),H,I.tok _,⟨_,rfl⟩,q⟩
theorem zu7 {f:Value->Value->Sem Value} {g:Int->Int->Bool}
  (rule:∀ (i j:Int) (t u:Tok) (s:Shared) (Q:Value->Shared->Prop) (E:Value->Shared->Prop),Q (.bool (g i j)) s->wpAny (model X.prog X.w) X.A (f (.int i t) (.int j u)) Q E s) :
  OpR X f (rI0 fun i j=>.bl (g i j)):=by
 intro pins s σ H x y v u Q I rx ry h; obtain ⟨i,j,rfl,rfl,q⟩:=h; obtain ⟨t,rfl⟩:=rx; obtain ⟨t',rfl⟩:=ry; exact rule i j t t' s _ _ ⟨.bl (g i j),H,I,rfl,q⟩
def zoZ (i j:Int):Prop:=0<j/\j<1073741824
def zvK (i j:Int):Prop:=0<=j/\j<=1000000/\i.natAbs<2 ^ 64
def zpK (i j:Int):Prop:=(-(2 ^ 64)<i/\i<2 ^ 64)\/(-(2 ^ 64)<j/\j<2 ^ 64)
theorem zpK.ok {i j:Int} (h:zpK i j):IntMulOk i j:=by
 rcases h with ⟨h1,h2⟩ | ⟨h1,h2⟩
 ·exact .of_left (intBits_le_64 h1 h2)
 ·exact .of_right (intBits_le_64 h1 h2)
theorem zsV:OpR X (binaryOp .Add) (rI0 fun i j=>.int (i+j)):=zvX fun _ _ _ _ _ _ _ q=>add_int q
theorem zsN:OpR X (binaryOp .Sub) (rI0 fun i j=>.int (i-j)):=zvX fun _ _ _ _ _ _ _ q=>sub_int q
theorem zsQ:OpR X (binaryOp .Mult) (rI zpK fun i j=>.int (i * j)):=opI fun _ _ _ _ _ _ _ hc q=>mul_int q hc.ok
theorem zqQ:OpR X (binaryOp .FloorDiv) (rI zoZ fun i j=>.int (i / j)):=opI fun i j _ _ _ _ _ hc q=>by
 have h1:(0:Int)<j:=hc.1
 have h2:j<1073741824:=hc.2
 exact floordiv_int (by omega) (by rw [Int.fdiv_eq_ediv_of_nonneg i (by omega)]; exact q) (.inl (PyProof.noPylong_small (by omega)))
theorem zsR:OpR X (binaryOp .Mod) (rI (fun _ j=>0<j) fun i j=>.int (i % j)):=opI fun i j _ _ _ _ _ hc q=>by
 have h1:(0:Int)<j:=hc
 exact mod_int' (by omega) (by rw [Int.fmod_eq_emod_of_nonneg i (by omega)]; exact q)
theorem zsP:OpR X (binaryOp .Pow) (rI zvK fun i j=>.int (i ^ j.toNat)):=opI fun _ _ _ _ _ _ _ hc q=>pow_int_small hc.1 hc.2.1 hc.2.2 q
theorem unI {f:Value->Sem Value} {g:Int->Int}
  (rule:∀ (i:Int) (t:Tok) (s:Shared) (Q:Value->Shared->Prop) (E:Value->Shared->Prop),Q (.int (g i) s.toks) { s with toks:=s.toks+1 }->wpAny (model X.prog X.w) X.A (f (.int i t)) Q E s) :
  UnR X f (rU fun i=>.int (g i)):=by
 intro pins s σ H x v Q I rx h; obtain ⟨i,rfl,q⟩:=h; obtain ⟨t,rfl⟩:=rx; exact rule i t s _ _ ⟨.int (g i),H,I.tok _,⟨_,rfl⟩,q⟩
theorem zr1:UnR X (unaryOp .USub) (rU fun i=>.int (-i)):=unI fun _ _ _ _ _ q=>neg_int q
end
def zp9:V->V->Bool
 | .non,.non=>true | .non,.int _=>true | .int _,.non=>true | .non,.bl _=>true | .bl _,.non=>true | .non,.str _=>true | .str _,.non=>true
 | .int _,.int _=>true | .bl _,.bl _=>true | .str _,.str _=>true | .byt _,.byt _=>true
 | .int _,.str _=>true | .str _,.int _=>true | .bl _,.str _=>true | .str _,.bl _=>true
 | _,_=>false
def rEq:R2:=fun x y H Q=>zp9 x y=true/\Q (.bl (decide (x=y))) H
def rNe:R2:=fun x y H Q=>zp9 x y=true/\Q (.bl (!decide (x=y))) H
theorem zmt {i j:Int}:decide (V.int i=V.int j)=(i == j):=by
 rw [Bool.eq_iff_iff]; simp
theorem zpE {i j:Bool}:decide (V.bl i=V.bl j)=(i == j):=by
 rw [Bool.eq_iff_iff]; simp
theorem zms {i j:Str}:decide (V.str i=V.str j)=(i == j):=by
 rw [Bool.eq_iff_iff]; simp
theorem zmu {i j:Array UInt8}:decide (V.byt i=V.byt j)=(i.toList == j.toList):=by
 rw [Bool.eq_iff_iff]; cases i; cases j; simp
section
variable {X:Cx} {a b c:Expr} {ta tb tc:TE} {pos:Pos}
theorem zaV {pins:List (Addr × Obj)} {σ:St} {H:Hp} {s:Shared} {Q:VK} {k k':Bool} (I:Inv X pins σ H s) (q:Q (.bl k) H) (e:k=k'):EP X pins σ Q (.bool k') s:=by
 subst e; exact ⟨.bl k,H,I,rfl,q⟩
theorem zu6:OpR X (compareOp .Eq) rEq:=by
 intro pins s σ H x y v u Q I rx ry h; obtain ⟨hs,q⟩:=h
 cases x with
 | non =>
  cases rx
  cases y with
  | non=>cases ry; exact PySem.EqNone.eq_none_none (zaV I q (by simp))
  | bl j=>cases ry; exact PySem.EqNone.eq_none_bool (zaV I q (by simp))
  | int j=>obtain ⟨t',rfl⟩:=ry; exact PySem.EqNone.eq_none_int (zaV I q (by simp))
  | str j=>obtain ⟨t',rfl⟩:=ry; exact PySem.EqNone.eq_none_str (zaV I q (by simp))
  | _=>exact yM (show false=true from hs) yP
 | bl i =>
  cases rx
  cases y with
  | non=>cases ry; exact PySem.EqNone.eq_bool_none (zaV I q (by simp))
  | bl j=>cases ry; exact eq_bool (zaV I q zpE)
  | str j=>obtain ⟨t',rfl⟩:=ry; exact PySem.EqMixed.eq_bool_str (zaV I q (by simp))
  | _=>exact yM (show false=true from hs) yP
 | int i =>
  obtain ⟨t,rfl⟩:=rx
  cases y with
  | non=>cases ry; exact PySem.EqNone.eq_int_none (zaV I q (by simp))
  | int j=>obtain ⟨t',rfl⟩:=ry; exact eq_int (zaV I q zmt)
  | str j=>obtain ⟨t',rfl⟩:=ry; exact PySem.EqMixed.eq_int_str (zaV I q (by simp))
  | _=>exact yM (show false=true from hs) yP
 | str i =>
  obtain ⟨t,rfl⟩:=rx
  cases y with
  | non=>cases ry; exact PySem.EqNone.eq_str_none (zaV I q (by simp))
  | bl j=>cases ry; exact PySem.EqMixed.eq_str_bool (zaV I q (by simp))
  | int j=>obtain ⟨t',rfl⟩:=ry; exact PySem.EqMixed.eq_str_int (zaV I q (by simp))
  | str j=>obtain ⟨t',rfl⟩:=ry; exact eq_str (zaV I q zms)
  | _=>exact yM (show false=true from hs) yP
 | byt i =>
  obtain ⟨t,rfl⟩:=rx
  cases y with
  | byt j=>obtain ⟨t',rfl⟩:=ry; exact W.eq_bytes (zaV I q zmu)
  | _=>exact yM (show false=true from hs) yP
 | _=>cases y <;> exact yM (show false=true from hs) yP
theorem zu2:OpR X (compareOp .NotEq) rNe:=by
 intro pins s σ H x y v u Q I rx ry h; obtain ⟨hs,q⟩:=h
 cases x with
 | non =>
  cases rx
  cases y with
  | non=>cases ry; exact PySem.EqNone.ne_none_none (zaV I q (by simp))
  | bl j=>cases ry; exact PySem.EqNone.ne_none_bool (zaV I q (by simp))
  | int j=>obtain ⟨t',rfl⟩:=ry; exact PySem.EqNone.ne_none_int (zaV I q (by simp))
  | str j=>obtain ⟨t',rfl⟩:=ry; exact PySem.EqNone.ne_none_str (zaV I q (by simp))
  | _=>exact yM (show false=true from hs) yP
 | bl i =>
  cases rx
  cases y with
  | non=>cases ry; exact PySem.EqNone.ne_bool_none (zaV I q (by simp))
  | bl j=>cases ry; exact ne_bool (zaV I q (yp not zpE))
  | str j=>obtain ⟨t',rfl⟩:=ry; exact PySem.EqMixed.ne_bool_str (zaV I q (by simp))
  | _=>exact yM (show false=true from hs) yP
 | int i =>
  obtain ⟨t,rfl⟩:=rx
  cases y with
  | non=>cases ry; exact PySem.EqNone.ne_int_none (zaV I q (by simp))
  | int j=>obtain ⟨t',rfl⟩:=ry; exact ne_int (zaV I q (yp not zmt))
  | str j=>obtain ⟨t',rfl⟩:=ry; exact PySem.EqMixed.ne_int_str (zaV I q (by simp))
  | _=>exact yM (show false=true from hs) yP
 | str i =>
  obtain ⟨t,rfl⟩:=rx
  cases y with
  | non=>cases ry; exact PySem.EqNone.ne_str_none (zaV I q (by simp))
  | bl j=>cases ry; exact PySem.EqMixed.ne_str_bool (zaV I q (by simp))
  | int j=>obtain ⟨t',rfl⟩:=ry; exact PySem.EqMixed.ne_str_int (zaV I q (by simp))
  | str j=>obtain ⟨t',rfl⟩:=ry; exact ne_str (zaV I q (yp not zms))
  | _=>exact yM (show false=true from hs) yP
 | byt i =>
  obtain ⟨t,rfl⟩:=rx
  cases y with
  | byt j=>obtain ⟨t',rfl⟩:=ry; exact W.ne_bytes (zaV I q (yp not zmu))
  | _=>exact yM (show false=true from hs) yP
 | _=>cases y <;> exact yM (show false=true from hs) yP
theorem zu3:OpR X (compareOp .Lt) (rI0 fun i j=>.bl (decide (i<j))):=zu7 fun _ _ _ _ _ _ _ q=>lt_int q
theorem zu4:OpR X (compareOp .LtE) (rI0 fun i j=>.bl (decide (i<=j))):=zu7 fun _ _ _ _ _ _ _ q=>le_int q
theorem zu5:OpR X (compareOp .Gt) (rI0 fun i j=>.bl (decide (j<i))):=zu7 fun _ _ _ _ _ _ _ q=>gt_int q
theorem zlN:OpR X (compareOp .In) (fun x y H Q=>∃ i j,x=.str i/\y=.str j/\Q (.bl (!(Builtin.Str.occurrences j i 0 j.length 1).isEmpty)) H):=by
 intro pins s σ H x y v u Q I rx ry h; obtain ⟨i,j,rfl,rfl,q⟩:=h; obtain ⟨t,rfl⟩:=rx; obtain ⟨t',rfl⟩:=ry; exact in_str (zaV I q rfl)
theorem zsT:OpR X (compareOp .Is) (fun x y H Q=>y=.non/\Q (.bl (decide (x=.non))) H):=by
 intro pins s σ H x y v u Q I rx ry h; obtain ⟨rfl,q⟩:=h; cases ry; refine is_none_gen (zaV I q ?_)
 cases x <;> first
  | (cases rx; rfl)
  | (obtain ⟨t,rfl⟩:=rx; rfl)
theorem zhH:OpR X (compareOp .NotIn) (fun x y H Q=>∃ i j,x=.str i/\y=.str j/\Q (.bl (!(!(Builtin.Str.occurrences j i 0 j.length 1).isEmpty))) H):=by
 intro pins s σ H x y v u Q I rx ry h; obtain ⟨i,j,rfl,rfl,q⟩:=h; obtain ⟨t,rfl⟩:=rx; obtain ⟨t',rfl⟩:=ry; exact notIn_str (zaV I q rfl)
theorem OpR.or {f:Value->Value->Sem Value} {r r':R2} (h:OpR X f r) (h':OpR X f r'):OpR X f (fun x y H Q=>r x y H Q\/r' x y H Q):=by
 intro pins s σ H x y v u Q I rx ry q
 rcases q with q | q
 ·exact h pins s σ H x y v u Q I rx ry q
 ·exact h' pins s σ H x y v u Q I rx ry q
theorem zpj (b:Expr) {op:CmpOp} (h:op≠.In:=by decide) (h2:op≠.NotIn:=by decide):behindInMarks op b=false:=by
 have e1:(op == CmpOp.In)=false:=by cases op <;> first | rfl | exact yM rfl h
 have e2:(op == CmpOp.NotIn)=false:=by cases op <;> first | rfl | exact yM rfl h2
 cases b <;> simp [behindInMarks,e1,e2]
theorem zqL {op:CmpOp} {r:R2} (ho:OpR X (compareOp op) r) (ha:PE X a ta) (hb:PE X b tb) (hm:behindInMarks op b=false):PE X (.Compare a [op] [b] pos) (tOp r ta tb):=by
 intro pins s σ H Q I h
 exact wpAny_Compare1 (zvE ha hb I h fun v u s2 x y H2 I2 rx ry q=>ho pins s2 σ H2 x y v u Q I2 rx ry q) hm
def zr5 (t:TE):TT:=fun σ H Q=>t σ H fun x H'=>∃ k,x=.bl k/\Q k H'
theorem zqk {op:CmpOp} {r:R2} (ho:OpR X (compareOp op) r) (ha:PE X a ta) (hb:PE X b tb) (hm:behindInMarks op b=false):PT X (.Compare a [op] [b] pos) (zr5 (tOp r ta tb)):=by
 intro pins s σ H Q I h
 refine wpAny_isTrue_Compare1 (thn (ha pins s σ H _ I h) fun v s1 ⟨x,H1,I1,r1,q1⟩=>thn (hb pins s1 σ H1 _ I1 q1) fun u s2 ⟨y,H2,I2,r2,q2⟩ =>
  thn (ho pins s2 σ H2 x y v u _ I2 r1 r2 q2) fun c s3 ⟨z,H3,I3,r3,k,e,q3⟩=>?_) hm
 subst e; cases r3; exact Yi ⟨H3,I3,q3⟩
def zk9 (r r':R2) (ta tb tc:TE):TE:=fun σ H Q=>ta σ H fun x H1=>tb σ H1 fun y H2=>r x y H2 fun z H3=>∃ k,z=.bl k /\
 (if k=true then tc σ H3 fun w' H4=>r' y w' H4 Q else Q (.bl false) H3)
theorem zn4 {op op':CmpOp} {r r':R2} (ho:OpR X (compareOp op) r) (ho':OpR X (compareOp op') r') (ha:PE X a ta) (hb:PE X b tb) (hc:PE X c tc)
  (hm:lastMarks [op,op'] [b,c]=false:=by with_unfolding_all rfl):PE X (.Compare a [op,op'] [b,c] pos) (zk9 r r' ta tb tc):=by
 intro pins s σ H Q I h
 refine Compare_chain (thn (ha pins s σ H _ I h) fun v s1 ⟨x,H1,I1,r1,q1⟩=>chain_link (thn (hb pins s1 σ H1 _ I1 q1) fun u s2 ⟨y,H2,I2,r2,q2⟩ =>
  thn (ho pins s2 σ H2 x y v u _ I2 r1 r2 q2) fun d s3 ⟨z,H3,I3,r3,k,e,q3⟩=>?_)) hm
 subst e; cases r3; refine Yi ?_
 cases k with
 | false=>exact ite_ff ⟨.bl false,H3,I3,rfl,q3⟩
 | true=>exact ite_tt (chain_last (thn (hc pins s3 σ H3 _ I3 q3) fun w' s4 ⟨z',H4,I4,r4,q4⟩=>ho' pins s4 σ H4 y z' u w' Q I4 r2 r4 q4))
theorem znM {op op':CmpOp} {r r':R2} (ho:OpR X (compareOp op) r) (ho':OpR X (compareOp op') r') (ha:PE X a ta) (hb:PE X b tb) (hc:PE X c tc)
  (hm:lastMarks [op,op'] [b,c]=false:=by with_unfolding_all rfl):PT X (.Compare a [op,op'] [b,c] pos) (zr5 (zk9 r r' ta tb tc)):=by
 intro pins s σ H Q I h
 refine isTrue_chain (thn (ha pins s σ H _ I h) fun v s1 ⟨x,H1,I1,r1,q1⟩=>test_link (thn (hb pins s1 σ H1 _ I1 q1) fun u s2 ⟨y,H2,I2,r2,q2⟩ =>
  thn (ho pins s2 σ H2 x y v u _ I2 r1 r2 q2) fun d s3 ⟨z,H3,I3,r3,k,e,q3⟩=>?_)) hm
 subst e; cases r3; refine Yi ?_
 cases k with
 | false =>
  obtain ⟨k',e',q'⟩:=q3; cases e'; exact ite_ff ⟨H3,I3,q'⟩
 | true =>
  refine ite_tt (test_last (thn (hc pins s3 σ H3 _ I3 q3) fun w' s4 ⟨z',H4,I4,r4,q4⟩=>thn (ho' pins s4 σ H4 y z' u w' _ I4 r2 r4 q4) fun d' s5 ⟨z2,H5,I5,r5,k2,e2,q5⟩=>?_))
  subst e2; cases r5; exact Yi ⟨H5,I5,q5⟩
theorem zhS:(sizeLine:Nat)<2 ^ 63:=by rw [sizeLine_eq]; decide
theorem zks:OpR X (binaryOp .Add) (fun x y H Q=>∃ i j,x=.str i/\y=.str j/\i.length+j.length<=sizeLine/\Q (.str (i ++ j)) H):=by
 intro pins s σ H x y v u Q I rx ry h; obtain ⟨i,j,rfl,rfl,hz,q⟩:=h; obtain ⟨t,rfl⟩:=rx; obtain ⟨t',rfl⟩:=ry
 exact add_str (fun t' tk=>⟨.str (i ++ j),H,I.tok _,⟨_,rfl⟩,q⟩) hz
theorem zcX {x:V} {us:List Value} (r:za7 [x] us):∃ u,us=[u]/\zbo x u:=by
 cases r with
 | cons r1 r2=>cases r2; exact ⟨_,rfl,r1⟩
theorem znc {x y:V} {us:List Value} (r:za7 [x,y] us):∃ u w',us=[u,w']/\zbo x u/\zbo y w':=by
 cases r with
 | cons r1 r2 =>
  cases r2 with
  | cons r3 r4=>cases r4; exact ⟨_,_,rfl,r1,r3⟩
theorem zmI:zdn X (.type "int") (fun xs H Q=>(∃ i,xs=[.int i]/\Q (.int i) H)\/∃ k,xs=[.bl k]/\Q (.int (if k then 1 else 0)) H):=by
 intro pins s σ H xs us Q I r h
 rcases h with ⟨i,rfl,q⟩ | ⟨k,rfl,q⟩
 ·obtain ⟨u,rfl,t,rfl⟩:=zcX r
  exact call_int_int ⟨.int i,H,I,⟨_,rfl⟩,q⟩
 ·obtain ⟨u,rfl,r1⟩:=zcX r
  cases r1
  exact call_int_bool ⟨.int (if k then 1 else 0),H,I.tok _,⟨_,rfl⟩,q⟩
theorem zib:zdn X (.type "str") (fun xs H Q=>∃ i,xs=[.int i]/\i.natAbs.log2<1920/\Q (.str (toString i)) H):=by
 intro pins s σ H xs us Q I r h; obtain ⟨i,rfl,hz,q⟩:=h; obtain ⟨u,rfl,t,rfl⟩:=zcX r; exact PySem.P.str_of_int hz ⟨.str _,H,I.tok _,⟨_,rfl⟩,q⟩
end
structure ObjM (h:Heap) (x dx C:Addr) (mA:Str->Option Value):Prop where
 obj:h.get? x=some (W.instObj C dx)
 ns:h.Ns1 dx mA
 ne:dx≠x
theorem zl6 {h:Heap} {dx:Addr} {mA:Str->Option Value} (n:h.Ns1 dx mA):∃ od,h.get? dx=some od/\∀ name,W.lookIn name od=some (mA name):=by
 obtain ⟨o,es,ep,ho,hd,hk,_,hm⟩:=n
 refine ⟨o,ho,fun name=>?_⟩
 have e:=hm name; unfold nsFind findBy at e; rw [<- Array.find?_toList] at e; unfold W.lookIn; rw [hd]
 dsimp only
 split
 ·rename_i y q
  rw [q] at e; exact yp some e
 ·rename_i q
  rw [q] at e
  have a:es.toList.any (·.refKey)=false:=by
   rw [List.any_eq_false]; intro y hy; obtain ⟨z,t,hkey⟩:=hk y (Array.mem_toList_iff.mp hy); simp [DictEntry.refKey,hkey]
  have a':¬ es.toList.any (·.refKey)=true:=by rw [a]; exact yP
  rw [yQ a']; exact yp some e
theorem ObjM.look {h:Heap} {x dx C:Addr} {mA:Str->Option Value} (I:ObjM h x dx C mA):∃ od,W.InstAt h x (W.instObj C dx) C (some od)/\∀ name,W.lookIn name od=some (mA name) :=
 let ⟨od,ho,hl⟩:=zl6 I.ns
 ⟨od,⟨I.obj,rfl,rfl,ho⟩,hl⟩
section
variable {prog:Program} {w:World} {A:Around} {E:Value->Shared->Prop} {s:Shared} {K:W.Frag} {x dx C f:Addr} {mA:Str->Option Value} {name:Str} {v:Value}
end
theorem zmQ.some_of {v:V} {o:Option Value} (r:zmQ (some v) o):∃ u,o=some u/\zbo v u:=by
 cases o with
 | none=>exact (show False from r).elim
 | some u=>exact ⟨u,rfl,r⟩
section
variable {P:Program} {w:World} {H H':Hp} {h h':Heap} {a C dx:Addr} {fs fs':List (Str × V)}
theorem zrp (hok:HOk P w H h) (e:H a=some (.ins C dx fs)):∃ mA,ObjM h a dx C mA/\(∀ f,zmQ (fs.lookup f) (mA f))/\PySem.Within mA (fs.map (·.1))/\fs.length<=1000/\H dx=some (.own a):=by
 obtain ⟨d,z,ne,ob,mA,n,r,q⟩:=(show zbM P w H h a (.ins C dx fs) from hok a _ e)
 exact ⟨mA,⟨ob,n,ne⟩,r,q,z,d⟩
end
structure Cls (K:W.Frag) (C:Addr):Prop where
 pg:W.plainGet K C Str.empty=true
 hd:W.hasDictIn K C=true
 po:W.plainOver K C=true
 sa:W.findIn K (.ref C) "__setattr__"=some (some (.builtin "object.__setattr__"))
theorem Cls.get {K:W.Frag} {C:Addr} (c:Cls K C) (f:Str):W.plainGet K C f=true:=c.pg
section
variable {X:Cx} {pins:List (Addr × Obj)} {σ:St} {H:Hp} {s:Shared} {a C dx:Addr} {fs:List (Str × V)} {f:Str} {v:V} {A:Around} {E:Value->Shared->Prop}
end
section
variable {X:Cx} {o e value:Expr} {f:Str} {pos pos' tpos:Pos} {ta tv:TE}
end
section
variable {X:Cx} {pins:List (Addr × Obj)} {σ:St} {H:Hp} {s:Shared} {A:Around} {E:Value->Shared->Prop} {Q:Value->Shared->Prop} {c:Value} {b:Bool}
end
structure Room (k:Nat) (A:Around):Prop where
 hd:A.handled=none
 dp:A.depth+3 * k+5<recursionLimit
 un:A.units+16 * k+200<cLine
theorem Room.mono {j k:Nat} {A:Around} (r:Room k A) (h:j<=k):Room j A:=⟨r.hd,by have:=r.dp; omega,by have:=r.un; omega⟩
theorem Room.deeper {k:Nat} {A:Around} (r:Room (k+1) A) (env:Env):Room k (A.deeper env) :=
 ⟨r.hd,by have:=r.dp; show A.depth+1+3 * k+5<_; omega,by have:=r.un; show A.units+3+16 * k+200<_; omega⟩
theorem Room.in1 {k:Nat} {A:Around} (r:Room (k+1) A):Room k A.in1 :=
 ⟨r.hd,by have:=r.dp; show A.depth+3 * k+5<_; omega,by have:=r.un; show A.units+1+16 * k+200<_; omega⟩
theorem Room.depth {k:Nat} {A:Around} (r:Room k A):A.depth<recursionLimit:=by have:=r.dp; omega
theorem Room.units {k:Nat} {A:Around} (r:Room k A):A.units+64<cLine:=by have:=r.un; omega
theorem Room.units0 {k:Nat} {A:Around} (r:Room k A):A.units<cLine:=by have:=r.un; omega
def zmU:TA:=fun _ H Q=>Q [] H
def zfV (ta:TE) (tr:TA):TA:=fun σ H Q=>ta σ H fun x H1=>tr σ H1 fun xs H2=>Q (x :: xs) H2
section
variable {X:Cx} {e:Expr} {es:List Expr} {te:TE} {t:TA} {pos:Pos}
theorem zgg:PA X [] zmU:=fun _ _ _ _ H Q I h=>Yl ⟨[],H,I,.nil,h⟩
theorem zeH (ha:PE X e te) (hr:PA X es t) (hs:starEach (e :: es) X.env=(false,eval e X.env) :: starEach es X.env:=by rfl):PA X (e :: es) (zfV te t):=by
 intro pos pins s σ H Q I h; rw [hs]
 show wpAny _ _ (spliced ((false,eval e X.env) :: backTo pos (starEach es X.env))) _ _ s
 refine YO (thn (ha pins s σ H _ I h) fun u s1 ⟨x,H1,I1,r1,q1⟩=>?_)
 exact thn (hr pos pins s1 σ H1 _ I1 q1) fun us s2 ⟨xs,H2,I2,r2,q2⟩=>⟨x :: xs,H2,I2,.cons r1 r2,q2⟩
def zuw (t:TA):TE:=fun σ H Q=>t σ H fun xs H1=>xs.length<=sizeLine/\∀ p,H1 p=none->Q (.ref p) (upd H1 p (.tup xs))
def zr7 (t:TA):TE:=fun σ H Q=>t σ H fun xs H1=>xs.length<=sizeLine/\∀ p,H1 p=none->Q (.ref p) (upd H1 p (.lst xs))
theorem zpe {x1} (h:PA X es t):PE X (.Tuple es x1 pos) (zuw t):=by
 intro pins s σ H Q I hq
 refine wpAny_Tuple_spliced (thn (h pos pins s σ H _ I hq) fun us s1 ⟨xs,H1,I1,r,z,q⟩=>⟨by rw [<- r.length]; exact z,?_⟩)
 have hf:H1 s1.heap.objs.size=none:=I1.hok.fresh (yG _)
 refine ⟨.ref s1.heap.objs.size,upd H1 s1.heap.objs.size (.tup xs),I1.laid (t':=s1.toks) (fun b u e=>yB _ e) (yG _) ?_,rfl,q _ hf⟩
 exact ⟨z,us,r,⟨_,yK _ rfl,rfl,_,rfl⟩⟩
theorem zlH (h:PA X es t):PE X (.List es pos) (zr7 t):=by
 intro pins s σ H Q I hq
 refine wpAny_List_spliced (thn (h pos pins s σ H _ I hq) fun us s1 ⟨xs,H1,I1,r,z,q⟩=>⟨by rw [<- r.length]; exact z,?_⟩)
 have hf:H1 s1.heap.objs.size=none:=I1.hok.fresh (yG _)
 refine ⟨.ref s1.heap.objs.size,upd H1 s1.heap.objs.size (.lst xs),I1.laid (t':=s1.toks) (fun b u e=>yB _ e) (yG _) ?_,rfl,q _ hf⟩
 exact ⟨z,us,0,r,yK _ rfl⟩
end
abbrev Sp:=List V->Hp->VK->XK->Prop
abbrev CXT:=List Env->Hp->Shared->XK->Value->Shared->Prop
structure Env0 (P:Program) (w:World) (K:W.Frag) (mg:Str->Option Value) (base:Heap) (A:Around) (outer:List Env) (s:Shared) (H:Hp):Prop where
 frames:A.frames=some outer
 mod:Mod K mg base
 bs:∀ b o,base.get? b=some o->s.heap.get? b=some o/\H b=none
 bsz:base.objs.size<=s.heap.objs.size
 funs:s.heap.FunFrames base outer
 frf:∀ b ∈ frs outer,H b=none
 hok:HOk P w H s.heap
 bare:AllBare s.gens
 tab:zkR base H
def CE (outer:List Env) (P:Program) (w:World) (H:Hp) (s:Shared) (Q:VK) (u:Value) (s':Shared):Prop :=
 ∃ v H',s'.os=s.os/\AllBare s'.gens/\Un (frs outer) [] H H' s.heap s'.heap/\HOk P w H' s'.heap/\zbo v u/\Q v H'
def CR (CX:CXT) (outer:List Env) (P:Program) (w:World) (H:Hp) (s:Shared) (Q:VK) (E:XK) (r:Result) (s':Shared):Prop :=
 match r with
 | .ok (.ret u)=>CE outer P w H s Q u s'
 | .ok _=>False
 | .error e=>CX outer H s E e s'
structure FnOk (P:Program) (w:World) (K:W.Frag) (mg:Str->Option Value) (base:Heap) (CX:CXT) (k:Nat) (f:Addr) (fd:FuncData) (ps:List Str) (sp:Sp):Prop where
 len:∀ vs H Q E,sp vs H Q E->vs.length=ps.length
 run:∀ (A:Around) (outer:List Env) (s:Shared) (H:Hp) (args:Args) (us:List Value) (vs:List V) (Q:VK) (E:XK),Room k A->Env0 P w K mg base A outer s H->BindsTo s fd args (ps.zip us)->za7 vs us->sp vs H Q E ->
  codeAny (model P w) A (.call (.ref f) args) (CR CX outer P w H s Q E) s
theorem Env0.in1 {P:Program} {w:World} {K:W.Frag} {mg:Str->Option Value} {base:Heap} {A:Around} {outer:List Env} {s:Shared} {H:Hp} (e:Env0 P w K mg base A outer s H) :
  Env0 P w K mg base A.in1 outer s H:=⟨e.frames,e.mod,e.bs,e.bsz,e.funs,e.frf,e.hok,e.bare,e.tab⟩
section
variable {X:Cx} {pins:List (Addr × Obj)} {σ:St} {H:Hp} {s s':Shared}
theorem Inv.env0 (I:Inv X pins σ H s):Env0 X.prog X.w X.K X.mg X.base X.A X.stack s H :=
 ⟨I.ok.frames,I.ok.mod,I.bs,yz I.ok.bsz I.sz,I.stack,I.stkFree,I.hok,I.bare,I.ok.tab.un I.base.tbls⟩
theorem Inv.after {Q:VK} {u:Value} (I:Inv X pins σ H s) (h:CE X.stack X.prog X.w H s Q u s'):EP X pins σ Q u s':=by
 obtain ⟨v,H',os,bare,un,hok,r,q⟩:=h; obtain ⟨hh,g,d,t,os'⟩:=s'
 obtain rfl:os'=s.os:=os
 exact ⟨v,H',I.call (h':=hh) (g':=g) (d':=d) (t':=t) (ch:=[]) un hok bare (fun b z=>yM z (by simp)),r,q⟩
end
def zuC (sp:Sp) (dvs:List V) (E:XK) (t:TA):TE:=fun σ H Q=>t σ H fun vs H1=>sp (vs ++ dvs) H1 Q E
def zd2 (K:W.Frag) (fd:FuncData) (ps:List Str) (ds:List Value):Prop :=
 ∀ (s:Shared) (us:List Value),K.In s.heap->(us ++ ds).length=ps.length->BindsTo s fd ⟨us,[]⟩ (ps.zip (us ++ ds))
theorem zd2.all {K:W.Frag} {fd:FuncData} {ps:List Str} (h:∀ us:List Value,us.length=ps.length->bindArgs fd ⟨us,[]⟩=pure (ps.zip us)):zd2 K fd ps []:=fun s us _ hl=>by
 rw [YG] at hl ⊢; exact .of_eq (h us hl)
def zmS (CX:CXT) (X:Cx) (E:XK):Prop:=∀ (pins:List (Addr × Obj)) (σ:St) (H:Hp) (s:Shared) (e:Value) (s':Shared),Inv X pins σ H s->CX X.stack H s E e s'->X.xe e s'
section
variable {X:Cx} {CX:CXT} {k:Nat} {f C:Addr} {fd:FuncData} {ps:List Str} {sp:Sp} {dvs:List V} {ds:List Value} {E:XK} {x m:Str} {p pos apos:Pos} {e o:Expr} {es:List Expr} {ta:TE} {t:TA}
theorem zo7 {pins:List (Addr × Obj)} {σ:St} {H:Hp} {s:Shared} {Q:VK} {us:List Value} {vs:List V} (F:FnOk X.prog X.w X.K X.mg X.base CX k f fd ps sp) (hr:Room k X.A) (hb:zd2 X.K fd ps ds) (hd:za7 dvs ds) (hx:zmS CX X E)
  (I:Inv X pins σ H s) (r:za7 vs us) (h:sp (vs ++ dvs) H Q E):wpAny (model X.prog X.w) X.A (call (.ref f) us) (EP X pins σ Q) X.xe s:=by
 have r2:za7 (vs ++ dvs) (us ++ ds):=r.append hd
 have hl:(us ++ ds).length=ps.length:=by rw [<- r2.length]; exact F.len _ _ _ _ h
 refine wpAny_call (codeAny_mono (F.run X.A X.stack s H ⟨us,[]⟩ (us ++ ds) (vs ++ dvs) Q E hr I.env0 (hb s us I.kIn hl) r2 h) fun r s' hq=>?_)
 cases r with
 | error e=>exact hx pins σ H s e s' I hq
 | ok fl =>
  cases fl with
  | ret u=>exact I.after hq
  | next=>exact False.elim hq
  | brk=>exact False.elim hq
  | cont=>exact False.elim hq
theorem zqM (F:FnOk X.prog X.w X.K X.mg X.base CX k f fd ps sp) (hr:Room k X.A) (hg:Gl X x) (hm:X.mg x=some (.ref f)) (hk:W.keepIn X.K (.ref f)=true) (hb:zd2 X.K fd ps ds) (hd:za7 dvs ds) (hx:zmS CX X E)
  (ha:PA X (e :: es) t) (hdb:(x == ("__debug__":Str))=false:=by decide) (he:starEach (e :: es) X.env=(false,eval e X.env) :: starEach es X.env:=by rfl) (hpl:(backTo pos (starEach es X.env)).any (·.1)=false:=by rfl) :
  PE X (.Call (.Name x p) (e :: es) [] pos) (zuC sp dvs E t):=by
 intro pins s σ H Q I h; refine Ys (zdZ I hg hm ?_ hdb)
 refine W.callWith_K (h₀:=X.base) I.ok.mod.kin hk (thn (ha pos pins s σ H _ I h) fun us s1 ⟨vs,H1,I1,r,q⟩=>⟨I1.kIn,?_⟩) he hpl
 exact zo7 F hr hb hd hx I1 r q
end
def PK (X:Cx) (kws:List Keyword) (t:TA):Prop :=
 ∀ (pos:Pos) (pins:List (Addr × Obj)) (s:Shared) (σ:St) (H:Hp) (Q:List V->Hp->Prop),Inv X pins σ H s->t σ H Q->wpAny (model X.prog X.w) X.A (evalAll ((backToKw pos (keywordEach kws X.env)).map (·.2))) (AP X pins σ Q) X.xe s
section
variable {X:Cx} {CX:CXT} {k:Nat} {f C:Addr} {fd:FuncData} {ps ks:List Str} {sp:Sp} {E:XK} {x m:Str} {p pos apos kpos:Pos} {e o:Expr} {es:List Expr} {kws:List Keyword} {te ta:TE} {t tk:TA} {nm:Option Str}
theorem zsA:PK X [] zmU:=fun _ _ _ _ H Q I h=>wpAny_evalAll_nil ⟨[],H,I,.nil,h⟩
theorem zqu (ha:PE X e te) (hr:PK X kws t):PK X (⟨nm,e,kpos⟩ :: kws) (zfV te t):=by
 intro pos pins s σ H Q I h
 show wpAny _ _ (evalAll ((do let v <- eval e X.env; standAt pos; pure v) :: (backToKw pos (keywordEach kws X.env)).map (·.2))) _ _ s
 refine wpAny_evalAll_cons (yA (thn (ha pins s σ H _ I h) fun u s1 ⟨x,H1,I1,r1,q1⟩=>yA (wpAny_standAt (yE ?_))))
 exact thn (hr pos pins s1 σ H1 _ I1 q1) fun us s2 ⟨xs,H2,I2,r2,q2⟩=>⟨x :: xs,H2,I2,.cons r1 r2,q2⟩
variable {g:List Value->List Value->List Value} {gV:List V->List V->List V}
end
structure FnScope (N P:List Str) (sc:Scope):Prop where
 kind:sc.kind=.function
 co:sc.isCoroutine=false
 gen:sc.isGenerator=false
 nd:N.Nodup
 pre:N.take P.length=P
 par:∀ x ∈ P,sc.names.lookup x=some .local\/sc.names.lookup x=some .cell
 nofree:∀ y ∈ sc.names,y.2≠.free
theorem zih {kindOf:Str->Option NameKind} {x:Str}:∀ {binds:List (Str × Value)} {m:Str->Option Value},(∀ v,(x,v) ∉ binds)->bindL kindOf binds m x=m x
 | [],_,_=>rfl
 | (n,v) :: r,m,h=>by
  unfold bindL
  rw [zih fun w hw=>h w (yI _ hw)]
  split
  ·have:x≠n:=by rintro rfl; exact h v yR
   simp [this]
  ·rfl
theorem zij {kindOf:Str->Option NameKind} {x:Str}:∀ {binds:List (Str × Value)} {m:Str->Option Value},(∀ v,(x,v) ∉ binds)->bindC kindOf binds m x=m x
 | [],_,_=>rfl
 | (n,v) :: r,m,h=>by
  unfold bindC
  rw [zij fun w hw=>h w (yI _ hw)]
  split
  ·rfl
  ·have:x≠n:=by rintro rfl; exact h v yR
   simp [this]
theorem zii {kindOf:Str->Option NameKind} {x:Str} {v:Value}:∀ {P:List Str} {vs:List Value} {i:Nat} {m:Str->Option Value},P.Nodup->P[i]?=some x->vs[i]?=some v->kindOf x=some .local ->
  bindL kindOf (P.zip vs) m x=some v
 | [],_,_,_,_,h,_,_=>by simp at h
 | _ :: _,[],_,_,_,_,h,_=>by simp at h
 | p :: P,w :: vs,0,m,nd,h1,h2,hk=>by
  simp at h1 h2; subst h1; subst h2
  show bindL kindOf ((p,w) :: P.zip vs) m p=_
  unfold bindL
  rw [zih fun v hv=>(YD.mp nd).1 (List.of_mem_zip hv).1,yS hk]
  simp
 | p :: P,w :: vs,i+1,m,nd,h1,h2,hk=>by
  show bindL kindOf ((p,w) :: P.zip vs) m x=_
  unfold bindL
  exact zii (i:=i) (YD.mp nd).2 (by simpa using h1) (by simpa using h2) hk
theorem zik {kindOf:Str->Option NameKind} {x:Str} {v:Value}:∀ {P:List Str} {vs:List Value} {i:Nat} {m:Str->Option Value},P.Nodup->P[i]?=some x->vs[i]?=some v->kindOf x≠some .local ->
  bindC kindOf (P.zip vs) m x=some v
 | [],_,_,_,_,h,_,_=>by simp at h
 | _ :: _,[],_,_,_,_,h,_=>by simp at h
 | p :: P,w :: vs,0,m,nd,h1,h2,hk=>by
  simp at h1 h2; subst h1; subst h2
  show bindC kindOf ((p,w) :: P.zip vs) m p=_
  unfold bindC
  rw [zij fun v hv=>(YD.mp nd).1 (List.of_mem_zip hv).1,yQ hk]
  simp
 | p :: P,w :: vs,i+1,m,nd,h1,h2,hk=>by
  show bindC kindOf ((p,w) :: P.zip vs) m x=_
  unfold bindC
  exact zik (i:=i) (YD.mp nd).2 (by simpa using h1) (by simpa using h2) hk
def start (N:List Str) (vs:List V):St:=vs.map some ++ List.replicate (N.length-vs.length) none
def zi5 (CX:CXT) (P:Program) (w:World) (K:W.Frag) (mg:Str->Option Value) (base:Heap) (N:List Str) (qual:Str) (scope:Scope) (f:Addr) (cd:Value) (A:Around) (outer:List Env) (s:Shared) (H:Hp) (E:XK):Cx where
 prog:=P
 w:=w
 K:=K
 mg:=mg
 base:=base
 A:=A.deeper (envOfC qual scope s.heap.objs.size f cd)
 N:=N
 s₀:=s
 H₀:=H
 env:=envOfC qual scope s.heap.objs.size f cd
 outer:=outer
 stack:=envOfC qual scope s.heap.objs.size f cd :: outer
 ex:=[]
 calm:=true
 fn:=fun _=>true
 pn:=[]
 xe:=fun e s'=>wpAny (model P w) (A.deeper (envOfC qual scope s.heap.objs.size f cd)) (leaving (envOfC qual scope s.heap.objs.size f cd) e) (fun _ s''=>CX outer H s E e s'') (fun e' s''=>CX outer H s E e' s'') s'
theorem zj4 {sc:Scope} {n:Nat} {x:Str} (h:sc.names.lookup x=some .cell):∃ c,(cellsFrom n sc.names []).lookup x=some c:=by
 have q:=W.cellsFrom_some sc.names n [] (.inl h); exact Option.isSome_iff_exists.mp q
theorem zmg {CX:CXT} {P:Program} {w:World} {K:W.Frag} {mg:Str->Option Value} {base:Heap} {N ps:List Str} {qual:Str} {scope:Scope} {f:Addr} {cd:Value} {A:Around} {outer:List Env} {s s1:Shared} {H:Hp} {E:XK} {us:List Value} {vs:List V}
  (S:FnScope N ps scope) (hd:A.handled=none) (e0:Env0 P w K mg base A outer s H) (hl:vs.length=ps.length) (r:za7 vs us)
  (x:InCallC s s.heap.objs.size (bindL (envOfC qual scope s.heap.objs.size f cd).kindOf (ps.zip us) fun _=>none) (cellsFrom (s.heap.objs.size+1) scope.names []) (bindC (envOfC qual scope s.heap.objs.size f cd).kindOf (ps.zip us) fun _=>none) s1) :
  Inv (zi5 CX P w K mg base N qual scope f cd A outer s H E) [] (start N vs) H s1:=by
 have hpl:ps.length<=N.length:=by have:=yp List.length S.pre; rw [YQ] at this; omega
 obtain ⟨h1,tk,rfl,hk⟩:=x.done
 have noA:∀ b:Addr,b ∉ (zi5 CX P w K mg base N qual scope f cd A outer s H E).ex:=fun b z=>yM (show b ∈ ([]:List Addr) from z) (by simp)
 refine ⟨⟨e0.mod,S.kind,rfl,rfl,yG _,fun y z c h1 h2=>?_,fun y hy=>?_,fun y c _ h=>?_,fun _=>hd,Around.frames_deeper e0.frames,.inr ⟨rfl,rfl⟩,fun b z=>yM z (noA b),e0.bs,e0.bsz,fun b _ _=>noA b,fun b z=>yM z (noA b),e0.funs,e0.frf,e0.tab⟩,
  rfl,e0.bare,Un.kept hk,⟨_,x.toInCall.ns,fun i y v h1 h2 h3=>?_⟩,fun y c h=>⟨_,x.cell y c h⟩,e0.hok.fresh (yG _),fun y c h=>?_,fun p hp=>yM (show p ∈ ([]:List (Addr × Obj)) from hp) (by simp),e0.hok.kept hk,?_⟩
 ·exact name_of_addr x.apart (PySem.mem_of_lookup h1) (PySem.mem_of_lookup h2)
 ·have hy:scope.names.lookup y=some .cell\/scope.names.lookup y=some .free:=hy
  rcases hy with hy | hy
  ·exact zj4 hy
  ·exact yM rfl (S.nofree _ (PySem.mem_of_lookup hy))
 ·exact YZ (x.above y c (PySem.mem_of_lookup h))
 ·have hi:i<vs.length:=by
   unfold start at h2
   by_cases hi:i<vs.length
   ·exact hi
   ·rw [List.getElem?_append_right (by simpa using hi)] at h2
    rw [List.getElem?_replicate] at h2
    split at h2 <;> cases h2
  have ha:vs[i]?=some v:=by
   unfold start at h2
   rw [Yc (by simpa using hi),yL] at h2
   cases e:vs[i]? with
   | none=>rw [e] at h2; cases h2
   | some a=>rw [e] at h2; cases h2; rfl
  obtain ⟨u,hu,rv⟩:=r.get ha
  have hp:ps[i]?=some y:=by
   rw [<- S.pre,List.getElem?_take_of_lt (by omega)]; exact h1
  have ndP:ps.Nodup:=by rw [<- S.pre]; exact S.nd.sublist (List.take_sublist _ _)
  refine ⟨u,rv,?_⟩
  rcases S.par y (yb hp) with k | k
  ·exact .inl ⟨k,zii ndP hp hu k⟩
  ·obtain ⟨c,e⟩:=zj4 (n:=s.heap.objs.size+1) k
   refine .inr ⟨.inl k,c,e,?_⟩; have q:=x.cell y c e
   rw [zik ndP hp hu (by show scope.names.lookup y≠_; rw [k]; decide)] at q
   exact q
 ·exact e0.hok.fresh (YZ (x.above y c (PySem.mem_of_lookup h)))
 ·unfold start
  show _=N.length
  rw [yH,yD,List.length_replicate]; omega
theorem zto {CX:CXT} {P:Program} {w:World} {K:W.Frag} {mg:Str->Option Value} {base:Heap} {k:Nat} {f:Addr} {name qual:Str} {params:Arguments} {body:List Stmt} {scope:Scope} {dV kV doc pm cdv ct oc:Value} {an od:Option Addr}
  {osl:Array (Option Value)} {N ps:List Str} {sp:Sp} (lk:K.lookup f=some ⟨oc,od,.func (W.fnOf name qual params body scope dV kV doc pm an cdv ct),osl⟩) (hcd:W.codeIn K cdv qual=true) (S:FnScope N ps scope)
  (len:∀ vs H Q E,sp vs H Q E->vs.length=ps.length)
  (hbody:∀ (A:Around) (outer:List Env) (s:Shared) (H:Hp) (vs:List V) (Q:VK) (E:XK),Room k (A.deeper (envOfC qual scope s.heap.objs.size f cdv))->sp vs H Q E ->
   ∃ t,PSs (zi5 CX P w K mg base N qual scope f cdv A outer s H E) body t/\t { nx:=fun _ H'=>Q .non H',rt:=Q } (start N vs) H) :
  FnOk P w K mg base CX (k+1) f (W.fnOf name qual params body scope dV kV doc pm an cdv ct) ps sp:=by
 refine ⟨len,fun A outer s H args us vs Q E hr e0 hb r hsp=>?_⟩
 have hl:=len _ _ _ _ hsp
 have KX:K.In s.heap:=e0.mod.kin.keeps fun b o e=>(e0.bs b o e).1
 have lim:s.heap.NoLimit:=e0.mod.nolimit.keeps fun b o e=>(e0.bs b o e).1
 have hkind:∀ y ∈ ps.zip us,scope.names.lookup y.1=some .local\/(scope.names.lookup y.1=some .cell/\((cellsFrom (s.heap.objs.size+1) scope.names []).lookup y.1).isSome=true):=fun ⟨n,v⟩ hy=>by
  rcases S.par n (List.of_mem_zip hy).1 with q | q
  ·exact .inl q
  ·exact .inr ⟨q,W.cellsFrom_some _ _ _ (.inl q)⟩
 refine codeAny_call_function hr.depth (KX _ _ lk) rfl S.co S.gen rfl (W.codeRec_of KX hcd) (hb _ _ _ _ ?_)
 refine wpAny_newFunctionEnv_cells S.kind hkind fun env he s1 x=>?_
 subst he; refine ⟨lim.keeps x.toInCall.keep,codeAny_func ?_⟩; obtain ⟨t,ht,hq⟩:=hbody A outer s H vs Q E (hr.deeper _) hsp
 have I:Inv (zi5 CX P w K mg base N qual scope f cdv A outer s H E) [] (start N vs) H s1:=zmg S hr.hd e0 hl r x
 refine yx (ht [] s1 (start N vs) H _ I hq) (fun fl s' hs=>?_) fun e s' hs=>hs
 have fin:∀ {σ':St} {H':Hp} {v:V} {u:Value},Inv (zi5 CX P w K mg base N qual scope f cdv A outer s H E) [] σ' H' s'->zbo v u->Q v H'->CE outer P w H s Q u s' :=
  fun {σ' H' v u} J rv q=>⟨v,H',J.os,J.bare,J.base,J.hok,rv,q⟩
 cases fl with
 | ret u =>
  obtain ⟨v,σ',H',J,rv,q⟩:=hs; exact fin J rv q
 | next =>
  obtain ⟨σ',H',J,q⟩:=hs; exact fin (v:=V.non) (u:=Value.none) J rfl q
 | brk =>
  obtain ⟨_,_,_,q⟩:=hs; exact False.elim q
 | cont =>
  obtain ⟨_,_,_,q⟩:=hs; exact False.elim q
section
variable {X:Cx} {x:Str} {p pos:Pos} {e:Expr} {es:List Expr} {t:TA} {id T:String} {r:List V->Hp->VK->Prop}
def tCB (r:List V->Hp->VK->Prop) (t:TA):TE:=fun σ H Q=>t σ H fun vs H1=>r vs H1 Q
theorem zn5 (hc:zdn X (.builtin id) r) (hg:Gl X x) (hm:X.mg x=none) (hv:bootBuiltins x=some (.builtin id)) (ha:PA X (e :: es) t) (hn:x≠"__name__":=by decide) (hdb:(x == ("__debug__":Str))=false:=by decide)
  (he:starEach (e :: es) X.env=(false,eval e X.env) :: starEach es X.env:=by rfl) (hpl:(backTo pos (starEach es X.env)).any (·.1)=false:=by rfl):PE X (.Call (.Name x p) (e :: es) [] pos) (tCB r t):=by
 intro pins s σ H Q I h; refine Ys (zcA I hg hm hv ?_ hn hdb)
 exact PyProof.Rows.callWith_builtin1 (thn (ha pos pins s σ H _ I h) fun us s1 ⟨vs,H1,I1,r1,q1⟩=>hc pins s1 σ H1 vs us Q I1 r1 q1) he hpl
theorem zlM (hc:zdn X (.type T) r) (hg:Gl X x) (hm:X.mg x=none) (hv:bootBuiltins x=some (.type T)) (ha:PA X (e :: es) t) (hn:x≠"__name__":=by decide) (hdb:(x == ("__debug__":Str))=false:=by decide)
  (he:starEach (e :: es) X.env=(false,eval e X.env) :: starEach es X.env:=by rfl) (hpl:(backTo pos (starEach es X.env)).any (·.1)=false:=by rfl):PE X (.Call (.Name x p) (e :: es) [] pos) (tCB r t):=by
 intro pins s σ H Q I h; refine Ys (zcA I hg hm hv ?_ hn hdb)
 exact yq (thn (ha pos pins s σ H _ I h) fun us s1 ⟨vs,H1,I1,r1,q1⟩=>hc pins s1 σ H1 vs us Q I1 r1 q1) he hpl
end
end L2
namespace HT
open PySem PyProof.Rows
section
open PySem.SeqAt
open PySem.AutoSeq1 (wpAny_loadPart')
open PySem.MeetsSeq PySem.MeetsSeq2 PySem.MeetsSeq3
end
section
variable {prog:Program} {w:World} {A:Around} {E:Value->Shared->Prop} {s:Shared}
theorem cat_tup {t b:Addr} {vs ws:List Value} {Q:Value->Shared->Prop} (ht:IsTup s.heap t vs.toArray) (hb:IsTup s.heap b ws.toArray) (hv:vs≠[])
  (h1:ws=[]->Q (.ref t) s) (h2:ws≠[]->Q (.ref s.heap.objs.size) { s with heap:=s.heap.push { cls:=.type "tuple",data:=.seq (vs ++ ws).toArray } })
  (hsz:vs.length+ws.length<=sizeLine):wpAny (model prog w) A (binaryOp .Add (.ref t) (.ref b)) Q E s:=by
 obtain ⟨⟨cls,dd,data,sl⟩,ho,hc,n,hd⟩:=id ht
 obtain ⟨⟨cls2,dd2,data2,sl2⟩,ho2,hc2,n2,hd2⟩:=id hb
 simp only at hc hd hc2 hd2
 subst hc hd hc2 hd2
 have e:vs.toArray ++ ws.toArray=(vs ++ ws).toArray:=by simp
 by_cases hw:ws=[]
 ·exact concat_meets ⟨_,ho,rfl⟩ ⟨_,ho2,rfl⟩ noFill_tuple_add seq_tuple_add PySem.F.slot_tuple_add PySem.F.entry_tuple_add (PySem.F.args_tuple_add_2 _ _)
   (tuple_addW1 t b vs.toArray ws.toArray n n2 dd dd2 sl sl2 (by simpa using hv) (by simp [hw])) ⟨ho,ho2,h1 hw⟩
 ·refine concat_meets ⟨_,ho,rfl⟩ ⟨_,ho2,rfl⟩ noFill_tuple_add seq_tuple_add PySem.F.slot_tuple_add PySem.F.entry_tuple_add (PySem.F.args_tuple_add_2 _ _)
   (tuple_addW2 t b vs.toArray ws.toArray n n2 dd dd2 sl sl2 (by simpa using hv) (by simpa using hw) (by rw [yO,yO]; exact hsz)) ⟨ho,ho2,?_⟩
  rw [e]; exact h2 hw
def sIx (n d:Nat):Option Int->Nat
 | none=>d
 | some v=>if v<0 then (v+(n:Int)).toNat else min v.toNat n
theorem sIx_none (n d:Nat):sIx n d none=d:=rfl
theorem sIx_nat (n d k:Nat):sIx n d (some (k:Int))=min k n:=by
 show (if (k:Int)<0 then ((k:Int)+(n:Int)).toNat else min (k:Int).toNat n)=min k n
 rw [yQ (by omega),JM]
theorem zsf (n d:Nat) (hd:d<=n) (o:Option Int):sIx n d o<=n:=by
 cases o with
 | none=>exact hd
 | some v =>
  show (if v<0 then (v+(n:Int)).toNat else min v.toNat n)<=n
  by_cases hv:v<0
  ·rw [yS hv]; omega
  ·rw [yQ hv]; exact Nat.min_le_right _ _
theorem zmE (v:Int) (n d:Nat):(if v<0 then max (v+(n:Int)) 0 else min v (n:Int))=((sIx n d (some v):Nat):Int):=by
 show (if v<0 then max (v+(n:Int)) 0 else min v (n:Int))=(((if v<0 then (v+(n:Int)).toNat else min v.toNat n):Nat):Int)
 by_cases hv:v<0
 ·simp only [yS hv]; omega
 ·simp only [yQ hv]; omega
theorem zkQ (lo hi:Option Int) (n:Nat):Builtin.Slice.sliceAdjust lo hi 1 (n:Int)=(((sIx n 0 lo:Nat):Int),((sIx n n hi:Nat):Int)):=by
 have h1:¬ ((1:Int)<0):=by omega
 unfold Builtin.Slice.sliceAdjust; simp only [h1,if_false]; refine Prod.ext ?_ ?_
 ·cases lo with
  | none=>rfl
  | some v=>exact zmE v n 0
 ·cases hi with
  | none=>rfl
  | some v=>exact zmE v n n
theorem zko (i j:Nat):Builtin.Slice.slicePlaces (i:Int) (j:Int) 1=j-i:=by
 unfold Builtin.Slice.slicePlaces
 have h1:(1:Int) > 0:=by omega
 simp only [h1,if_true,Int.ediv_one]
 split <;> omega
theorem zf9 {v:Value} {o:Option Int} {Q:Option Int->Shared->Prop} (p:IsPart v o) (h:Q o s):wpAny (model prog w) A (Builtin.Slice.slicePartIndex v) Q E s:=by
 cases p with
 | none=>exact slicePart_none h
 | int i t=>exact slicePart_int h
theorem zcT {sl:Addr} {vl vu:Value} {lo hi:Option Int} {n:Nat} {Q:Int × Int × Nat->Shared->Prop} (hs:s.heap.IsSliceOf sl vl vu .none) (pl:IsPart vl lo) (pu:IsPart vu hi)
  (h:Q (((sIx n 0 lo:Nat):Int),1,sIx n n hi-sIx n 0 lo) s):wpAny (model prog w) A (Builtin.Slice.sliceApplied (.ref sl) (pure (n:Int))) Q E s:=by
 obtain ⟨os,hos,hcs,hds⟩:=id hs; unfold Builtin.Slice.sliceApplied Builtin.Slice.sliceFields; refine yA (yA (yw hos hds (x:=vl) rfl (yA (yw hos hds (x:=vu) rfl (yA (yw hos hds (x:=.none) rfl (yE ?_))))))); refine yA (slicePart_none ?_)
 show wpAny _ _ (if ((1:Int) == 0)=true then _ else _) _ _ s
 rw [yQ (by decide)]
 refine yA (zf9 pl (yA (zf9 pu (yA (yE ?_)))))
 show wpAny _ _ (match Builtin.Slice.sliceAdjust lo hi 1 (n:Int) with | (lo,hi)=>pure (lo,(1:Int),Builtin.Slice.slicePlaces lo hi 1)) _ _ s
 rw [zkQ lo hi n]
 show wpAny _ _ (pure (((sIx n 0 lo:Nat):Int),(1:Int),Builtin.Slice.slicePlaces ((sIx n 0 lo:Nat):Int) ((sIx n n hi:Nat):Int) 1)) _ _ s
 rw [zko]; exact yE h
theorem znW (xs:Array Value) (i k:Nat):((List.range k).filterMap fun (m:Nat)=>xs[((i:Int)+(m:Int) * 1).toNat]?).toArray=((xs.toList.drop i).take k).toArray:=by
 have e:(fun (m:Nat)=>xs[((i:Int)+(m:Int) * 1).toNat]?)=fun m=>xs[i+m]?:=by
  funext m
  have:((i:Int)+(m:Int) * 1).toNat=i+m:=by omega
  rw [this]
 rw [e]
 have:=pick_run xs i k
 rw [List.filterMap_map] at this
 have e2:((fun x=>xs[x]?) ∘ fun x=>i+x)=fun m=>xs[i+m]?:=rfl
 rw [e2] at this; rw [this]
theorem getItem_tuple_cut {t sl:Addr} {items:Array Value} {vl vu:Value} {lo hi:Option Int} {Q:Value->Shared->Prop} (ht:IsTup s.heap t items) (hs:s.heap.IsSliceOf sl vl vu .none) (pl:IsPart vl lo) (pu:IsPart vu hi)
  (hw:¬ (sIx items.size 0 lo=0/\sIx items.size items.size hi=items.size))
  (h:Q (.ref s.heap.objs.size) { s with heap:=s.heap.push { cls:=.type "tuple",data:=.seq ((items.toList.drop (sIx items.size 0 lo)).take (sIx items.size items.size hi-sIx items.size 0 lo)).toArray } })
  (hsz:items.size<=sizeLine):wpAny (model prog w) A (getItem (.ref t) (.ref sl)) Q E s:=by
 have htake:sizeOk (.seq ((items.toList.drop (sIx items.size 0 lo)).take (sIx items.size items.size hi-sIx items.size 0 lo)).toArray):=by
  show ((items.toList.drop (sIx items.size 0 lo)).take (sIx items.size items.size hi-sIx items.size 0 lo)).toArray.size<=sizeLine
  rw [yO,YQ,YK,YI]; omega
 have hj:sIx items.size items.size hi<=items.size:=zsf _ _ (yG _) hi
 obtain ⟨os,hos,hcs,hds⟩:=id hs
 have hTs:s.TypeIs (.ref sl) "slice":=⟨os,hos,hcs⟩
 unfold getItem
 try with_reducible refine YW ?_
 first | refine yA (yE ?_) | skip
 refine yA (wpAny_sequenceKey ht.typeIs (by decide) ?_)
 refine yA (wpAny_callSpecial?_slot (name:=Str.ofString "__getitem__") ht.typeIs JC
  (YJ JC ht.typeIs entry_tuple_getitem ?_ (args_tuple_getitem _ _)))
 show wpAny _ _ (Builtin.Tuple.tupleItemsOf (.ref t) >>= _) _ _ s
 refine yA (tupleItemsOf_ ht ?_); refine yA (wpAny_typeOf hTs ?_)
 rw [yS (by decide)]
 refine yA (zcT hs pl pu ?_)
 have hno:¬ ((((sIx items.size 0 lo:Nat):Int) == 0 && (1:Int) == 1 && (sIx items.size items.size hi-sIx items.size 0 lo) == items.size)=true):=by
  intro q; rw [yX,yX] at q
  have q1:((sIx items.size 0 lo:Nat):Int)=0:=eq_of_beq q.1.1
  have q2:sIx items.size items.size hi-sIx items.size 0 lo=items.size:=eq_of_beq q.2
  exact hw ⟨by omega,by omega⟩
 show wpAny _ _ (if (((sIx items.size 0 lo:Nat):Int) == 0 && (1:Int) == 1 && (sIx items.size items.size hi-sIx items.size 0 lo) == items.size)=true then _ else _) _ _ s
 rw [yQ hno,znW]
 first
  | exact yA (m:=Builtin.Tuple.tupleExact _) (yj (yE ⟨_,rfl,yE h⟩) htake)
  | exact yA (m:=Builtin.Tuple.tupleExact _) (yj (yA (yE (yE ⟨_,rfl,yE h⟩))) htake)
  | exact yA (yA (m:=Builtin.Tuple.tupleExact _) (yj (yE (yE ⟨_,rfl,yE h⟩)) htake))
  | exact yA (yA (m:=Builtin.Tuple.tupleExact _) (yj (yE ⟨_,rfl,yE h⟩) htake))
end
end HT
namespace L2
open PySem PySem.Spec PyProof.Rows
abbrev TO:=St->Hp->(Option Int->Hp->Prop)->Prop
def PO (X:Cx) (e:Option Expr) (t:TO):Prop :=
 ∀ (pins:List (Addr × Obj)) (s:Shared) (σ:St) (H:Hp) (Q:Option Int->Hp->Prop),Inv X pins σ H s->t σ H Q ->
  wpAny (model X.prog X.w) X.A (evalPart e X.env) (fun u s'=>∃ o H',Inv X pins σ H' s'/\IsPart u o/\Q o H') X.xe s
def zpX:TO:=fun _ H Q=>Q none H
def zux (t:TE):TO:=fun σ H Q=>t σ H fun x H1=>∃ i,x=.int i/\Q (some i) H1
section
variable {X:Cx} {e:Expr} {te:TE} {lo hi:Option Expr} {tl th:TO} {pos p2:Pos}
theorem zqs:PO X none zpX:=by
 intro pins s σ H Q I h; rw [evalPart_none]; exact yE ⟨none,H,I,.none,h⟩
theorem zqq (h:PE X e te):PO X (some e) (zux te):=by
 intro pins s σ H Q I hw; rw [evalPart_some]
 refine thn (h pins s σ H _ I hw) fun u s1 ⟨x,H1,I1,r1,q1⟩=>?_
 obtain ⟨i,rfl,q⟩:=q1; obtain ⟨t,rfl⟩:=r1; exact ⟨some i,H1,I1,.int i t,q⟩
def SlR (X:Cx) (r:V->Option Int->Option Int->Hp->VK->Prop):Prop :=
 ∀ (pins:List (Addr × Obj)) (s:Shared) (σ:St) (H:Hp) (x:V) (v vl vu:Value) (lo hi:Option Int) (sl:Addr) (Q:VK),Inv X pins σ H s->zbo x v->s.heap.IsSliceOf sl vl vu .none->IsPart vl lo->IsPart vu hi->r x lo hi H Q ->
  ∃ T id,typeLookup (.type T) "__getitem__"=pure (some (.builtin id))/\s.TypeIs v T/\wpAny (model X.prog X.w) X.A (getItem v (.ref sl)) (EP X pins σ Q) X.xe s
theorem SlR.or {r r':V->Option Int->Option Int->Hp->VK->Prop} (h:SlR X r) (h':SlR X r'):SlR X (fun x lo hi H Q=>r x lo hi H Q\/r' x lo hi H Q):=by
 intro pins s σ H x v vl vu lo hi sl Q I rx hs pl pu q
 rcases q with q | q
 ·exact h pins s σ H x v vl vu lo hi sl Q I rx hs pl pu q
 ·exact h' pins s σ H x v vl vu lo hi sl Q I rx hs pl pu q
def tSl (r:V->Option Int->Option Int->Hp->VK->Prop) (te:TE) (tl th:TO):TE:=fun σ H Q=>te σ H fun x H1=>tl σ H1 fun l H2=>th σ H2 fun u H3=>r x l u H3 Q
theorem zn0 {r:V->Option Int->Option Int->Hp->VK->Prop} (hr:SlR X r) (he:PE X e te) (hl:PO X lo tl) (hu:PO X hi th):PE X (.Subscript e (.Slice lo hi none p2) pos) (tSl r te tl th):=by
 intro pins s σ H Q I h
 refine Subscript_ (thn (he pins s σ H _ I h) fun v s1 ⟨x,H1,I1,r1,q1⟩=>?_)
 refine wpAny_Slice (thn (hl pins s1 σ H1 _ I1 q1) fun vl s2 ⟨l,H2,I2,pl,q2⟩=>thn (hu pins s2 σ H2 _ I2 q2) fun vu s3 ⟨u,H3,I3,pu,q3⟩=>?_)
 rw [evalPart_none]; refine yE ?_
 have I4:Inv X pins σ H3 { s3 with heap:=s3.heap.push { cls:=.type "slice",data:=.fields #[vl,vu,.none] } }:=I3.kept (t':=s3.toks) fun b ob q=>yB _ q
 obtain ⟨T,id,hT,ht,hg⟩:=hr pins { s3 with heap:=s3.heap.push { cls:=.type "slice",data:=.fields #[vl,vu,.none] } } σ H3 x v vl vu l u s3.heap.objs.size Q I4 r1 (Heap.IsSliceOf.new ..) pl pu q3
 show wpAny (model X.prog X.w) X.A (subscriptTail e (.Slice lo hi none p2) v (.ref s3.heap.objs.size)) (EP X pins σ Q) X.xe { s3 with heap:=s3.heap.push { cls:=.type "slice",data:=.fields #[vl,vu,.none] } }
 exact tail_any (ops:=[.ref s3.heap.objs.size,v]) ht hT hg (by with_unfolding_all rfl)
def zmB (xs:List V) (lo hi:Option Int):List V:=(xs.drop (HT.sIx xs.length 0 lo)).take (HT.sIx xs.length xs.length hi-HT.sIx xs.length 0 lo)
theorem zfO (xs:List V) (lo hi:Option Int):(zmB xs lo hi).length<=xs.length:=by
 unfold zmB; rw [YQ,YK]; omega
def zwo (K:W.Frag):V->Option Int->Option Int->Hp->VK->Prop:=fun x lo hi H Q=>∃ a xs,x=.ref a/\SqT K H a xs /\
 ¬ (HT.sIx xs.length 0 lo=0/\HT.sIx xs.length xs.length hi=xs.length)/\∀ p,H p=none->Q (.ref p) (upd H p (.tup (zmB xs lo hi)))
theorem zsb:SlR X (zwo X.K):=by
 intro pins s σ H x v vl vu lo hi sl Q I rx hs pl pu h; obtain ⟨a,xs,rfl,hx,hw,q⟩:=h; cases rx; obtain ⟨its,r,ht,hz⟩:=I.tuple hx
 have hlen:its.toArray.size=xs.length:=by rw [yO]; exact r.length.symm
 refine ⟨"tuple",_,PyProof.Rows.slot_tuple_getitem.lookup,ht.typeIs,?_⟩
 refine HT.getItem_tuple_cut ht hs pl pu (by rw [hlen]; exact hw) ?_ (by rw [hlen]; exact hz)
 rw [hlen]
 refine ⟨.ref s.heap.objs.size,_,I.laid (t':=s.toks) (o:=.tup (zmB xs lo hi)) (fun b ob q=>yB _ q) (yG _) ?_,rfl,q _ (I.hok.fresh (yG _))⟩
 exact ⟨yz (zfO xs lo hi) hz,_,(r.drop (HT.sIx xs.length 0 lo)).take (HT.sIx xs.length xs.length hi-HT.sIx xs.length 0 lo),IsTup.new _ _⟩
def zuV (K:W.Frag):R2:=fun x y H Q=>∃ a b xs ys,x=.ref a/\y=.ref b/\SqT K H a xs/\SqT K H b ys/\xs≠[]/\xs.length+ys.length<=sizeLine /\
 (ys=[]->Q (.ref a) H)/\(ys≠[]->∀ p,H p=none->Q (.ref p) (upd H p (.tup (xs ++ ys))))
theorem za7.nil_iff {xs:List V} {us:List Value} (r:za7 xs us):us=[]↔xs=[]:=by
 cases r with
 | nil=>simp
 | cons _ _=>simp
theorem zqR:OpR X (binaryOp .Add) (zuV X.K):=by
 intro pins s σ H x y v u Q I rx ry h; obtain ⟨a,b,xs,ys,rfl,rfl,ha,hb,hx,hz,q1,q2⟩:=h; cases rx; cases ry; obtain ⟨its,r1,p1,_⟩:=I.tuple ha; obtain ⟨its2,r2,p2,_⟩:=I.tuple hb
 refine HT.cat_tup p1 p2 (fun z=>hx (r1.nil_iff.mp z)) (fun z=>⟨.ref a,H,I,rfl,q1 (r2.nil_iff.mp z)⟩) (fun z=>?_) (by rw [<- r1.length,<- r2.length]; exact hz)
 refine ⟨.ref s.heap.objs.size,_,I.laid (t':=s.toks) (o:=.tup (xs ++ ys)) (fun b ob q=>yB _ q) (yG _) ?_,rfl,q2 (fun w=>z (r2.nil_iff.mpr w)) _ (I.hok.fresh (yG _))⟩
 exact ⟨by rw [yH]; exact hz,_,r1.append r2,IsTup.new _ _⟩
end
def ixN (n:Nat) (i:Int):Option Nat:=if 0<=i then (if i<n then some i.toNat else none) else if -(n:Int)<=i then some (i+n).toNat else none
def atI {α:Type} (xs:List α) (i:Int):Option α:=(ixN xs.length i).bind fun j=>xs[j]?
theorem zrj {n:Nat} {i:Int} {j:Nat} (h:ixN n i=some j):seqIndex? i n=some j/\j<n/\-(n:Int)<=i/\i<n:=by
 unfold ixN at h
 by_cases h0:0<=i
 ·rw [yS h0] at h
  by_cases h1:i<n
  ·rw [yS h1] at h
   have e:i.toNat=j:=Option.some.inj h
   exact ⟨by rw [seqIndex_of h0 h1,e],by omega,by omega,h1⟩
  ·rw [yQ h1] at h; cases h
 ·rw [yQ h0] at h
  by_cases h1:-(n:Int)<=i
  ·rw [yS h1] at h
   have e:(i+n).toNat=j:=Option.some.inj h
   exact ⟨by rw [seqIndex_neg (by omega) h1,e],by omega,h1,by omega⟩
  ·rw [yQ h1] at h; cases h
theorem zi8 {α:Type} {xs:List α} {i:Int} {v:α} (h:atI xs i=some v):∃ j,seqIndex? i xs.length=some j/\xs[j]?=some v/\j<xs.length/\-(xs.length:Int)<=i/\i<xs.length:=by
 unfold atI at h
 cases e:ixN xs.length i with
 | none=>rw [e] at h; cases h
 | some j =>
  rw [e] at h; obtain ⟨h1,h2,h3,h4⟩:=zrj e; exact ⟨j,h1,h,h2,h3,h4⟩
theorem zdm {α:Type} {xs:List α} {j:Nat} {v:α} (h:xs[j]?=some v):atI xs (j:Int)=some v:=by
 have hj:j<xs.length:=(yF.mp h).1
 have e:ixN xs.length (j:Int)=some j:=by
  unfold ixN
  rw [yS (by omega),yS (by omega)]; simp
 unfold atI; rw [e]; exact h
theorem zoU {α:Type} (xs:List α) (v:α):atI (xs ++ [v]) (-1)=some v:=by
 have hl:(xs ++ [v]).length=xs.length+1:=by simp
 have e:ixN (xs ++ [v]).length (-1)=some xs.length:=by
  unfold ixN
  rw [hl,yQ (by decide),yS (by omega)]
  congr 1
  omega
 unfold atI; rw [e]
 show (xs ++ [v])[xs.length]?=some v
 simp
def zmR (b:Expr):Prop:=∀ o i,subscripted b false o i=operate [o,i] (getItem o i)
def IxR (X:Cx) (r:R2):Prop :=
 ∀ (value slice:Expr) (pins:List (Addr × Obj)) (s:Shared) (σ:St) (H:Hp) (x y:V) (v u:Value) (Q:VK),Inv X pins σ H s->zbo x v->zbo y u->r x y H Q ->
  subscripted slice false v u=operate [v,u] (getItem v u)->wpAny (model X.prog X.w) X.A (subscriptTail value slice v u) (EP X pins σ Q) X.xe s
def MtR (X:Cx) (id:String) (r:V->List V->Hp->VK->Prop):Prop :=
 ∀ (pins:List (Addr × Obj)) (s:Shared) (σ:St) (H:Hp) (x:V) (xs:List V) (v:Value) (us:List Value) (Q:VK),Inv X pins σ H s->zbo x v->za7 xs us->r x xs H Q ->
  wpAny (model X.prog X.w) X.A (call (.builtin id) (v :: us)) (EP X pins σ Q) X.xe s
section
variable {X:Cx} {a b:Expr} {ta tb:TE} {pos:Pos}
theorem IxR.or {r r':R2} (h:IxR X r) (h':IxR X r'):IxR X (fun x y H Q=>r x y H Q\/r' x y H Q):=by
 intro value slice pins s σ H x y v u Q I rx ry q hs
 rcases q with q | q
 ·exact h value slice pins s σ H x y v u Q I rx ry q hs
 ·exact h' value slice pins s σ H x y v u Q I rx ry q hs
theorem zuZ {r:R2} (hr:IxR X r) (ha:PE X a ta) (hb:PE X b tb) (hs:zmR b):PE X (.Subscript a b pos) (tOp r ta tb):=by
 intro pins s σ H Q I h
 exact Subscript_ (zvE ha hb I h fun v u s2 x y H2 I2 rx ry q=>hr a b pins s2 σ H2 x y v u Q I2 rx ry q (hs _ _))
def zvT (K:W.Frag):R2:=fun x y H Q=>∃ p xs i v,x=.ref p/\y=.int i/\SqL K H p xs/\atI xs i=some v/\Q v H
def zvR (K:W.Frag):R2:=fun x y H Q=>∃ p xs i v,x=.ref p/\y=.int i/\SqT K H p xs/\atI xs i=some v/\Q v H
def zvS:R2:=fun x y H Q=>∃ z i c,x=.str z/\y=.int i/\z.length<=sizeLine/\atI z.cps.toList i=some c/\Q (.str ⟨#[c]⟩) H
theorem zrh:IxR X (zvT X.K):=by
 intro value slice pins s σ H x y v u Q I rx ry h hs; obtain ⟨p,xs,i,z,rfl,rfl,hq,he,q⟩:=h; cases rx; obtain ⟨t,rfl⟩:=ry; obtain ⟨its,r,pl,hz⟩:=I.list hq; obtain ⟨j,h1,h2,h3,h4,h5⟩:=zi8 he; obtain ⟨w,ew,rw'⟩:=r.get h2; have hl:=r.length; have hn:=zhS
 have fin:EP X pins σ Q w s:=⟨z,H,I,rw',q⟩
 by_cases h0:0<=i
 ·have hj:i.toNat=j:=by
   rw [seqIndex_of h0 h5] at h1; exact Option.some.inj h1
  exact item_listR pl.isList h0 (by omega) (by rw [hj]; simpa using ew) fin hs
 ·have hj:(i+(its.toArray.size:Int)).toNat=j:=by
   rw [seqIndex_neg (by omega) h4] at h1
   rw [yO,<- hl]; exact Option.some.inj h1
  exact subscriptTail_builtinR (x:=w) pl.isList.typeIs slot_list_getitem.lookup
   (wpAny_getItem_list_neg (Q:=fun r s'=>r=w/\EP X pins σ Q r s') pl.isList (by omega) (by rw [yO] <;> omega) (by omega) (by rw [hj]; simpa using ew) ⟨rfl,fin⟩) hs
theorem ztj:IxR X (zvR X.K):=by
 intro value slice pins s σ H x y v u Q I rx ry h hs; obtain ⟨p,xs,i,z,rfl,rfl,hq,he,q⟩:=h; cases rx; obtain ⟨t,rfl⟩:=ry; obtain ⟨its,r,pl,hz⟩:=I.tuple hq; obtain ⟨j,h1,h2,h3,h4,h5⟩:=zi8 he; obtain ⟨w,ew,rw'⟩:=r.get h2; have hl:=r.length; have hn:=zhS
 have fin:EP X pins σ Q w s:=⟨z,H,I,rw',q⟩
 exact subscriptTail_builtinR (x:=w) pl.typeIs slot_tuple_getitem.lookup
  (getItem_tuple (j:=j) (Q:=fun r s'=>r=w/\EP X pins σ Q r s') pl (by omega) (by omega) (by rw [yO,<- hl]; exact h1) (by simpa using ew) ⟨rfl,fin⟩) hs
theorem ztk:IxR X zvS:=by
 intro value slice pins s σ H x y v u Q I rx ry h hs; obtain ⟨z,i,c,rfl,rfl,hz,he,q⟩:=h; obtain ⟨t,rfl⟩:=rx; obtain ⟨t',rfl⟩:=ry; obtain ⟨j,h1,h2,h3,h4,h5⟩:=zi8 he
 have hl:z.cps.toList.length=z.length:=by simp [Str.length]
 rw [hl] at h1 h4 h5; have hn:=zhS
 exact tail_any (typeIs_str s z t) slot_str_getitem.lookup (getItem_str (c:=c) (by
  have e1:decide (i< -(2 ^ 63:Int))=false:=yV (by omega)
  have e2:decide (i >= 2 ^ 63)=false:=yV (by omega)
  rw [e1,e2,Bool.or_false]) (by rw [h1]; simpa using h2) ⟨.str ⟨#[c]⟩,H,I.tok _,⟨_,rfl⟩,q⟩) hs
def rIx (K:W.Frag):R2:=fun x y H Q=>zvT K x y H Q\/zvR K x y H Q\/zvS x y H Q
theorem ztl:IxR X (rIx X.K):=zrh.or (ztj.or ztk)
theorem zhs (lo hi:Option Int) (n:Nat):(sliceBounds lo hi none n).1=((HT.sIx n 0 lo:Nat):Int)/\(sliceBounds lo hi none n).2.1=((HT.sIx n n hi:Nat):Int)/\(sliceBounds lo hi none n).2.2=1:=by
 refine ⟨?_,?_,rfl⟩
 ·cases lo with
  | none=>simp [sliceBounds,HT.sIx]
  | some i =>
   simp only [sliceBounds,HT.sIx,Option.getD_none,show (1:Int) > 0 by decide,if_true]
   by_cases h:i<0
   ·simp only [h,if_true] <;> omega
   ·simp only [h,if_false] <;> omega
 ·cases hi with
  | none=>simp [sliceBounds,HT.sIx]
  | some i =>
   simp only [sliceBounds,HT.sIx,Option.getD_none,show (1:Int) > 0 by decide,if_true]
   by_cases h:i<0
   ·simp only [h,if_true] <;> omega
   ·simp only [h,if_false] <;> omega
theorem zgy (its:List Value) (lo hi:Option Int):slicePick its.toArray lo hi none=((its.drop (HT.sIx its.length 0 lo)).take (HT.sIx its.length its.length hi-HT.sIx its.length 0 lo)).toArray:=by
 obtain ⟨h1,h2,h3⟩:=zhs lo hi its.toArray.size; unfold slicePick; rw [h1,h2,h3]
 simp only [sliceRange_one,pick_run,yO] <;> rfl
def zwq (K:W.Frag):V->Option Int->Option Int->Hp->VK->Prop:=fun x lo hi H Q=>∃ a xs,x=.ref a/\SqL K H a xs/\∀ p,H p=none->Q (.ref p) (upd H p (.lst (zmB xs lo hi)))
theorem zp7:SlR X (zwq X.K):=by
 intro pins s σ H x v vl vu lo hi sl Q I rx hs pl pu h; obtain ⟨a,xs,rfl,hx,q⟩:=h; cases rx; obtain ⟨its,r,ht,hz⟩:=I.list hx; have hlen:=r.length; refine ⟨"list",_,slot_list_getitem.lookup,ht.isList.typeIs,?_⟩
 refine wpAny_getItem_list_slice ht.isList hs pl pu .none (by simp) ?_ (by rw [yO] <;> omega)
 rw [zgy,<- hlen]
 refine ⟨.ref s.heap.objs.size,_,I.laid (t':=s.toks) (o:=.lst (zmB xs lo hi)) (fun b ob q=>yB _ q) (yG _) ?_,rfl,q _ (I.hok.fresh (yG _))⟩
 exact ⟨yz (zfO xs lo hi) hz,_,0,(r.drop (HT.sIx xs.length 0 lo)).take (HT.sIx xs.length xs.length hi-HT.sIx xs.length 0 lo),yK _ rfl⟩
def zfL:V->Bool
 | .non=>true
 | .bl _=>true
 | .int _=>true
 | .str _=>true
 | _=>false
def eqV:V->V->Bool
 | .non,.non=>true
 | .bl a,.bl b=>a == b
 | .bl a,.int b=>(if a then 1 else 0) == b
 | .int a,.bl b=>a == (if b then 1 else 0)
 | .int a,.int b=>a == b
 | .str a,.str b=>a == b
 | _,_=>false
theorem zmn {A:Around} {s:Shared} {y x:V} {u v:Value} (ry:zbo y u) (rx:zbo x v) (fy:zfL y=true) (fx:zfL x=true):SeqAt.EqAt A s u v (eqV y x):=by
 cases y with
 | non =>
  cases ry
  cases x with
  | non=>cases rx; exact SeqAt.EqAt.same _
  | bl b=>cases rx; exact SeqAt.EqAt.none_bool b
  | int b=>obtain ⟨t,rfl⟩:=rx; exact SeqAt.EqAt.none_int b t
  | str b=>obtain ⟨t,rfl⟩:=rx; exact SeqAt.EqAt.none_str b t
  | _=>exact yM (show false=true from fx) yP
 | bl a =>
  cases ry
  cases x with
  | non=>cases rx; exact SeqAt.EqAt.bool_none a
  | bl b=>cases rx; exact SeqAt.EqAt.bool_bool a b
  | int b=>obtain ⟨t,rfl⟩:=rx; exact SeqAt.EqAt.bool_int a b t
  | str b=>obtain ⟨t,rfl⟩:=rx; exact SeqAt.EqAt.bool_str a b t
  | _=>exact yM (show false=true from fx) yP
 | int a =>
  obtain ⟨t',rfl⟩:=ry
  cases x with
  | non=>cases rx; exact SeqAt.EqAt.int_none a t'
  | bl b=>cases rx; exact SeqAt.EqAt.int_bool a t' b
  | int b=>obtain ⟨t,rfl⟩:=rx; exact SeqAt.EqAt.int_int a t' b t
  | str b=>obtain ⟨t,rfl⟩:=rx; exact SeqAt.EqAt.int_str a t' b t
  | _=>exact yM (show false=true from fx) yP
 | str a =>
  obtain ⟨t',rfl⟩:=ry
  cases x with
  | non=>cases rx; exact SeqAt.EqAt.str_none a t'
  | bl b=>cases rx; exact SeqAt.EqAt.str_bool a t' b
  | int b=>obtain ⟨t,rfl⟩:=rx; exact SeqAt.EqAt.str_int a t' b t
  | str b=>obtain ⟨t,rfl⟩:=rx; exact SeqAt.EqAt.str_str a t' b t
  | _=>exact yM (show false=true from fx) yP
 | _=>exact yM (show false=true from fy) yP
def eqU (x:V) (u:Value):Bool:=match u with
 | .none=>eqV .non x
 | .bool b=>eqV (.bl b) x
 | .int i _=>eqV (.int i) x
 | .str z _=>eqV (.str z) x
 | _=>false
theorem zpC {x y:V} {u:Value} (r:zbo y u) (f:zfL y=true):eqU x u=eqV y x:=by
 cases y with
 | non=>cases r; rfl
 | bl b=>cases r; rfl
 | int i=>obtain ⟨t,rfl⟩:=r; rfl
 | str z=>obtain ⟨t,rfl⟩:=r; rfl
 | _=>exact yM (show false=true from f) yP
theorem zfQ {x:V}:∀ {xs:List V} {us:List Value},za7 xs us->xs.all zfL=true->us.any (eqU x)=xs.any fun y=>eqV y x
 | _,_,.nil,_=>rfl
 | y :: xs,u :: us,.cons r t,f=>by
  rw [List.all_cons,yX] at f; rw [List.any_cons,List.any_cons,zpC r f.1,zfQ t f.2]
theorem zen {A:Around} {s:Shared} {x:V} {v:Value} (rx:zbo x v) (fx:zfL x=true):∀ {xs:List V} {us:List Value},za7 xs us->xs.all zfL=true->∀ u ∈ us,SeqAt.EqAt A s u v (eqU x u)
 | _,_,.nil,_=>fun u hu=>by cases hu
 | y :: xs,u :: us,.cons r t,f=>fun u' hu=>by
  rw [List.all_cons,yX] at f
  rcases yJ.mp hu with rfl | hu
  ·rw [zpC r f.1]; exact zmn r rx f.1 fx
  ·exact zen rx fx t f.2 u' hu
def inV (x:V) (xs:List V):Bool:=xs.any fun y=>eqV y x
def rIn (K:W.Frag) (neg:Bool):R2:=fun x y H Q=>∃ p xs,y=.ref p/\(SqL K H p xs\/SqT K H p xs)/\zfL x=true/\xs.all zfL=true/\Q (.bl (if neg then !inV x xs else inV x xs)) H
theorem zlO:OpR X (compareOp .In) (rIn X.K false):=by
 intro pins s σ H x y v u Q I rx ry h; obtain ⟨p,xs,rfl,hq,fx,fs,q⟩:=h; cases ry
 rcases hq with hq | hq
 ·obtain ⟨its,r,pl,hz⟩:=I.list hq
  refine SeqAt.in_listAt (eqU x) pl.isList (fun w hw=>zen rx fx r fs w (by simpa using hw)) ⟨.bl _,H,I,rfl,?_⟩
  rw [show its.toArray.any (eqU x)=its.any (eqU x) by simp,zfQ r fs]
  exact q
 ·obtain ⟨its,r,pl,hz⟩:=I.tuple hq
  refine SeqAt.in_tupleAt (eqU x) pl (fun w hw=>zen rx fx r fs w (by simpa using hw)) ⟨.bl _,H,I,rfl,?_⟩
  rw [show its.toArray.any (eqU x)=its.any (eqU x) by simp,zfQ r fs]
  exact q
theorem zhI:OpR X (compareOp .NotIn) (rIn X.K true):=by
 intro pins s σ H x y v u Q I rx ry h; obtain ⟨p,xs,rfl,hq,fx,fs,q⟩:=h; cases ry
 rcases hq with hq | hq
 ·obtain ⟨its,r,pl,hz⟩:=I.list hq
  refine SeqAt.notIn_listAt (eqU x) pl.isList (fun w hw=>zen rx fx r fs w (by simpa using hw)) ⟨.bl _,H,I,rfl,?_⟩
  rw [show its.toArray.any (eqU x)=its.any (eqU x) by simp,zfQ r fs]
  exact q
 ·obtain ⟨its,r,pl,hz⟩:=I.tuple hq
  refine SeqAt.notIn_tupleAt (eqU x) pl (fun w hw=>zen rx fx r fs w (by simpa using hw)) ⟨.bl _,H,I,rfl,?_⟩
  rw [show its.toArray.any (eqU x)=its.any (eqU x) by simp,zfQ r fs]
  exact q
theorem zif:zdn X (.builtin "len") (fun xs H Q=>∃ p ys,xs=[.ref p]/\(SqL X.K H p ys\/SqT X.K H p ys)/\Q (.int ys.length) H):=by
 intro pins s σ H xs us Q I r h; obtain ⟨p,ys,rfl,hq,q⟩:=h; obtain ⟨u,rfl,rx⟩:=zcX r; cases rx; have hn:=zhS
 rcases hq with hq | hq
 ·obtain ⟨its,r',pl,hz⟩:=I.list hq
  have hlen:=r'.length
  exact Calls.call_len_list pl.isList (by simp only [yO] <;> omega) ⟨.int ys.length,H,I.tok _,⟨s.toks+1,by rw [yO,hlen]⟩,q⟩
 ·obtain ⟨its,r',pl,hz⟩:=I.tuple hq
  have hlen:=r'.length
  exact len_tuple pl (by simp only [yO] <;> omega) ⟨.int ys.length,H,I.tok _,⟨s.toks+1,by rw [yO,hlen]⟩,q⟩
theorem zie:zdn X (.builtin "len") (fun xs H Q=>∃ z,xs=[.str z]/\z.length<=sizeLine/\Q (.int z.length) H):=by
 intro pins s σ H xs us Q I r h; obtain ⟨z,rfl,hz,q⟩:=h; obtain ⟨u,rfl,t,rfl⟩:=zcX r; have hn:=zhS
 exact len_str (by omega) ⟨.int z.length,H,I.tok _,⟨_,rfl⟩,q⟩
theorem zdn.or {f:Value} {r r':List V->Hp->VK->Prop} (h:zdn X f r) (h':zdn X f r'):zdn X f (fun xs H Q=>r xs H Q\/r' xs H Q):=by
 intro pins s σ H xs us Q I rs q
 rcases q with q | q
 ·exact h pins s σ H xs us Q I rs q
 ·exact h' pins s σ H xs us Q I rs q
theorem zhe:zdn X (.type "tuple") (fun xs H Q=>∃ p ys,xs=[.ref p]/\((SqL X.K H p ys/\∀ l,H l=none->Q (.ref l) (upd H l (.tup ys)))\/(SqT X.K H p ys/\Q (.ref p) H))):=by
 intro pins s σ H xs us Q I r h; obtain ⟨p,ys,rfl,h⟩:=h; obtain ⟨u,rfl,rx⟩:=zcX r; cases rx
 rcases h with ⟨hq,q⟩ | ⟨hq,q⟩
 ·obtain ⟨its,r',pl,hz⟩:=I.list hq
  have hlen:=r'.length
  refine call_tuple_list pl.isList (fun h' kp=>?_) (by simp only [yO] <;> omega)
  have I1:Inv X pins σ H { s with heap:=h' }:=I.kept (t':=s.toks) kp
  have I2:Inv X pins σ (upd H h'.objs.size (.tup ys)) { s with heap:=h'.push { cls:=.type "tuple",data:=.seq its.toArray } } :=
   I1.laid (t':=s.toks) (fun b o e=>yB _ e) (yG _) (show zbM X.prog X.w _ _ _ (.tup ys) from ⟨hz,its,r',IsTup.new _ _⟩)
  exact ⟨.ref h'.objs.size,_,I2,rfl,q _ (I1.hok.fresh (yG _))⟩
 ·obtain ⟨its,r',pl,hz⟩:=I.tuple hq
  exact call_tuple_same pl ⟨.ref p,H,I,rfl,q⟩
def tyV (K:W.Frag) (T:String) (x:V) (H:Hp):Prop:=match x with
 | .str _=>T="str"
 | .int _=>T="int"
 | .ref p=>(T="list"/\∃ xs,SqL K H p xs)\/(T="tuple"/\∃ o,K.lookup p=some o/\o.cls=.type "tuple"/\o.dict=none) \/
   (T="dict"/\((∃ kvs,H p=some (.dK kvs))\/∃ kvs,H p=some (.dT kvs)))\/(T="set"/\∃ S n,H p=some (.set S n))
 | _=>False
theorem zo2 {pins:List (Addr × Obj)} {σ:St} {H:Hp} {s:Shared} {T:String} {x:V} {v:Value} (I:Inv X pins σ H s) (r:zbo x v) (ty:tyV X.K T x H) :
  s.TypeIs v T/\∀ a,v=.ref a->∃ ob,s.heap.get? a=some ob/\ob.dict=none:=by
 cases x with
 | str z =>
  obtain ⟨t,rfl⟩:=r
  cases (show T="str" from ty)
  exact ⟨typeIs_str s z t,fun _ e=>nomatch e⟩
 | int i =>
  obtain ⟨t,rfl⟩:=r
  cases (show T="int" from ty)
  exact ⟨typeIs_int s i t,fun _ e=>nomatch e⟩
 | ref p =>
  cases r
  rcases ty with ⟨rfl,xs,hq⟩ | ⟨rfl,o,hk,hc,hd⟩ | ⟨rfl,hk⟩ | ⟨rfl,S,n,hk⟩
  ·obtain ⟨its,_,pl,_⟩:=I.list hq
   refine ⟨pl.isList.typeIs,fun a e=>?_⟩
   cases e; obtain ⟨o,n,e,c,hd,_⟩:=pl; exact ⟨o,e,hd⟩
  ·refine ⟨⟨o,I.kIn p o hk,hc⟩,fun a e=>?_⟩
   cases e; exact ⟨o,I.kIn _ o hk,hd⟩
  ·have z:∃ o,s.heap.get? p=some o/\o.ExactDict:=by
    rcases hk with ⟨kvs,hk⟩ | ⟨kvs,hk⟩
    ·obtain ⟨_,_,_,_,o,_,_,e,ex,_⟩:=I.hok p _ hk
     exact ⟨o,e,ex⟩
    ·obtain ⟨_,_,_,_,o,_,_,e,ex,_⟩:=I.hok p _ hk
     exact ⟨o,e,ex⟩
   obtain ⟨o,e,ex⟩:=z
   refine ⟨⟨o,e,ex.1⟩,fun a e2=>?_⟩
   cases e2; exact ⟨o,e,ex.2.1⟩
  ·obtain ⟨o,_,_,_,e,ex,_⟩:=I.hok p _ hk
   refine ⟨⟨o,e,ex.1⟩,fun a e2=>?_⟩
   cases e2; exact ⟨o,e,ex.2.1⟩
 | _=>exact False.elim ty
def zwj (K:W.Frag) (T:String) (r:V->List V->Hp->VK->Prop) (to:TE):TE:=fun σ H Q=>to σ H fun x H1=>tyV K T x H1/\r x [] H1 Q
def tBM (K:W.Frag) (T:String) (r:V->List V->Hp->VK->Prop) (to:TE) (t:TA):TE:=fun σ H Q=>to σ H fun x H1=>tyV K T x H1/\t σ H1 fun xs H2=>r x xs H2 Q
variable {o e:Expr} {es:List Expr} {to:TE} {t:TA} {name:Str} {apos cpos:Pos} {T id:String} {r:V->List V->Hp->VK->Prop}
theorem zsK (pa:PlainAttrs T) (slot:Slot T name id) (hty:typeOf (.builtin id)=pure (.type "method_descriptor")) (hm:MtR X id r) (ho:PE X o to)
  (hbase:attributeBase o name X.env (eval o X.env)=eval o X.env:=by rfl) (hline:(apos.endLine == cpos.line)=true:=by rfl):PE X (.Call (.Attribute o name apos) [] [] cpos) (zwj X.K T r to):=by
 intro pins s σ H Q I h
 refine wpAny_Call_method0_late hbase hline (thn (ho pins s σ H _ I h) fun v s1 ⟨x,H1,I1,r1,ty,q1⟩=>?_)
 obtain ⟨h1,h2⟩:=zo2 I1 r1 ty; exact ⟨T,id,pa,slot,hty,h1,h2,Calls.callWith_builtin rfl (PySem.evalArgs_none (hm pins s1 σ H1 x [] v [] Q I1 r1 .nil q1))⟩
theorem zqN (pa:PlainAttrs T) (slot:Slot T name id) (hty:typeOf (.builtin id)=pure (.type "method_descriptor")) (hm:MtR X id r) (ho:PE X o to) (ha:PA X (e :: es) t)
  (hbase:attributeBase o name X.env (eval o X.env)=eval o X.env:=by rfl)
  (hfew:((backTo cpos (starEach (e :: es) X.env)).all (fun x=>!x.1) && (backToKw cpos (keywordEach [] X.env)).all (fun x=>x.1.isSome)
   && decide ((e :: es).length+([]:List Keyword).length+(if ([]:List Keyword).isEmpty then 0 else 1)<30))=true:=by rfl)
  (hline:(apos.endLine == cpos.line)=true:=by rfl) (hs:starEach (e :: es) X.env=(false,eval e X.env) :: starEach es X.env:=by rfl) (hplain:(backTo cpos (starEach es X.env)).any (·.1)=false:=by rfl) :
  PE X (.Call (.Attribute o name apos) (e :: es) [] cpos) (tBM X.K T r to t):=by
 intro pins s σ H Q I h
 refine wpAny_Call_method_late hbase hfew hline rfl (thn (ho pins s σ H _ I h) fun v s1 ⟨x,H1,I1,r1,ty,q1⟩=>?_)
 obtain ⟨h1,h2⟩:=zo2 I1 r1 ty; refine ⟨T,id,pa,slot,hty,h1,h2,?_⟩; have hA:=ha cpos pins s1 σ H1 _ I1 q1; rw [hs] at hA ⊢
 refine Calls.callWith_builtin (by show (false || (backTo cpos (starEach es X.env)).any (·.1))=false; rw [hplain] <;> rfl) (Calls.evalArgs_plain ?_)
 exact thn hA fun us s2 ⟨vs,H2,I2,r2,q2⟩=>hm pins s2 σ H2 x vs v us Q I2 r1 r2 q2
end
def MtM (X:Cx) (id:String) (r:V->List V->Hp->VK->Prop):Prop :=
 ∀ (pins:List (Addr × Obj)) (s:Shared) (σ:St) (H:Hp) (x:V) (xs:List V) (v:Value) (us:List Value) (Q:VK),Inv X pins σ H s->zbo x v->za7 xs us->r x xs H Q ->
  wpAny (model X.prog X.w) X.A (call (.builtin id) (v :: us)) (EP X pins σ Q) X.xe s
theorem za7.one:∀ {x:V} {us:List Value},za7 [x] us->∃ u,us=[u]/\zbo x u
 | _,_,.cons r .nil=>⟨_,rfl,r⟩
theorem za7.zero:∀ {us:List Value},za7 [] us->us=[]
 | _,.nil=>rfl
theorem za7.dropLast {xs:List V} {us:List Value} (h:za7 xs us):za7 xs.dropLast us.dropLast:=by
 induction h with
 | nil=>exact .nil
 | cons r t ih =>
  cases t with
  | nil=>exact .nil
  | cons q t'=>exact .cons r ih
theorem za7.rep {xs:List V} {us:List Value} (h:za7 xs us):∀ k:Nat,za7 (List.replicate k xs).flatten (List.replicate k us).flatten
 | 0=>.nil
 | k+1=>by
  rw [Yn,Yn,JL,JL]; exact za7.append h (za7.rep h k)
theorem zkL {α:Type} (l:List α):l.eraseIdx (l.length-1)=l.dropLast:=by
 induction l with
 | nil=>rfl
 | cons a r ih =>
  cases r with
  | nil=>rfl
  | cons b r =>
   have e:(a :: b :: r).length-1=((b :: r).length-1)+1:=by
    have h1:(a :: b :: r).length=r.length+2:=rfl
    have h2:(b :: r).length=r.length+1:=rfl
    omega
   rw [e,List.eraseIdx_cons_succ,ih]
   all_goals rfl
theorem foldl_rep (its:List Value):∀ (k:Nat) (acc:List Value),
  List.foldl (fun x1 x2=>x1 ++ x2) acc.toArray (List.replicate k its.toArray)=(acc ++ (List.replicate k its).flatten).toArray
 | 0,acc=>by simp
 | k+1,acc=>by
  have e:acc.toArray ++ its.toArray=(acc ++ its).toArray:=by simp
  have e2:(acc ++ its) ++ (List.replicate k its).flatten=acc ++ (List.replicate (k+1) its).flatten:=by
   rw [Yn,JL,Yk]
  rw [<- e2,<- foldl_rep its k (acc ++ its),<- e,Yn,List.foldl_cons]
section
variable {X:Cx} {pins:List (Addr × Obj)} {σ:St} {H:Hp} {s:Shared} {l b:Addr} {xs ys zs:List V}
theorem Inv.lset {its its':List Value} {n:Nat} {f:Array Value->Array Value} {t':Nat} (I:Inv X pins σ H s) (hH:H l=some (.lst xs))
  (e:s.heap.get? l=some { cls:=.type "list",data:=.seq its.toArray n }) (hf:f its.toArray=its'.toArray) (hv:za7 ys its') (hz:ys.length<=sizeLine) :
  Inv X pins σ (upd H l (.lst ys)) { s with heap:=s.heap.update l (Obj.mapSeq f),toks:=t' }:=by
 have q:=PySem.IsL.update e f; rw [hf] at q
 refine I.write (x:=l) (e:=l) (by rw [hH]; exact trivial) (.inl rfl) (fun b' u hb hu=>(YA s.heap (Obj.mapSeq f) (Ne.symm hb)).trans hu) ⟨_,q⟩ ?_
 exact ⟨hz,its',_,hv,q⟩
theorem Inv.lnew {its:List Value} {t':Nat} (I:Inv X pins σ H s) (hv:za7 ys its) (hz:ys.length<=sizeLine) :
  Inv X pins σ (upd H s.heap.objs.size (.lst ys)) { s with heap:=s.heap.push { cls:=.type "list",data:=.seq its.toArray },toks:=t' } :=
 I.laid (fun _ _ q=>yB _ q) (yG _) ⟨hz,its,0,hv,yK _ rfl⟩
theorem Inv.fresh (I:Inv X pins σ H s):H s.heap.objs.size=none:=I.hok.fresh (yG _)
theorem Inv.lstM (I:Inv X pins σ H s) (hH:H l=some (.lst xs)):xs.length<=sizeLine/\∃ (its:List Value) (n:Nat),za7 xs its/\xs.length=its.length/\s.heap.get? l=some { cls:=.type "list",data:=.seq its.toArray n }:=by
 obtain ⟨z,its,n,r,e⟩:=I.hok l _ hH; exact ⟨z,its,n,r,r.length,e⟩
theorem zoh {n:Nat} (h:n<=sizeLine):Builtin.List.listTooLong n=false:=by
 unfold Builtin.List.listTooLong
 exact yV (by omega)
end
section
variable {X:Cx}
def ziB:V->List V->Hp->VK->Prop:=fun x vs H Q=>∃ l xs y,x=.ref l/\vs=[y]/\H l=some (.lst xs)/\xs.length<sizeLine/\Q .non (upd H l (.lst (xs ++ [y])))
theorem zel:MtM X "list.append" ziB:=by
 intro pins s σ H x vs v us Q I rx rv h; obtain ⟨l,xs,y,rfl,rfl,hH,hz,q⟩:=h; cases rx; obtain ⟨u,rfl,ru⟩:=rv.one; obtain ⟨z,its,n,r,hl,e⟩:=I.lstM hH
 refine call_meets F.slot_list_append ⟨_,e,rfl⟩ F.entry_list_append (F.args_list_append_2 _ _) (PySem.list_append l its.toArray n u (by rw [yO]; omega)) ⟨e,?_⟩
 refine ⟨.non,_,I.lset (its':=its ++ [u]) hH e (by simp) (r.append (.cons ru .nil)) ?_,rfl,q⟩
 rw [yH,ya]; omega
def zws:V->List V->Hp->VK->Prop:=fun x vs H Q=>∃ l xs y,x=.ref l/\vs=[]/\H l=some (.lst xs)/\xs[xs.length-1]?=some y/\Q y (upd H l (.lst xs.dropLast))
theorem zs7:MtM X "list.pop" zws:=by
 intro pins s σ H x vs v us Q I rx rv h; obtain ⟨l,xs,y,rfl,rfl,hH,hy,q⟩:=h; cases rx; have hus:=rv.zero; subst hus; obtain ⟨z,its,n,r,hl,e⟩:=I.lstM hH; obtain ⟨u,hu,ru⟩:=r.get hy
 have hy':its.toArray[its.toArray.size-1]?=some u:=by
  show its.toArray[its.length-1]?=some u
  rw [<- JJ,<- hl]; exact hu
 refine call_meets F.slot_list_pop ⟨_,e,rfl⟩ F.entry_list_pop (F.args_list_pop_1 _) (MeetsSeq.list_pop_last l its.toArray n u hy' (by rw [yO]; omega)) ⟨e,?_⟩
 refine ⟨y,_,I.lset (its':=its.dropLast) hH e ?_ r.dropLast ?_,ru,q⟩
 ·show its.toArray.eraseIdxIfInBounds (its.toArray.size-1)=its.dropLast.toArray
  rw [yO,List.eraseIdxIfInBounds_toArray,zkL]
 ·rw [List.length_dropLast]
  omega
def zwr:R2:=fun x y H Q=>∃ l k xs,x=.ref l/\y=.int k/\H l=some (.lst xs)/\-(2 ^ 63)<=k/\k<2 ^ 63/\xs.length * k.toNat<=sizeLine /\
 ∀ p,H p=none->Q (.ref p) (upd H p (.lst (List.replicate k.toNat xs).flatten))
theorem len_rep {α:Type} (xs:List α) (k:Nat):(List.replicate k xs).flatten.length=k * xs.length:=by
 induction k with
 | zero=>simp
 | succ k ih=>rw [Yn,JL,yH,ih,Nat.succ_mul,Nat.add_comm]
theorem zsO:OpR X (binaryOp .Mult) zwr:=by
 intro pins s σ H x y v u Q I rx ry h; obtain ⟨l,k,xs,rfl,rfl,hH,h1,h2,hz,q⟩:=h; cases rx; obtain ⟨t,rfl⟩:=ry; obtain ⟨z,its,n,r,hl,e⟩:=I.lstM hH
 have hlen:its.toArray.size * k.toNat<=sizeLine:=by rw [yO,<- hl]; exact hz
 have hcap:¬ its.toArray.size * k.toNat > (2 ^ 63-1) / 8:=by
  have:(sizeLine:Nat)<=(2 ^ 63-1) / 8:=by decide
  omega
 have hfit:¬ (!Builtin.List.listFitsIndex k)=true:=by
  rw [fitsIndex_both h1 h2]; exact yP
 have hlong:¬ Builtin.List.listTooLong (its.toArray.size * k.toNat)=true:=by
  rw [zoh hlen]; exact yP
 have hnew:List.foldl (fun x1 x2=>x1 ++ x2) #[] (List.replicate (if its.toArray.isEmpty=true then 0 else k.toNat) its.toArray)=(List.replicate k.toNat its).flatten.toArray:=by
  have f0:∀ m:Nat,List.foldl (fun x1 x2=>x1 ++ x2) #[] (List.replicate m its.toArray)=(List.replicate m its).flatten.toArray:=fun m=>by
   have:=foldl_rep its m []
   rw [JI] at this; exact this
  rw [f0]
  cases its with
  | nil=>simp
  | cons a r'=>rw [yQ (by simp)]
 refine wpAny_binaryOp_repeat_ref (T:="list") (U:="int") (by decide) ⟨_,e,rfl⟩ (fun s'=>typeIs_int s' k t) noFill_list_mul F.fills_int_mul F.slot_int_rmul repeat_list F.slot_int_index.lookup
  (call_meets F.slot_int_rmul (typeIs_int s k t) F.entry_int_rmul (F.args_int_rmul_2 _ _) (int___rmul___int_list k t l its.toArray n)
   ⟨e,rfl,⟨_,e,rfl⟩,call_meets F.slot_list_mul ⟨_,e,rfl⟩ F.entry_list_mul (F.args_list_mul_2 _ _) (AutoListH.list___mul___list_int_3 l its.toArray n k t hfit hcap hlong) ⟨e,?_⟩⟩)
 rw [hnew]
 exact ⟨.ref _,_,I.lnew (t':=s.toks) (r.rep k.toNat) (by rw [len_rep,Nat.mul_comm]; exact hz),rfl,q _ I.fresh⟩
end
section
variable {prog:Program} {w:World} {A:Around} {E:Value->Shared->Prop} {s:Shared}
set_option maxRecDepth 100000 in
end
section
variable {X:Cx}
end
end L2
namespace Att
open PySem PySem.W PySem.Calls PyProof.Rows
theorem zfG {P:Params} {h:Heap}:∀ (ns:List Int) (vs:List Value),WellAll P h vs (ns.map WData.int)->IntsAre vs ns:=by
 intro ns
 induction ns with
 | nil =>
  intro vs w; rw [List.map_nil] at w; cases w; exact .nil
 | cons n ns ih =>
  intro vs w; rw [yZ] at w
  cases w with
  | cons a b =>
   cases a; exact .cons _ _ (ih _ b)
theorem zlf {l:OpenLaw} {n:Nat} (hn:l.most=some n) {P:Params} {h:Heap} {args:List WData} {vals:List Value}
  (hpre:l.row.toRowW.claim.pre args=true) (hwl:WellAll P h vals args) :
  ∃ a vs ns,vals=[Value.ref a]/\args=[WData.list (ns.map WData.int)]/\h.get? a=some { cls:=.type "list",data:=.seq vs.toArray }/\IntsAre vs ns/\ns.length<=n:=by
 have hsh:WShape.hasAll [] args [.list .int]=true:=(pre_splitW hpre).1
 have hc:l.pre.holds [] { args:=args }=true:=(pre_splitW hpre).2
 obtain ⟨d,r,rfl,h1,h2⟩:=hasAllW_cons hsh
 obtain rfl:=hasAllW_nil h2
 obtain ⟨xs,rfl,h3⟩:=hasW_list h1; obtain ⟨ns,rfl⟩:=items_int h3
 have hlen:ns.length<=n:=by
  unfold OpenLaw.pre at hc
  have h4:(WTm.not (.lt (.lit (.int (n:Int))) (.len (.arg 0)))).holds [] { args:=[.list (ns.map .int)] }=true:=by
   have h4:=(holds_andW hc).1; rw [hn] at h4; exact h4
  have h5:=condW_of h4 (w_not (w_lt w_lit (w_len_list (w_arg rfl)))); rw [yD] at h5
  refine Nat.le_of_not_lt fun q=>?_
  have q':(n:Int)<((ns.length:Nat):Int):=by omega
  first
   | (rw [YB q'] at h5; exact yM h5 (by decide))
   | (simp at h5; omega)
 cases hwl with
 | cons w1 w2 =>
  cases w2
  cases w1 with
  | list ho hall=>exact ⟨_,_,ns,rfl,rfl,ho,zfG ns _ hall,hlen⟩
theorem zlD (l:OpenLaw) (args:List WData):l.row.toRowW.claim.post args (.bool true) args=true :=
 postW_of (r:=l.row.toRowW) (X:=(true == true))
  (show WShape.has [] (.bool true) .bool=true by first | rfl | decide | simp [WShape.has,WShape.arms,WShape.armsAll])
  (show (WTm.eq .res (.lit (.bool true))).value [] { args:=args,res:=some (.bool true),after:=args }=some (.bool (true == true)) from w_eq_bool (w_res rfl) w_lit) rfl
theorem attach_call {l:OpenLaw} {n:Nat} {q:Program} {loose:List Str} {XP:(Str->Option Value)->Heap->Prop} {YP:World->Heap->Prop} {d:DefRec}
  (hn:l.most=some n) (hdf:d.params.defaults=[])
  (call:∀ (w:World) (s₀ s₁:Shared) (mg mb:Str->Option Value) (fa:Addr) (o:Obj) (pm cd doc:Value) (a:Addr) (vs:List Value) (ns:List Int),
   Ground q loose [] XP w s₀ mg mb s₁.heap->YP w s₁.heap ->
   s₁.heap.get? fa=some o->o.data=.func (docDef d.name d.params d.body d.scope pm cd doc)->s₁.heap.CodeRec cd d.name->mg d.name=some (.ref fa) ->
   s₁.heap.get? a=some { cls:=.type "list",data:=.seq vs.toArray }->IntsAre vs ns->ns.length<=n->s₁.gens=#[] ->
   codeAny (model l.prog w) callerA (.call (.ref fa) ⟨[.ref a],[]⟩) (fun r s'=>r=.ok (.ret (.bool true))/\OldK s₁.heap s'.heap/\s'.os=s₁.os/\AllBare s'.gens) s₁) :
  WalkO q loose XP YP l.row.toRowW d [] (fun f vs=>PySem.call f vs):=by
 intro w s₀ s₁ mg mb G Y fa o pm cd doc dV kV ho hd hcd hD hmg hg args vals as hpre hlay hrd hwl hlo
 obtain rfl:dV=.none:=Dflts.none hD hdf
 obtain rfl:kV=.none:=Dflts.noKw hD
 obtain ⟨a,vs,ns,rfl,rfl,hobj,hints,hlen⟩:=zlf hn hpre hwl
 refine enter_call (codeAny_mono (call w s₀ s₁ mg mb fa o pm cd doc a vs ns G Y ho (fd_plain hd) hcd hmg hobj hints hlen hg) fun r s' hq=>?_)
 obtain ⟨rfl,h2,h3,h4⟩:=hq
 exact ⟨.inl ⟨.bool true,.bool true,[],rfl,fun _=>rfl,.bool true,zlD l _,fun _=>⟨List.Pairwise.nil,fun _ hm=>(nomatch hm)⟩⟩,h2,h3,h4⟩
section
variable {prog:Program} {w:World} {A:Around} {E:Value->Shared->Prop} {s:Shared} {K:Frag}
def zv3 (h:Heap) (L d:Addr):List (Addr × Obj):=(List.range h.objs.size).filterMap fun a=>if a=L\/a=d then none else (h.get? a).map fun o=>(a,o)
end
end Att
namespace L2
open PySem PySem.Spec PyProof.Rows
theorem zhl:∀ {vs:List Value} {ns:List Int},IntsAre vs ns->za7 (ns.map V.int) vs
 | _,_,.nil=>.nil
 | _,_,.cons n t h=>.cons ⟨t,rfl⟩ (zhl h)
def zuh (H:Hp):Prop:=∀ b,H b=none\/∃ o xs,H b=some (.frz o (.lst xs))
theorem zon {P:Program} {w:World} {K:W.Frag} {mg mb:Str->Option Value} {CX:CXT} {k:Nat} {fa a:Addr} {fd:FuncData} {x:Str} {sp:Sp} {s₁:Shared} {vs:List Value} {ns:List Int}
  (KX:K.In s₁.heap) (hns:s₁.heap.Ns mainGlobals mg) (hb:s₁.heap.Ns builtinsNs mb) (hbb:∀ x:Str,x≠"__name__"->mb x=bootBuiltins x) (hlim:s₁.heap.NoLimit) (hbm:∃ bm ob,mg "__builtins__"=some (.ref bm)/\bm≠builtinsNs/\s₁.heap.get? bm=some ob/\ob.cls=.type "module"/\ob.dict=some builtinsNs/\ob.data=.plain) (hg:s₁.gens=#[])
  (ha:s₁.heap.get? a=some { cls:=.type "list",data:=.seq vs.toArray }) (hi:IntsAre vs ns) (hl:ns.length<=sizeLine) (hr:Room k callerA)
  (F:∀ base:Heap,K.In base->base.Ns mainGlobals mg->FnOk P w K mg base CX k fa fd [x] sp) (hbind:∀ (s:Shared) (u:Value),BindsTo s fd ⟨[u],[]⟩ [(x,u)])
  (hsp:∀ H:Hp,zuh H->SqL K H a (ns.map V.int)->sp [.ref a] H (fun v _=>v=.bl true) fun _ _ _=>False)
  (hCX:∀ H e s',CX [] H s₁ (fun _ _ _=>False) e s'->False) :
  codeAny (model P w) callerA (.call (.ref fa) ⟨[.ref a],[]⟩) (fun r s'=>r=.ok (.ret (.bool true))/\OldK s₁.heap s'.heap/\s'.os=s₁.os/\AllBare s'.gens) s₁:=by
 have rv:=zhl hi; have lenV:=hi.length
 -- from an abstract heap in which nothing but the script may be tracked
 have core:∀ H:Hp,zuh H->SqL K H a (ns.map V.int)->HOk P w H s₁.heap->(∀ b,H b≠none->b=a)->(H a≠none->K.lookup a=none) ->
   codeAny (model P w) callerA (.call (.ref fa) ⟨[.ref a],[]⟩) (fun r s'=>r=.ok (.ret (.bool true))/\OldK s₁.heap s'.heap/\s'.os=s₁.os/\AllBare s'.gens) s₁:=by
  intro H hO hS hok hA hK
  have base_of:∀ {b:Addr} {o:Obj},s₁.heap.get? b=some o->H b=none->(nrm s₁.heap H).get? b=some o:=fun e n=>zqZ e n
  have noA:∀ {b:Addr} {o:Obj} {es:Array DictEntry} {ep:Nat},s₁.heap.get? b=some o->o.data=.dict es ep->H b=none:=fun {b o es ep} e d=>by
   cases q:H b with
   | none=>rfl
   | some u =>
    have e':b=a:=hA b (by rw [q]; simp)
    subst e'
    rw [ha] at e; cases e
    have d':Data.seq vs.toArray _=Data.dict es ep:=d
    cases d'
  have nsK:∀ {b:Addr} {m:Str->Option Value},s₁.heap.Ns b m->(nrm s₁.heap H).Ns b m:=fun {b m} ⟨o,es,ep,e,d,r⟩=>⟨o,es,ep,base_of e (noA e d),d,r⟩
  have hKb:K.In (nrm s₁.heap H):=fun b o e=>base_of (KX b o e) (by
   cases q:H b with
   | none=>rfl
   | some u =>
    have e':b=a:=hA b (by rw [q]; simp)
    subst e'
    rw [hK (by rw [q]; simp)] at e; cases e)
  have hM:Mod K mg (nrm s₁.heap H):=⟨hKb,nsK hns,⟨mb,nsK hb,hbb⟩,(let ⟨mc,h1,h2⟩:=hlim; ⟨mc,nsK h1,h2⟩),(let ⟨bm,ob,b1,b2,b3,b4,b5,b6⟩:=hbm; ⟨bm,ob,b1,b2,base_of b3 (by
   cases q:H bm with
   | none=>rfl
   | some u =>
    have e':bm=a:=hA bm (by rw [q]; simp)
    subst e'
    rw [ha] at b3; cases b3; cases b6),b4,b5,b6⟩)⟩
  have e0:Env0 P w K mg (nrm s₁.heap H) callerA [] s₁ H:=⟨rfl,hM,fun b o e=>zsX e,Nat.le_of_eq (zof _ _),trivial,fun b hb=>yM (show b ∈ ([]:List Addr) from hb) (by simp),hok,.of_eq hg,zoe _ _⟩
  refine codeAny_mono ((F _ hKb (nsK hns)).run callerA [] s₁ H ⟨[.ref a],[]⟩ [.ref a] [.ref a] _ _ hr e0 (hbind s₁ (.ref a)) (.cons rfl .nil) (hsp H hO hS)) fun r s' h=>?_
  cases r with
  | error e=>exact (hCX H e s' h).elim
  | ok fl =>
   cases fl with
   | next=>exact False.elim h
   | brk=>exact False.elim h
   | cont=>exact False.elim h
   | ret u =>
    obtain ⟨v,H',os,bare,un,hok',r',q⟩:=h
    have q':v=.bl true:=q
    subst q'
    obtain rfl:u=Value.bool true:=r'
    refine ⟨rfl,OldK.of_keep fun b o e=>?_,os,bare⟩
    cases q:H b with
    | none=>exact un.keep b o e q (by intro z; exact yM (show b ∈ ([]:List Addr) from z) (by simp)) (by simp)
    | some u =>
     rcases hO b with z | ⟨ob,xs,z⟩
     ·rw [q] at z; cases z
     ·have z2:=un.frzs b ob _ z
      obtain ⟨e1,_⟩:=hok b _ z; obtain ⟨e2,_⟩:=hok' b _ z2
      rw [e] at e1; cases e1
      exact e2
 cases hk:K.lookup a with
 | some o =>
  -- the script is one of the module's own objects
  have e:=KX a o hk; rw [ha] at e; cases e
  refine core (fun _=>none) (fun _=>.inl rfl) (.inr ⟨_,vs.toArray,_,hk,rfl,rfl,rfl,by rw [yO,lenV]; exact hl,by simpa using rv⟩) (fun b u z=>by have z':(none:Option HO)=some u:=z; cases z') (fun b z=>yM rfl z) fun z=>yM rfl z
 | none =>
  refine core (fun b=>if b=a then some (.frz { cls:=.type "list",data:=.seq vs.toArray } (.lst (ns.map V.int))) else none) (fun b=>?_) (.inl (.inr ⟨{ cls:=.type "list",data:=.seq vs.toArray },yS rfl⟩)) (fun b u z=>?_) (fun b z=>?_) fun _=>hk
  ·by_cases hb:b=a
   ·exact .inr ⟨_,_,yS hb⟩
   ·exact .inl (yQ hb)
  ·by_cases hb:b=a
   ·have z':=(yS hb).symm.trans z
    cases z'; subst hb
    exact ⟨ha,by rw [yD]; exact hl,vs,_,rv,ha⟩
   ·have z':=(yQ hb).symm.trans z
    cases z'
  ·by_cases hb:b=a
   ·exact hb
   ·exact yM (yQ hb) z
theorem walk_of {l:W.OpenLaw} {n k:Nat} {q:Program} {loose:List Str} {XP:(Str->Option Value)->Heap->Prop} {YP:World->Heap->Prop} {d:DefRec} {K:Params->W.Frag} {CX:World->CXT} {sp:World->Sp} {x:Str}
  (hn:l.most=some n) (hn2:n<=sizeLine) (hdf:d.params.defaults=[]) (hr:Room k callerA)
  (hY:∀ (w:World) (h:Heap),YP w h->(K w.params).In h)
  (F:∀ (w:World) (mg:Str->Option Value) (fa:Addr) (h:Heap),(K w.params).In h->h.Ns mainGlobals mg->mg d.name=some (.ref fa) ->
   ∃ fd:FuncData,(∀ (s:Shared) (u:Value),BindsTo s fd ⟨[u],[]⟩ [(x,u)]) /\
    ∀ base:Heap,(K w.params).In base->base.Ns mainGlobals mg->FnOk l.prog w (K w.params) mg base (CX w) k fa fd [x] (sp w))
  (hsp:∀ (w:World) (H:Hp) (a:Addr) (ns:List Int),ns.length<=n->zuh H->SqL (K w.params) H a (ns.map V.int)->sp w [.ref a] H (fun v _=>v=.bl true) fun _ _ _=>False)
  (hCX:∀ (w:World) (H:Hp) (s:Shared) (e:Value) (s':Shared),CX w [] H s (fun _ _ _=>False) e s'->False) :
  W.WalkO q loose XP YP l.row.toRowW d [] (fun f vs=>PySem.call f vs):=by
 refine Att.attach_call hn hdf fun w s₀ s₁ mg mb fa o pm cd doc a vs ns G Y ho hd hcd hmg hobj hints hlen hg=>?_
 have KX:=hY w _ Y; obtain ⟨fd,hb,hF⟩:=F w mg fa _ KX G.T.g hmg
 exact zon KX G.T.g G.T.b G.T.builtins G.T.nolimit G.T.bmain hg hobj hints (yz hlen hn2) hr hF hb (fun H hO hS=>hsp w H a ns hlen hO hS) fun H e s'=>hCX w H s₁ e s'
def zdj (s:Stmt):Arguments:=match s with
 | .FunctionDef _ a _ _ _ _ _ _ _ _=>a
 | _=>{ posonlyargs:=[],args:=[],vararg:=none,kwonlyargs:=[],kw_defaults:=[],kwarg:=none,defaults:=[] }
def zbT (s:Stmt):List Stmt:=match s with
 | .FunctionDef _ _ b _ _ _ _ _ _ _=>b
 | _=>[]
def zo (s:Stmt):Scope:=match s with
 | .FunctionDef _ _ _ _ _ _ sc _ _ _=>sc
 | _=>{ kind:=.function,names:=[],isGenerator:=false,isCoroutine:=false }
abbrev CX0:CXT:=fun _ _ _ _ _ _=>False
abbrev E0:XK:=fun _ _ _=>False
theorem zsM {X:Cx}:zmS CX0 X E0:=fun _ _ _ _ _ _ _ h=>h.elim
structure Fun (K:W.Frag) (x qual:Str) (st:Stmt) (f:Addr) (fd:FuncData):Prop where
 ex:∃ (oc:Value) (od:Option Addr) (kV doc pm:Value) (an:Option Addr) (cdv ct:Value) (osl:Array (Option Value)),
  fd=W.fnOf x qual (zdj st) (zbT st) (zo st) .none kV doc pm an cdv ct/\K.lookup f=some ⟨oc,od,.func fd,osl⟩/\W.codeIn K cdv qual=true
 kp:W.keepIn K (.ref f)=true
section
variable {P:Program} {w:World} {K:W.Frag} {mg:Str->Option Value} {base:Heap}
theorem Fun.ok {x qual:Str} {st:Stmt} {f:Addr} {fd:FuncData} {N ps:List Str} {k:Nat} {sp:Sp} (F:Fun K x qual st f fd) (S:FnScope N ps (zo st)) (len:∀ vs H Q E,sp vs H Q E->vs.length=ps.length)
  (hbody:∀ (cdv:Value) (A:Around) (outer:List Env) (s:Shared) (H:Hp) (vs:List V) (Q:VK) (E:XK),Room k (A.deeper (envOfC qual (zo st) s.heap.objs.size f cdv))->sp vs H Q E ->
   ∃ t,PSs (zi5 CX0 P w K mg base N qual (zo st) f cdv A outer s H E).nox (zbT st) t/\t { nx:=fun _ H'=>Q .non H',rt:=Q } (start N vs) H):FnOk P w K mg base CX0 (k+1) f fd ps sp:=by
 obtain ⟨oc,od,kV,doc,pm,an,cdv,ct,osl,rfl,lk,hcd⟩:=F.ex
 refine zto lk hcd S len fun A outer s H vs Q E hr hsp=>?_
 obtain ⟨t,h,q⟩:=hbody cdv A outer s H vs Q E hr hsp; exact ⟨t,h.nox,q⟩
theorem Fun.binds {x qual:Str} {st:Stmt} {f:Addr} {fd:FuncData} {ps:List Str} (F:Fun K x qual st f fd)
  (h:∀ (kV doc pm:Value) (an:Option Addr) (cdv ct:Value) (us:List Value),us.length=ps.length->bindArgs (W.fnOf x qual (zdj st) (zbT st) (zo st) .none kV doc pm an cdv ct) ⟨us,[]⟩=pure (ps.zip us)):zd2 K fd ps []:=by
 obtain ⟨oc,od,kV,doc,pm,an,cdv,ct,osl,rfl,lk,hcd⟩:=F.ex; exact .all (h kV doc pm an cdv ct)
theorem zpA {x qual:Str} {st:Stmt} {f:Addr} {oc:Value} {od an:Option Addr} {osl:Array (Option Value)} {kV doc pm cdv ct:Value} (l:K.lookup f=some ⟨oc,od,.func (W.fnOf x qual (zdj st) (zbT st) (zo st) .none kV doc pm an cdv ct),osl⟩)
  (c:W.codeIn K cdv qual=true) (k:W.keepIn K (.ref f)=true):Fun K x qual st f (W.fnOf x qual (zdj st) (zbT st) (zo st) .none kV doc pm an cdv ct):=⟨⟨oc,od,kV,doc,pm,an,cdv,ct,osl,rfl,l,c⟩,k⟩
end
theorem zbe {A:Around} {k:Nat} (hr:Room k A):A.units+1<cLine:=Nat.lt_of_le_of_lt (Nat.add_le_add_left (by decide:1<=64) _) hr.units
theorem za4 {n:Nat} (h:n<=1000):n<sizeLine:=Nat.lt_of_le_of_lt h (by decide)
section
variable {X:Cx}
end
def zaS (H H':Hp):Prop:=∀ b o,H b=some o->H' b=some o
theorem zaS.refl (H:Hp):zaS H H:=fun _ _ h=>h
theorem zaS.trans {H H1 H2:Hp} (a:zaS H H1) (b:zaS H1 H2):zaS H H2:=fun c o h=>b c o (a c o h)
theorem zaS.free {H H':Hp} (e:zaS H H') {l:Addr} (h:H' l=Option.none):H l=Option.none:=by
 cases q:H l with
 | none=>rfl
 | some o =>
  rw [e l o q] at h; cases h
section
variable {κ:Type} [DecidableEq κ]
def zhm (kvs:List (κ × V)) (k:κ):Option V:=(kvs.find? fun kv=>decide (kv.1=k)).map (·.2)
def zlv (kvs:List (κ × V)) (k:κ) (v:V):List (κ × V) :=
 if (kvs.any fun kv=>decide (kv.1=k))=true then kvs.map (fun kv=>if kv.1=k then (kv.1,v) else kv) else kvs ++ [(k,v)]
theorem zgo {p:κ × V} {r:List (κ × V)} {k:κ} (e:p.1=k):zhm (p :: r) k=some p.2:=by simp [zhm,YF,e]
theorem zgp {p:κ × V} {r:List (κ × V)} {k:κ} (e:¬ p.1=k):zhm (p :: r) k=zhm r k:=by simp [zhm,YF,e]
theorem zgq (k:κ):∀ kvs:List (κ × V),(kvs.any fun kv=>decide (kv.1=k))=(zhm kvs k).isSome
 | []=>rfl
 | p :: r=>by
  rw [List.any_cons]
  by_cases e:p.1=k
  ·simp only [zgo e,YB e,Bool.true_or,Option.isSome_some]
  ·rw [zgp e,yV e,Bool.false_or]; exact zgq k r
theorem ziV (kvs:List (κ × V)) (k:κ) (v:V):(zlv kvs k v).length<=kvs.length+1:=by
 unfold zlv; split
 ·rw [yD]; omega
 ·rw [yH,yg,Ym]; omega
theorem zmQ.isSome_eq {o:Option V} {u:Option Value} (r:zmQ o u):o.isSome=u.isSome:=by
 cases o with
 | none=>cases u with
  | none=>rfl
  | some _=>exact (show False from r).elim
 | some _=>cases u with
  | none=>exact (show False from r).elim
  | some _=>rfl
theorem zmQ.getD {o:Option V} {u:Option Value} {d:V} {d':Value} (r:zmQ o u) (rd:zbo d d'):zbo (o.getD d) (u.getD d'):=by
 cases o with
 | none=>cases u with
  | none=>exact rd
  | some _=>exact (show False from r).elim
 | some _=>cases u with
  | none=>exact (show False from r).elim
  | some _=>exact r
theorem KV.length {kvs:List (κ × V)} {vs:List (κ × Value)} (r:KV kvs vs):kvs.length=vs.length:=Paired.length r
end
theorem zvj {P:Program} {w:World} {k:Key} {u:Value} (r:zbo (kV k) u):(zbA P w).is k u=true:=by
 cases k with
 | inl i=>obtain ⟨t,e⟩:=(show ∃ t,u=Value.int i t from r); subst e; exact ziU P w i t
 | inr x=>obtain ⟨t,e⟩:=(show ∃ t,u=Value.str x t from r); subst e; exact ziT P w x t
theorem zhV {P:Program} {w:World}:∀ {ks:List Key} {us:List Value},za7 (ks.map kV) us->ItemsAre (zbA P w) ks us
 | [],_,r=>by rw [List.map_nil] at r; cases r; exact .nil
 | k :: ks,_,r=>by
  rw [yZ] at r
  cases r with
  | cons h t=>exact .cons (zvj h) (zhV t)
abbrev KT (H:Hp):List (List Key × V)->List (List Key × Addr × Value)->Prop:=Paired fun p q=>p.1=q.1/\H q.2.1=some (.tup (p.1.map kV))/\zbo p.2 q.2.2
theorem KT.val {H:Hp} {kvs:List (List Key × V)} {xs:List (List Key × Addr × Value)} (r:KT H kvs xs) (k:List Key):zmQ (zhm kvs k) ((atKey xs k).map (·.2)):=by
 induction r with
 | nil=>exact True.intro
 | @cons p q ps qs h t ih =>
  obtain ⟨h1,_,h2⟩:=h
  by_cases e:p.1=k
  ·have e':q.1=k:=h1.symm.trans e
   have b:atKey (q :: qs) k=some q.2:=by simp [atKey,YF,e']
   rw [zgo e,b]; exact h2
  ·have e':¬ q.1=k:=fun z=>e (h1.trans z)
   have b:atKey (q :: qs) k=atKey qs k:=by simp [atKey,YF,e']
   rw [zgp e,b]; exact ih
theorem KT.repl {H:Hp} {kvs:List (List Key × V)} {xs:List (List Key × Addr × Value)} (r:KT H kvs xs) (k:List Key) {y:V} {u:Value} (ry:zbo y u) :
  KT H (kvs.map fun kv=>if kv.1=k then (kv.1,y) else kv) (xs.map (putAt k u)):=by
 induction r with
 | nil=>exact .nil
 | @cons p q ps qs h t ih =>
  rw [yZ,yZ]; refine .cons ?_ ih; obtain ⟨h1,h2,h3⟩:=h; unfold putAt
  by_cases e:p.1=k
  ·rw [yS e,yS (h1.symm.trans e)]; exact ⟨h1,h2,ry⟩
  ·rw [yQ e,yQ (fun z=>e (h1.trans z))]; exact ⟨h1,h2,h3⟩
theorem KT.put {H:Hp} {kvs:List (List Key × V)} {xs:List (List Key × Addr × Value)} (r:KT H kvs xs) (k:List Key) {b:Addr} {y:V} {u:Value} (hb:H b=some (.tup (k.map kV))) (ry:zbo y u) :
  KT H (zlv kvs k y) (storedH xs k b u):=by
 have e:(kvs.any fun kv=>decide (kv.1=k))=(atKey xs k).isSome:=by
  rw [zgq,(r.val k).isSome_eq,Option.isSome_map]
 unfold zlv storedH; rw [e]
 by_cases q:(atKey xs k).isSome=true
 ·rw [yS q,yS q]; exact r.repl k ry
 ·rw [yQ q,yQ q]; exact Paired.snoc r ⟨rfl,hb,ry⟩
theorem KT.keeps {H H':Hp} {kvs:List (List Key × V)} {xs:List (List Key × Addr × Value)} (r:KT H kvs xs) (ht:∀ b ys,H b=some (.tup ys)->H' b=some (.tup ys)):KT H' kvs xs :=
 Paired.mapP r fun _ _ z=>⟨z.1,ht _ _ z.2.1,z.2.2⟩
section
variable {P:Program} {w:World} {H:Hp} {h:Heap} {a:Addr}
theorem zeR {ks:List Key} (ok:HOk P w H h) (e:H a=some (.tup (ks.map kV))):(tupleKind (zbA P w)).is h ks a:=by
 obtain ⟨_,its,r,o,h1,h2,n,h3⟩:=(show zbM P w H h a (.tup (ks.map kV)) from ok a _ e)
 exact ⟨o,its.toArray,n,h1,h2,h3,by simpa using zhV r⟩
end
section
variable {X:Cx} {pins:List (Addr × Obj)} {σ:St} {H:Hp} {s:Shared} {a:Addr} {y v:V} {u r:Value} {o:Option V} {A:Around} {E:Value->Shared->Prop}
theorem Inv.big (I:Inv X pins σ H s):sysModules<s.heap.objs.size:=by
 have h:mainGlobals<s.heap.objs.size:=(I.mod.glob.keeps I.bk).lt
 exact Nat.lt_trans (by decide) h
theorem zi4 {h':Heap} {t':Nat} {ob:HO} (I:Inv X pins σ H s) (mu:Mut (H a)) (hs:Heap.SameBut a s.heap h') (he:∃ q,h'.get? a=some q) (new:zbM X.prog X.w (upd H a ob) h' a ob) :
  Inv X pins σ (upd H a ob) { s with heap:=h',toks:=t' } :=
 I.write (x:=a) (e:=a) mu (.inl rfl) (fun b q hb z=>(hs.2 b hb).trans z) he new
end
section
variable {X:Cx} {pins:List (Addr × Obj)} {σ:St} {H:Hp} {s:Shared} {a:Addr} {kvs:List (Key × V)} {k:Key} {u:Value} {A:Around} {E:Value->Shared->Prop}
end
section
variable {X:Cx} {o i e value:Expr} {pos pos' tpos:Pos} {td ty tv:TE}
end
section
variable {X:Cx} {pos:Pos}
end
structure M2 (X:Cx) (o:Expr) (m:Str) (apos:Pos) (e f:Expr) (cpos:Pos):Prop where
 base:attributeBase o m X.env (eval o X.env)=eval o X.env
 few:((backTo cpos (starEach [e,f] X.env)).all (fun x=>!x.1) && (backToKw cpos (keywordEach [] X.env)).all (fun x=>x.1.isSome)
  && decide (([e,f]:List Expr).length+([]:List Keyword).length+(if ([]:List Keyword).isEmpty then 0 else 1)<30))=true
 line:(apos.endLine == cpos.line)=true
 trees:backTo cpos (starEach [e,f] X.env)=[(false,eval e X.env),(false,eval f X.env)]
section
variable {X:Cx} {pins:List (Addr × Obj)} {σ:St} {H:Hp} {s:Shared} {a:Addr} {y d:V} {u r:Value} {o:Option V} {A:Around} {E:Value->Shared->Prop}
end
section
variable {X:Cx} {o e f:Expr} {apos cpos:Pos} {td ty tx:TE}
end
section
variable {X:Cx} {pins:List (Addr × Obj)} {σ:St} {H:Hp} {s:Shared} {a:Addr} {kvs:List (Key × V)} {A:Around} {E:Value->Shared->Prop}
end
section
variable {X:Cx} {pins:List (Addr × Obj)} {σ:St} {H:Hp} {s:Shared} {a:Addr} {y:V} {u:Value} {A:Around} {E:Value->Shared->Prop}
end
end L2
set_option maxHeartbeats 4000000
namespace L2
open PySem PySem.Spec PyProof.Rows
def st (l:List Nat):Str:=⟨l.toArray⟩
theorem zaW (l:List Nat):(st l).cps.toList=l:=by simp [st]
theorem zbZ (l:List Nat):(st l).length=l.length:=by simp [st,Str.length]
theorem zp1 (x:Str):x=st x.cps.toList:=by cases x; simp [st]
theorem st_inj {a b:List Nat} (h:st a=st b):a=b:=by
 have e:=yp (fun x:Str=>x.cps.toList) h
 simpa [st] using e
theorem zsa (a b:List Nat):st a ++ st b=st (a ++ b):=by
 show Str.append (st a) (st b)=st (a ++ b)
 unfold Str.append st; simp
theorem zpy (l:List Nat) (c:Nat):(!(Builtin.Str.occurrences (st l) (st [c]) 0 (st l).length 1).isEmpty)=decide (c ∈ l):=by
 have e:=StrLaws.found_one (st l) c; rw [zaW] at e; exact e
theorem znr (l:List Nat) (n:Nat):Txt.slice (st l) none (some (n:Int))=st (l.take n):=by
 by_cases h:n<=l.length
 ·have q:Txt.slice (st l) none (some (n:Int))=⟨(((st l).cps.toList.drop 0).take ((n:Int)-0).toNat).toArray⟩:=StrLaws.sliceText_to ⟨by omega,by rw [zaW]; omega⟩
  rw [q,zaW]; simp [st]
 ·have e:Txt.slice (st l) none (some (n:Int))=Txt.slice (st l) none (some (l.length:Int)):=by
   unfold Txt.slice
   have z:Builtin.Str.strSliceIndices none (some (n:Int)) 1 (st l).length=Builtin.Str.strSliceIndices none (some (l.length:Int)) 1 (st l).length:=by
    rw [zbZ]
    have h0:¬ (n:Int)<0:=by omega
    have h1:¬ ((l.length:Int)<0):=by omega
    have h2:(1:Int) > 0:=by decide
    have h3:min (n:Int) (l.length:Int)=(l.length:Int):=by omega
    simp only [Builtin.Str.strSliceIndices,h0,h1,h2,if_false,if_true,h3,Int.min_self]
   rw [z]
  have q:Txt.slice (st l) none (some (l.length:Int))=⟨(((st l).cps.toList.drop 0).take ((l.length:Int)-0).toNat).toArray⟩:=StrLaws.sliceText_to ⟨by omega,by rw [zaW]; omega⟩
  rw [e,q,zaW,yr (by omega:l.length<=n)]
  simp [st]
theorem zkg (l:List Nat) (n:Nat):Txt.slice (st l) (some (n:Int)) none=st (l.drop n):=by
 by_cases h:n<=l.length
 ·have q:Txt.slice (st l) (some (n:Int)) none=⟨(((st l).cps.toList.drop (n:Int).toNat).take (((st l).cps.toList.length:Int)-(n:Int)).toNat).toArray⟩:=StrLaws.sliceText_from ⟨by omega,by rw [zaW]; omega⟩
  rw [q,zaW]
  have e1:(n:Int).toNat=n:=by omega
  have e2:((l.length:Int)-(n:Int)).toNat=l.length-n:=by omega
  rw [e1,e2,yr (by rw [YK]; omega)]
  rfl
 ·rw [slice_beyond (by rw [zbZ]; omega),Yp (by omega)]
  rfl
section
variable {X:Cx}
theorem zig:zdn X (.type "int") (fun xs H Q=>∃ x n,xs=[.str x]/\PySem.intText? x=some n/\x.length<=640/\Q (.int n) H):=by
 intro pins s σ H xs us Q I r h; obtain ⟨x,n,rfl,hn,hl,q⟩:=h; obtain ⟨u,rfl,t,rfl⟩:=zcX r; exact W.KIN.call_text hn hl ⟨.int n,H,I.tok _,⟨_,rfl⟩,q⟩
def zwp:V->Option Int->Option Int->Hp->VK->Prop:=fun x lo hi H Q=>∃ z,x=.str z/\z.length<=sizeLine/\Q (.str (Txt.slice z lo hi)) H
theorem zsc:SlR X zwp:=by
 intro pins s σ H x v vl vu lo hi sl Q I rx hs pl pu h; obtain ⟨z,rfl,hz,q⟩:=h; obtain ⟨t,rfl⟩:=rx; refine ⟨"str",_,PySem.F.slot_str_getitem.lookup,typeIs_str _ _ _,?_⟩
 have fin:∀ t' k,EP X pins σ Q (.str (Txt.slice z lo hi) t') { s with toks:=k }:=fun t' k=>⟨.str (Txt.slice z lo hi),H,I.tok _,⟨_,rfl⟩,q⟩
 cases pl with
 | none =>
  cases pu with
  | none=>exact wpAny_getItem_str_slice (l:=none) (u:=none) (st:=none) hs rfl (post_val_or_str ⟨yz (Txt.slice_le z _ _) hz,fin⟩)
  | int j u=>exact wpAny_getItem_str_slice (l:=none) (u:=some (j,u)) (st:=none) hs rfl (post_val_or_str ⟨yz (Txt.slice_le z _ _) hz,fin⟩)
 | int i u' =>
  cases pu with
  | none=>exact wpAny_getItem_str_slice (l:=some (i,u')) (u:=none) (st:=none) hs rfl (post_val_or_str ⟨yz (Txt.slice_le z _ _) hz,fin⟩)
  | int j u=>exact wpAny_getItem_str_slice (l:=some (i,u')) (u:=some (j,u)) (st:=none) hs rfl (post_val_or_str ⟨yz (Txt.slice_le z _ _) hz,fin⟩)
theorem zl3:MtR X "str.rstrip" (fun x xs H Q=>∃ z y,x=.str z/\xs=[.str y]/\z.length<=sizeLine/\Q (.str (Txt.rstripChars z y)) H):=by
 intro pins s σ H x xs v us Q I rx rs h; obtain ⟨z,y,rfl,rfl,hz,q⟩:=h; obtain ⟨t,rfl⟩:=rx; obtain ⟨u,rfl,t',rfl⟩:=zcX rs
 exact PySem.SC.rstripChars (fun t' k=>⟨.str _,H,I.tok _,⟨_,rfl⟩,q⟩) hz
end
def ltV:V->V->Bool
 | .int i,.int j=>decide (i<j)
 | .str x,.str y=>decide (x.cps.toList<y.cps.toList)
 | _,_=>false
def zvy:V->V->Bool
 | .int _,.int _=>true
 | .str _,.str _=>true
 | _,_=>false
def zkU:List V->List V->Bool
 | [],[]=>false
 | [],_ :: _=>true
 | _ :: _,[]=>false
 | x :: xs,y :: ys=>if x=y then zkU xs ys else ltV x y
def zmC:List V->List V->Prop
 | x :: xs,y :: ys=>zvy x y=true/\zmC xs ys
 | _,_=>True
theorem zfA (x y:V) (xs ys:List V):zkU (x :: xs) (y :: ys)=if x=y then zkU xs ys else ltV x y:=rfl
theorem zoM {A:Around} {s:Shared} {x y:V} {u v:Value} (rx:zbo x u) (ry:zbo y v) (h:zvy x y=true):∃ e,SeqAt.EqAt A s u v e/\(e=true↔x=y):=by
 cases x with
 | int i =>
  cases y with
  | int j =>
   obtain ⟨t,rfl⟩:=rx; obtain ⟨t',rfl⟩:=ry
   exact ⟨(i == j),SeqAt.EqAt.int_int i t j t',by simp⟩
  | _=>exact yM (show false=true from h) yP
 | str a =>
  cases y with
  | str b =>
   obtain ⟨t,rfl⟩:=rx; obtain ⟨t',rfl⟩:=ry
   exact ⟨(a == b),SeqAt.EqAt.str_str a t b t',by simp⟩
  | _=>exact yM (show false=true from h) yP
 | _=>cases y <;> exact yM (show false=true from h) yP
theorem zny {A:Around} {s:Shared} {x y:V} {u v:Value} (rx:zbo x u) (ry:zbo y v) (h:zvy x y=true) (prog:Program) (w:World) (E:Value->Shared->Prop) (Q:Value->Shared->Prop) (q:Q (.bool (ltV x y)) s) :
  wpAny (model prog w) A (richCompare .Lt u v) Q E s:=by
 cases x with
 | int i =>
  cases y with
  | int j =>
   obtain ⟨t,rfl⟩:=rx; obtain ⟨t',rfl⟩:=ry; exact (PyProof.Rows.lt_int q:wpAny (model prog w) A (compareOp .Lt (.int i t) (.int j t')) Q E s)
  | _=>exact yM (show false=true from h) yP
 | str a =>
  cases y with
  | str b =>
   obtain ⟨t,rfl⟩:=rx; obtain ⟨t',rfl⟩:=ry; exact (PyProof.Rows.lt_str q:wpAny (model prog w) A (compareOp .Lt (.str a t) (.str b t')) Q E s)
  | _=>exact yM (show false=true from h) yP
 | _=>cases y <;> exact yM (show false=true from h) yP
end L2
namespace HT
open PySem PyProof.Rows L2
section
open PySem.SeqAt
open PySem.AutoSeq1 (wpAny_loadPart')
open PySem.MeetsSeq PySem.MeetsSeq2 PySem.MeetsSeq3
theorem zgs (l b:Addr) (items items2:Array Value) (n n2:Nat) (dd dd2:Option Addr) (sl sl2:Array (Option Value)) (ns ms:List V) (hi:za7 ns items.toList) (hj:za7 ms items2.toList) (hc:zmC ns ms) :
  Meets (Builtin.«tuple.__lt__» ⟨[.ref l,.ref b],[]⟩)
   (fun _ R s=>s.heap.get? l=some { cls:=.type "tuple",dict:=dd,data:=.seq items n,slots:=sl }/\s.heap.get? b=some { cls:=.type "tuple",dict:=dd2,data:=.seq items2 n2,slots:=sl2 } /\
    R (.ok (.ret (.bool (zkU ns ms)))) s) :=
 .of_wp fun prog w A R s h=>by
  obtain ⟨hp,g,d,tk,os⟩:=s; obtain ⟨hl,hb,h⟩:=h
  have f2:=AutoSeq1.sub_tuple_tuple
  have z1:items.size=ns.length:=by rw [hi.length]; simp
  have z2:items2.size=ms.length:=by rw [hj.length]; simp
  wp_walk using wpAny_loadPart' hl,wpAny_loadPart' hb,wpAny_forIn_list _ (fun zba b s'=>b.1=none/\s'=⟨hp,g,d,tk,os⟩/\∃ (vs ws:List Value) (ns' ms':List V),zba=vs.zip ws /\
   za7 ns' vs/\za7 ms' ws/\zmC ns' ms'/\ns'.length+items2.size=ms'.length+items.size/\R (.ok (.ret (.bool (zkU ns' ms')))) ⟨hp,g,d,tk,os⟩) _
  case turn =>
   rintro ⟨y,x⟩ zba b s' ⟨hb',rfl,vs,ws,ns',ms',hz,hvi,hwi,hcc,hlen,hR⟩
   cases hvi with
   | nil=>rw [List.zip_nil_left] at hz; cases hz
   | cons ra hvi' =>
    cases hwi with
    | nil=>rw [List.zip_nil_right] at hz; cases hz
    | cons rc hwi' =>
     rw [List.zip_cons_cons] at hz
     injection hz with hyx hrest
     injection hyx with hy hx
     subst hy hx
     rw [zfA] at hR; simp only [yg] at hlen; obtain ⟨hc1,hc2⟩:=hcc; obtain ⟨e,he,hiff⟩:=zoM (A:=A.in1) (s:=⟨hp,g,d,tk,os⟩) ra rc hc1; refine yA (he prog w _ _ ?_)
     cases e with
     | true =>
      rw [yS (hiff.mp rfl)] at hR
      wp_walk
      exact ⟨rfl,rfl,_,_,_,_,hrest,hvi',hwi',hc2,by omega,hR⟩
     | false =>
      rw [yQ (fun q=>yM (hiff.mpr q) yP)] at hR
      have hri:=fun E Q=>zny (A:=A.in1) (s:=⟨hp,g,d,tk,os⟩) ra rc hc1 prog w E Q
      wp_walk using hri
      exact ⟨_,rfl,by simpa using hR⟩
  case fin =>
   rintro ⟨b1,b2⟩ s' ⟨hb',rfl,vs,ws,ns',ms',hz,hvi,hwi,hcc,hlen,hR⟩
   simp only at hb'
   subst hb'
   have hv:zkU ns' ms'=decide (items.size<items2.size):=by
    cases hvi with
    | nil =>
     cases hwi with
     | nil =>
      simp only [Ym] at hlen
      exact (yV (by omega)).symm
     | cons rc hw =>
      simp only [Ym,yg] at hlen
      exact (YB (by omega)).symm
    | cons ra hv =>
     cases hwi with
     | nil =>
      simp only [Ym,yg] at hlen
      exact (yV (by omega)).symm
     | cons rc hw =>
      rw [List.zip_cons_cons] at hz; cases hz
   rw [hv] at hR
   wp_walk
   exact ⟨_,rfl,by simpa [Builtin.Tuple.tupleCompareSizes] using hR⟩
  case h =>
   exact ⟨rfl,rfl,items.toList,items2.toList,ns,ms,rfl,hi,hj,hc,by omega,h⟩
end
section
variable {prog:Program} {w:World} {A:Around} {E:Value->Shared->Prop} {s:Shared}
theorem lt_tupVals {l b:Addr} {items items2:Array Value} {ns ms:List V} {Q:Value->Shared->Prop} (hl:IsTup s.heap l items) (hb:IsTup s.heap b items2) (hi:za7 ns items.toList) (hj:za7 ms items2.toList) (hcc:zmC ns ms)
  (hu:A.units<cLine) (h:Q (.bool (zkU ns ms)) s):wpAny (model prog w) A (compareOp .Lt (.ref l) (.ref b)) Q E s:=by
 obtain ⟨⟨cls,dd,data,sl⟩,ho,hc,n,hd⟩:=id hl
 obtain ⟨⟨cls2,dd2,data2,sl2⟩,ho2,hc2,n2,hd2⟩:=id hb
 simp only at hc hd hc2 hd2
 subst hc hd hc2 hd2
 exact richCompare_meets_room (op:=.Lt) ⟨_,ho,rfl⟩ ⟨_,ho2,rfl⟩ PySem.F.slot_tuple_lt PySem.F.entry_tuple_lt (PySem.F.args_tuple_lt_2 _ _) (zgs l b items items2 n n2 dd dd2 sl sl2 ns ms hi hj hcc)
  ⟨ho,ho2,show Value.bool (zkU ns ms)≠Value.notImplemented/\Q (.bool (zkU ns ms)) s from ⟨(fun x=>nomatch x),h⟩⟩ hu
end
end HT
namespace L2
open PySem PySem.Spec PyProof.Rows
section
variable {X:Cx}
def zwt (K:W.Frag):R2:=fun x y H Q=>∃ a b ns ms,x=.ref a/\y=.ref b/\SqT K H a ns/\SqT K H b ms/\zmC ns ms/\Q (.bl (zkU ns ms)) H
theorem zsS (hu:X.A.units<cLine):OpR X (compareOp .Lt) (zwt X.K):=by
 intro pins s σ H x y v u Q I rx ry h; obtain ⟨a,b,ns,ms,rfl,rfl,ha,hb,hc,q⟩:=h; cases rx; cases ry; obtain ⟨its,r1,p1,_⟩:=I.tuple ha; obtain ⟨its2,r2,p2,_⟩:=I.tuple hb
 exact HT.lt_tupVals p1 p2 (by simpa using r1) (by simpa using r2) hc hu ⟨.bl (zkU ns ms),H,I,rfl,q⟩
end
def Its (l:List Nat):It:=⟨fun i _=>i<l.length,fun i H x H'=>H'=H/\∃ c,l[i]?=some c/\x=.str (st [c]),fun i _=>i=l.length⟩
theorem zjb {P:Program} {w:World} {A:Around} {cls:String} (hA:A.handled=none) (it:Addr) (x:Str) (t:Tok) (hcls:cls="str_ascii_iterator"\/cls="str_iterator"):Walks P w A it [it] [it] x.cps.size (SignAt x) (fun i h=>h.IsStrIter it cls x t i):=by
 rcases hcls with rfl | rfl
 ·exact Walks.strAscii hA it x t
 ·exact Walks.strWide hA it x t
theorem zje {P:Program} {w:World} {K:W.Frag} {tg:Expr} {cls:String} (x:Str) (t:Tok) (it:Addr) (hcls:cls="str_ascii_iterator"\/cls="str_iterator"):Turn P w K tg (Its x.cps.toList) [it] it (fun i h=>h.IsStrIter it cls x t i) where
 mem:=by simp
 obj:=fun i h stt b hb=>by
  have e:b=it:=by simpa using hb
  subst e; obtain ⟨o,e,c,d⟩:=stt
  exact ⟨o,e,fun v z=>by rw [d] at z; cases z⟩
 keep:=fun i h h' stt k=>by
  obtain ⟨o,e,r⟩:=stt
  exact ⟨o,k it (by simp) o e,r⟩
 item:=by
  intro X hP hw hK hc i pins s σ H E I hf stt hg
  subst hP hw hK
  obtain ⟨f0,f1,f2,f3,f4,f5⟩:=hf it (by simp)
  have hg':i<x.cps.toList.length:=hg
  refine (zjb (I.ok.hd hc) it x t hcls).item i s _ _ (by simpa using hg') stt fun v h' tk hv st' kk=>?_
  obtain ⟨c,u,hc',rfl⟩:=hv
  have I1:Inv X pins σ H { s with heap:=h',toks:=tk }:=I.turned (fun b o hb e=>kk b o (by simpa using hb) e) f0 f1 f3 f4 f5
  obtain ⟨o,e,hcl,d⟩:=id st'
  exact ⟨_,rfl,zhW (s:={ s with heap:=h',toks:=tk }) e hcl d (by rcases hcls with rfl | rfl <;> decide) ⟨.str (st [c]),H,I1,⟨u,rfl⟩,⟨rfl,c,by simpa using hc',rfl⟩,st',fun b hb=>(hf b hb).1⟩⟩
 done:=by
  intro X hP hw hK hc i pins s σ H E I hf stt hg
  subst hP hw hK
  obtain ⟨f0,f1,f2,f3,f4,f5⟩:=hf it (by simp)
  have hg':i=x.cps.toList.length:=hg
  subst hg'
  refine (zjb (I.ok.hd hc) it x t hcls).done s _ _ (by simpa using stt) fun h' tk kk=>?_
  exact ⟨rfl,I.turned (fun b o hb e=>kk b o (by simpa using hb) e) f0 f1 f3 f4 f5⟩
 self:=fun A i s Q E stt h=>by
  rcases hcls with rfl | rfl
  ·exact wpAny_pyIter_striter_ascii stt h
  ·exact wpAny_pyIter_striter_wide stt h
section
variable {X:Cx} {tg:Expr}
end
def zdK (cells:List (Str × Addr)):List (Str × NameKind)->List (Str × Addr)->List (Str × Addr)
 | [],acc=>acc
 | (n,k) :: r,acc=>if k == .free then zdK cells r ((n,(cells.lookup n).getD 0) :: acc) else zdK cells r acc
theorem zgm {env:Env}:∀ (l:List (Str × NameKind)) (acc:List (Str × Addr)),(∀ y ∈ l,y.2=.free->∃ c,env.cells.lookup y.1=some c) ->
  (forIn (m:=Sem) l acc fun x r=>if (x.2 == NameKind.free)=true then do let a <- cellOf env x.1; pure (ForInStep.yield ((x.1,a) :: r)) else pure (ForInStep.yield r))=pure (zdK env.cells l acc)
 | [],acc,_=>rfl
 | (n,k) :: r,acc,h=>by
  rw [List.forIn_cons]
  have ih:=fun acc'=>zgm r acc' fun y hy=>h y (yI _ hy)
  by_cases hk:k=.free
  ·subst hk
   obtain ⟨c,hc⟩:=h (n,.free) (yR ..) rfl
   have e:cellOf env n=pure c:=by
    unfold cellOf
    rw [show env.cells.lookup n=some c from hc]
   show ((if ((NameKind.free:NameKind) == NameKind.free)=true then _ else _) >>= _)=_
   rw [yS (by decide),e]
   unfold zdK
   rw [yS (by decide),show env.cells.lookup n=some c from hc]
   exact ih _
  ·have hb:(k == NameKind.free)=false:=by simpa using hk
   show ((if (k == NameKind.free)=true then _ else _) >>= _)=_
   rw [yQ (by rw [hb]; decide)]
   unfold zdK
   rw [yQ (by rw [hb]; decide)]
   exact ih _
theorem zgl {scope:Scope} {env:Env} (h:∀ y ∈ scope.names,y.2=.free->∃ c,env.cells.lookup y.1=some c):closureFor scope env=pure (zdK env.cells scope.names []):=by
 unfold closureFor; have e:=zgm scope.names [] h
 refine Eq.trans ?_ (yp (fun z=>z >>= fun cs=>(pure cs:Sem (List (Str × Addr)))) e)
 rfl
theorem zes {cells:List (Str × Addr)} {x:Str} {c:Addr}:∀ (l:List (Str × NameKind)) (acc:List (Str × Addr)),(∀ y ∈ l,y.2=.free->∃ c,cells.lookup y.1=some c)->(∀ x c,acc.lookup x=some c->cells.lookup x=some c)->(zdK cells l acc).lookup x=some c->cells.lookup x=some c
 | [],acc,_,ha,h=>ha x c h
 | (n,k) :: r,acc,hl,ha,h=>by
  unfold zdK at h; split at h
  ·rename_i hk
   obtain ⟨c',hc'⟩:=hl (n,k) (yR ..) (by simpa using hk)
   refine zes r _ (fun y hy=>hl y (yI _ hy)) (fun z d hz=>?_) h
   rw [show cells.lookup n=some c' from hc'] at hz
   rw [YL] at hz
   cases hzn:z == n with
   | true =>
    rw [hzn] at hz
    have e1:z=n:=by simpa using hzn
    rw [e1,show cells.lookup n=some c' from hc']
    simpa using hz
   | false =>
    rw [hzn] at hz; exact ha z d hz
  ·exact zes r acc (fun y hy=>hl y (yI _ hy)) ha h
theorem zhb {cells:List (Str × Addr)} {x:Str}:∀ (l:List (Str × NameKind)) (acc:List (Str × Addr)),(∃ c,acc.lookup x=some c)->∃ c,(zdK cells l acc).lookup x=some c
 | [],_,h=>h
 | (n,k) :: r,acc,h=>by
  unfold zdK; split
  ·refine zhb r _ ?_
   rw [YL]; split
   ·exact ⟨_,rfl⟩
   ·exact h
  ·exact zhb r acc h
theorem zha {cells:List (Str × Addr)} {x:Str}:∀ (l:List (Str × NameKind)) (acc:List (Str × Addr)),(x,NameKind.free) ∈ l->∃ c,(zdK cells l acc).lookup x=some c
 | [],_,h=>yM h yu
 | (n,k) :: r,acc,h=>by
  unfold zdK
  rcases yJ.mp h with e | e
  ·cases e
   rw [yS (by decide)]
   refine zhb r _ ?_; rw [YL,beq_self_eq_true]; exact ⟨_,rfl⟩
  ·split
   ·exact zha r _ e
   ·exact zha r _ e
theorem zeK {x:Str} {k:NameKind}:∀ {l:List (Str × NameKind)},l.lookup x=some k->(x,k) ∈ l
 | [],h=>by simp at h
 | (n,j) :: r,h=>by
  rw [YL] at h
  cases e:x == n with
  | true =>
   rw [e] at h
   have e1:x=n:=by simpa using e
   have e2:j=k:=by simpa using h
   rw [e1,e2]; exact yR ..
  | false =>
   rw [e] at h; exact yI _ (zeK h)
theorem zgc {env:Env} (hk:env.scope.kind=.function) {x:Str} (hx:env.kindOf x=some .cell):∀ {l:List (Str × NameKind)},l.lookup x=some .free ->
  (l.map fun (n,k)=>if (k == NameKind.free && env.scope.kind == .function && env.kindOf n == some .cell) then (n,NameKind.cell) else (n,k)).lookup x=some .cell
 | [],h=>by simp at h
 | (n,k) :: r,h=>by
  rw [YL] at h; rw [yZ]
  show List.lookup x ((if (k == NameKind.free && env.scope.kind == .function && env.kindOf n == some .cell)=true then (n,NameKind.cell) else (n,k)) :: _)=_
  cases e:x == n with
  | true =>
   rw [e] at h
   have e1:x=n:=by simpa using e
   have e2:k=.free:=by simpa using h
   subst e1 e2
   have z:((NameKind.free == NameKind.free && env.scope.kind == .function && env.kindOf x == some .cell):Bool)=true:=by rw [hk,hx]; decide
   rw [yS z,YL,beq_self_eq_true]
  | false =>
   rw [e] at h; have ih:=zgc hk hx (l:=r) h
   by_cases z:(k == NameKind.free && env.scope.kind == .function && env.kindOf n == some .cell)=true
   ·rw [yS z,YL,e]
    exact ih
   ·rw [yQ z,YL,e]
    exact ih
theorem zgd {env:Env} {x:Str}:∀ {l:List (Str × NameKind)},(∀ y ∈ l,y.2≠.cell)->((l.map fun (n,k)=>if (k == NameKind.free && env.scope.kind == .function && env.kindOf n == some .cell) then (n,NameKind.cell) else (n,k)).lookup x=some .cell \/
  (l.map fun (n,k)=>if (k == NameKind.free && env.scope.kind == .function && env.kindOf n == some .cell) then (n,NameKind.cell) else (n,k)).lookup x=some .free)->(x,NameKind.free) ∈ l
 | [],_,h=>by simp at h
 | (n,k) :: r,hc,h=>by
  have again:∀ (z:(r.map fun (n,k)=>if (k == NameKind.free && env.scope.kind == .function && env.kindOf n == some .cell) then (n,NameKind.cell) else (n,k)).lookup x=some .cell\/(r.map fun (n,k)=>if (k == NameKind.free && env.scope.kind == .function && env.kindOf n == some .cell) then (n,NameKind.cell) else (n,k)).lookup x=some .free),(x,NameKind.free) ∈ (n,k) :: r :=
   fun z=>yI _ (zgd (fun y hy=>hc y (yI _ hy)) z)
  rw [yZ] at h
  change List.lookup x ((if (k == NameKind.free && env.scope.kind == .function && env.kindOf n == some .cell)=true then (n,NameKind.cell) else (n,k)) :: _)=some NameKind.cell\/List.lookup x ((if (k == NameKind.free && env.scope.kind == .function && env.kindOf n == some .cell)=true then (n,NameKind.cell) else (n,k)) :: _)=some NameKind.free at h
  by_cases z:(k == NameKind.free && env.scope.kind == .function && env.kindOf n == some .cell)=true
  ·have hk:k=.free:=by
    simp only [yX,beq_iff_eq] at z; exact z.1.1
   rw [yS z,YL] at h
   cases e:x == n with
   | true =>
    have e1:x=n:=by simpa using e
    rw [e1,hk]; exact yR ..
   | false =>
    rw [e] at h; exact again h
  ·rw [yQ z,YL] at h
   cases e:x == n with
   | true =>
    rw [e] at h
    have e1:x=n:=by simpa using e
    rcases h with h | h
    ·exact yM (by simpa using h) (hc (n,k) (yR ..))
    ·have e2:k=.free:=by simpa using h
     rw [e1,e2]; exact yR ..
   | false =>
    rw [e] at h; exact again h
structure Blk (N N':List Str) (src:List (Option Nat)) (fsc sc:Scope):Prop where
 kind:sc.kind=.function
 cell:∀ y ∈ sc.names,y.2≠.cell
 names:∀ y ∈ sc.names,y.2=.local->sc.names.lookup y.1=some .local
 free:∀ y ∈ sc.names,y.2=.free->fsc.names.lookup y.1=some .cell
 len:src.length=N'.length
 sees:((N'.zip src).all fun y=>match y.2 with | none=>true | some i=>decide (N[i]?=some y.1) && decide (sc.names.lookup y.1=some .free))=true
def zns (src:List (Option Nat)) (σ:St):St:=src.map fun o=>o.bind fun i=>(σ[i]?).join
abbrev blk (X:Cx) (N':List Str) (sc:Scope) (cl:List (Str × Addr)) (C:Addr) (s:Shared) (H:Hp) (fp:List Addr) (pn:List (Addr × Obj)):Cx :=
 { X with N:=N',s₀:=s,H₀:=H,env:=compEnvC sc cl C X.env,outer:=X.stack,ex:=fp,fn:=fun _=>false,pn:=pn }
theorem zpI {X:Cx} {N N':List Str} {src:List (Option Nat)} {fsc sc:Scope} {pins:List (Addr × Obj)} {σ:St} {H:Hp} {s:Shared} {fp:List Addr} {h':Heap} {tk:Nat} {m:Str->Option Value} (I:Inv X pins σ H s) (B:Blk N N' src fsc sc) (hN:X.N=N) (hs:X.env.scope=fsc)
  (f2:∀ b ∈ fp,zeT X pins H b) (fb:∀ b ∈ fp,b<s.heap.objs.size) (hn:h'.Ns s.heap.objs.size m) (kp:∀ b o,s.heap.get? b=some o->h'.get? b=some o) :
  Inv (blk X N' sc (zdK X.env.cells sc.names []) s.heap.objs.size s H fp (X.pn ++ pins)) [] (zns src σ) H { s with heap:=h',toks:=tk }:=by
 subst hN hs
 have hfr:∀ y ∈ sc.names,y.2=.free->∃ c,X.env.cells.lookup y.1=some c:=fun y hy e=>I.ok.has y.1 (.inl (B.free y hy e))
 have sub:∀ x c,(zdK X.env.cells sc.names []).lookup x=some c->X.env.cells.lookup x=some c:=fun x c e=>zes sc.names [] hfr (fun _ _ z=>by simp at z) e
 have has:∀ x,(x,NameKind.free) ∈ sc.names->∃ c,(zdK X.env.cells sc.names []).lookup x=some c:=fun x hx=>zha sc.names [] hx
 have ok:Cx.Ok (blk X N' sc (zdK X.env.cells sc.names []) s.heap.objs.size s H fp (X.pn ++ pins)):=by
  refine ⟨I.ok.mod,B.kind,I.ok.glob,I.ok.blt,yG _,fun x y c e1 e2=>I.ok.inj x y c (sub x c e1) (sub y c e2),fun x hx=>has x (zgd B.cell hx),fun x c e=>(nomatch e),I.ok.hd,I.ok.frames,.inl rfl,fun b hb=>⟨yd (fb b hb),fun x c e=>(f2 b hb).2.2.2.2.1 x c (sub x c e)⟩,
   I.bs,yz I.ok.bsz I.sz,fun b o e hb=>?_,fun b hb z=>?_,I.stack,I.stkFree,I.ok.tab.un I.base.tbls⟩
  ·rcases (f2 b hb).2.2.2.1 with z | z
   ·exact I.ok.noex b o e z
   ·exact yM (yW (yN e) (yz I.ok.bsz z)) (YS _)
  ·rcases yJ.mp (I.stkSub b z) with e | e
   ·exact (f2 b hb).2.1 e
   ·exact (f2 b hb).2.2.1 e
 refine ⟨ok,rfl,I.bare,Un.kept kp,⟨m,hn,fun j x v e1 e2 e3=>?_⟩,fun x c e=>?_,I.hok.fresh (yG _),fun x c e=>I.freeC x c (sub x c e),fun p hp=>?_,I.hok.kept kp,?_⟩
 ·have e2':(src[j]?).map (fun o=>o.bind fun i=>(σ[i]?).join)=some (some v):=by
   have z:=e2; unfold zns at z; rw [yL] at z; exact z
  cases hj:src[j]? with
  | none=>rw [hj] at e2'; cases e2'
  | some o =>
   rw [hj] at e2'
   cases o with
   | none=>cases e2'
   | some i =>
    have hσ:σ[i]?=some (some v):=by
     have z:(σ[i]?).join=some v:=by simpa using e2'
     cases hz:σ[i]? with
     | none=>rw [hz] at z; cases z
     | some w=>rw [hz] at z; exact yp some z
    have hz:(x,some i) ∈ N'.zip src:=by
     have q:(N'.zip src)[j]?=some (x,some i):=by
      rw [List.getElem?_zip_eq_some]; exact ⟨e1,hj⟩
     exact yb q
    have q:=yY.mp B.sees _ hz; simp only [yX,yk] at q; obtain ⟨q1,q2⟩:=q
    have hkc:X.env.kindOf x=some .cell:=B.free _ (zeK q2) rfl
    obtain ⟨m0,_,hl⟩:=I.loc; obtain ⟨u,ru,lk⟩:=hl i x v q1 hσ (.inr (.inl hkc)); refine ⟨u,ru,.inr ⟨.inl (zgc I.ok.kind hkc q2),?_⟩⟩
    rcases lk with ⟨k,_⟩ | ⟨_,c,e,z⟩
    ·rw [hkc] at k; cases k
    ·obtain ⟨c',hc'⟩:=has x (zeK q2)
     have e':=sub x c' hc'; rw [e] at e'; cases e'; obtain ⟨o,ho,hd⟩:=z; exact ⟨c,hc',o,kp _ _ ho,hd⟩
 ·obtain ⟨v,o,ho,hd⟩:=I.cell x c (sub x c e)
  exact ⟨v,o,kp _ _ ho,hd⟩
 ·rw [YG] at hp
  obtain ⟨e,n,ne,nf,d⟩:=I.pin p hp
  refine ⟨kp _ _ e,n,yd (yN e),fun z=>?_,d⟩
  rcases yJ.mp (I.stkSub p.1 z) with q | q
  ·exact ne q
  ·exact nf q
 ·show (zns src σ).length=N'.length
  unfold zns; rw [yD,B.len]
theorem Un.same {fs ex:List Addr} {H H1:Hp} {h h1 h2:Heap} {a:Addr} (u:Un fs ex H H1 h h1) (hs:Heap.SameBut a h1 h2) (ha:h.objs.size<=a):Un fs ex H H1 h h2:=by
 have ne:∀ b o,h.get? b=some o->b≠a:=fun b o e=>yd (yW (yN e) ha)
 refine ⟨fun b o e n h1 h2=>?_,fun b o e n h1 h2=>?_,u.free,fun b o e h1=>?_,u.tups,u.frzs,u.tbls⟩
 ·exact (hs.2 b (ne b o e)).trans (u.keep b o e n h1 h2)
 ·obtain ⟨sl,q⟩:=u.slot b o e n h1 h2
  exact ⟨sl,(hs.2 b (ne b o e)).trans q⟩
 ·obtain ⟨o',q⟩:=u.there b o e h1
  exact ⟨o',(hs.2 b (ne b o e)).trans q⟩
theorem HOk.same {P:Program} {w:World} {H:Hp} {h h':Heap} {a:Addr} (x:HOk P w H h) (hs:Heap.SameBut a h h') (ha:H a=none):HOk P w H h':=fun b o e=>by
 refine (x b o e).stay (fun c u hc q=>(hs.2 c ?_).trans q) (fun _ q=>q) fun _ _ q=>q
 rintro rfl
 rcases hc with rfl | hc
 ·rw [ha] at e; cases e
 ·rw [ha] at hc; cases hc
def PTs (X:Cx) (ifs:List Expr) (t:TT):Prop :=
 ∀ (pins:List (Addr × Obj)) (s:Shared) (σ:St) (H:Hp) (Q:Bool->Hp->Prop),Inv X pins σ H s->t σ H Q ->
  wpAny (model X.prog X.w) X.A (forIn ifs true fun c r=>if r=true then do let ok <- isTrue c X.env (eval c X.env); pure (ForInStep.yield ok) else pure (ForInStep.yield r)) (TP X pins σ Q) X.xe s
theorem zqj {X:Cx}:PTs X [] (fun _ H Q=>Q true H):=fun _ _ _ H _ I h=>yE ⟨H,I,h⟩
theorem zqi {X:Cx} {c:Expr} {t:TT} (h:PT X c t):PTs X [c] t:=fun pins s σ H Q I q=>wpAny_tests_one (h pins s σ H Q I q)
theorem zia {P:Program} {w:World} {A:Around} {R:Result->Shared->Prop} {s:Shared} {elt tg iter:Expr} {ifs:List Expr} {sc:Scope} {pos:Pos} {it acc:Value} {env:Env} (J:Nat->Shared->Prop)
  (turn:∀ k s',J k s'->wpAny (model P w) A (pyNext it) (fun r s1=>match r with
   | none=>R (.ok .next) s1
   | some v=>wpAny (model P w) A (letOwnedTupleGo tg it v) (fun _ s2=>wpAny (model P w) A (assign tg env v) (fun _ s3 =>
     wpAny (model P w) A (forIn ifs true fun c r=>if r=true then do let ok <- isTrue c env (eval c env); pure (ForInStep.yield ok) else pure (ForInStep.yield r)) (fun b s4 =>
      if b=true then wpAny (model P w) A (eval elt env) (fun y s5=>wpAny (model P w) A (call (.builtin "list.append") [acc,y]) (fun _ s6=>∃ m,m<k/\J m s6) (fun _ _=>False) s5) (fun _ _=>False) s4
      else ∃ m,m<k/\J m s4) (fun _ _=>False) s3) (fun _ _=>False) s2) (fun _ _=>False) s1) (fun _ _=>False) s')
  (k:Nat) (h:J k s):codeAny (model P w) A (.compLoop (.ListComp elt [⟨tg,iter,ifs,0⟩] sc pos) 0 it acc env) R s:=by
 have no:∀ {α:Type} {t:Sem α} {Q Q':α->Shared->Prop} {E:Value->Shared->Prop} {z:Shared},wpAny (model P w) A t Q (fun _ _=>False) z->(∀ a z',Q a z'->Q' a z')->wpAny (model P w) A t Q' E z:=fun g1 g2=>yx g1 g2 fun _ _ f=>f.elim
 refine codeAny_loop rfl J (fun k s' hJ=>?_) k h
 show wpAny _ A ((compTurn (.ListComp elt [⟨tg,iter,ifs,0⟩] sc pos) 0 it acc env).onRaise (fun x=>do noteFrame x env; theTreesLotGoes x)) _ _ s'
 refine wpAny_noted ?_; rw [compTurn_list]
 refine yA (wpAny_standAt (yA (no (turn k s' hJ) fun r s1 h1=>?_)))
 cases r with
 | none=>exact yE h1
 | some v =>
  refine yA (no h1 fun _ s2 h2=>yA (no h2 fun _ s3 h3=>yA (no h3 fun b s4 h4=>?_)))
  cases b with
  | false=>exact yE ⟨rfl,h4⟩
  | true=>exact yA (yA (no h4 fun y s5 h5=>yA (no h5 fun _ s6 h6=>yE (yE ⟨rfl,h6⟩))))
def zr8 (wi:TI) (src:List (Option Nat)) (g:TG) (tc:TT) (te:TE):TE:=fun σ H Q=>wi σ H fun J H1=>∀ D,H1 D=none->∃ W:Nat->Nat->St->Hp->Prop,(∃ m,W 0 m (zns src σ) (upd H1 D (.lst [])))/\∀ i m σ2 H2,W i m σ2 H2 ->
 (J.stop i H2/\Q (.ref D) H2)\/(J.go i H2/\∃ M:St->Hp->Prop,(∀ σ' H',M σ' H'->∃ m',m'<m/\W (i+1) m' σ' H')/\∀ x H',J.yld i H2 x H'->g x σ2 H' fun σ3 H3=>tc σ3 H3 fun b H4 =>
  if b=true then te σ3 H4 fun y H5=>∃ ys,H5 D=some (.lst ys)/\ys.length<sizeLine/\M σ3 (upd H5 D (.lst (ys ++ [y]))) else M σ3 H4)
theorem zqK {X:Cx} {elt tg iter:Expr} {ifs:List Expr} {sc fsc:Scope} {pos:Pos} {wi:TI} {g:TG} {tc:TT} {te:TE} {N N':List Str} {src:List (Option Nat)} (B:Blk N N' src fsc sc) (hi:PI X tg iter wi)
  (hg:∀ cl C s H fp pn,PG (blk X N' sc cl C s H fp pn) tg g) (ht:∀ cl C s H fp pn,PTs (blk X N' sc cl C s H fp pn) ifs tc) (he:∀ cl C s H fp pn,PE (blk X N' sc cl C s H fp pn) elt te)
  (hx:X.xe=(fun _ _=>False):=by rfl) (hc:X.calm=true:=by rfl) (hN:X.N=N:=by rfl) (hs:X.env.scope=fsc:=by rfl)
  (hf:∀ x,foldedSetIterable iter X.env x=pure x:=by intro _; rfl):PE X (.ListComp elt [⟨tg,iter,ifs,0⟩] sc pos) (zr8 wi src g tc te):=by
 intro pins s σ H Q I h; rw [eval_ListComp]
 have hfr:∀ y ∈ sc.names,y.2=.free->∃ c,X.env.cells.lookup y.1=some c:=fun y hy e=>I.ok.has y.1 (.inl (by have:=B.free y hy e; rw [<- hs] at this; exact this))
 refine wpAny_comprehension_free (use:=none) (cl:=zdK X.env.cells sc.names []) rfl hf (zgl hfr) B.kind B.names ?_
 refine thn (hi pins s σ H _ I h) fun v s1 h1=>thn h1 fun itv s2 h2=>?_
 obtain ⟨it,fp,tn,J,H2,e,I2,T,st2,f2,q⟩:=h2; subst e
 obtain ⟨W,⟨m0,w0⟩,turn⟩:=q s2.heap.objs.size (I2.hok.fresh (yG _))
 refine yj (wpAny_newFunctionEnv B.cell (by intro y hy; simp at hy) (fun h1 hns hsb=>?_) B.kind)
 dsimp only at hns hsb ⊢
 have I3:Inv X pins σ (upd H2 s2.heap.objs.size (.lst [])) { s2 with heap:=s2.heap.push { cls:=.type "list",dict:=none,data:=.seq ([]:List Value).toArray } } :=
  I2.laid (t':=s2.toks) (fun b o e=>yB _ e) (yG _) ⟨yo _,[],0,.nil,yK _ rfl⟩
 have fb:∀ b ∈ fp,b<s2.heap.objs.size:=fun b hb=>by
  obtain ⟨o,e,_⟩:=T.obj 0 _ st2 b hb; exact yN e
 have f3:∀ b ∈ fp,zeT X pins (upd H2 s2.heap.objs.size (.lst [])) b:=fun b hb=>by
  refine ⟨?_,(f2 b hb).2⟩; rw [zI (yd (fb b hb))]; exact (f2 b hb).1
 generalize hh3:s2.heap.push { cls:=.type "list",dict:=none,data:=.seq ([]:List Value).toArray }=h3 at hns hsb I3 ⊢
 have z3:s2.heap.objs.size<h3.objs.size:=by rw [<- hh3,YT]; exact Nat.lt_succ_self _
 have k3:∀ b o,h3.get? b=some o->h1.get? b=some o:=fun b o e=>hsb.extBut b o (yd (yN e)) (yB _ e)
 have I4:=zpI (tk:=s2.toks+([]:List (Str × Value)).length) I3 B hN hs f3 (fun b hb=>Nat.lt_trans (fb b hb) z3) hns k3
 have st4:tn 0 h1:=T.keep 0 _ _ st2 fun b hb o e=>k3 b o (by rw [<- hh3]; exact yB _ e)
 have fok:∀ {H':Hp},(∀ b ∈ fp,H' b=none)->∀ b ∈ fp,zeT (blk X N' sc (zdK X.env.cells sc.names []) h3.objs.size { s2 with heap:=h3 } (upd H2 s2.heap.objs.size (.lst [])) fp (X.pn ++ pins)) [] H' b:=fun hn b hb=>by
  obtain ⟨_,g1,g2,g3,g4,g5⟩:=f3 b hb
  refine ⟨hn b hb,yd (Nat.lt_trans (fb b hb) z3),fun z=>?_,.inl hb,fun x c e=>g4 x c (zes sc.names [] hfr (fun _ _ z=>by simp at z) e),fun p hp=>g5 p (by rw [YG] at hp; exact hp)⟩
  rcases yJ.mp (I3.stkSub b z) with e | e
  ·exact g1 e
  ·exact g2 e
 have loop:∀ s4:Shared,s4={ s2 with heap:=h1,toks:=s2.toks+([]:List (Str × Value)).length } ->
   codeAny (model X.prog X.w) X.A (.compLoop (.ListComp elt [⟨tg,iter,ifs,0⟩] sc pos) 0 (.ref it) (.ref s2.heap.objs.size) (compEnvC sc (zdK X.env.cells sc.names []) h3.objs.size X.env))
    (compPost (model X.prog X.w) X.A X.xe none (EP X pins σ Q) (.ref s2.heap.objs.size) h3.objs.size) s4:=by
  rintro s4 rfl
  refine zia (fun k s'=>∃ i σ5 H5,Inv (blk X N' sc (zdK X.env.cells sc.names []) h3.objs.size { s2 with heap:=h3 } (upd H2 s2.heap.objs.size (.lst [])) fp (X.pn ++ pins)) [] σ5 H5 s'/\tn i s'.heap/\(∀ b ∈ fp,H5 b=none)/\W i k σ5 H5) ?_ m0
   ⟨0,_,_,I4,st4,fun b hb=>(f3 b hb).1,w0⟩
  rintro k s5 ⟨i,σ5,H5,I5,st5,fr5,w5⟩
  rcases turn i k σ5 H5 w5 with ⟨stop,qd⟩ | ⟨go,M,hM,step⟩
  ·refine thn (T.done (blk X N' sc (zdK X.env.cells sc.names []) h3.objs.size { s2 with heap:=h3 } (upd H2 s2.heap.objs.size (.lst [])) fp (X.pn ++ pins)) rfl rfl rfl hc i [] s5 σ5 H5 _ I5 (fok fr5) st5 stop) fun r s6 ⟨hr,I6⟩=>?_
   subst hr; obtain ⟨m6,hn6,_⟩:=id I6.loc
   refine ⟨m6,hn6,fun h' hsb'=>⟨.ref s2.heap.objs.size,H5,?_,rfl,qd⟩⟩
   exact I3.call' (s':={ s6 with heap:=h' }) (ch:=fp) I6.os (Un.same I6.base hsb' (yG _)) (HOk.same I6.hok hsb' I6.free) I6.bare fun b hb=>⟨(f3 b hb).2.2.2.1,(f3 b hb).2.1,(f3 b hb).2.2.2.2.1,(f3 b hb).2.2.2.2.2⟩
  ·refine thn (T.item (blk X N' sc (zdK X.env.cells sc.names []) h3.objs.size { s2 with heap:=h3 } (upd H2 s2.heap.objs.size (.lst [])) fp (X.pn ++ pins)) rfl rfl rfl hc i [] s5 σ5 H5 _ I5 (fok fr5) st5 go) fun r s6 ⟨u,hr,h6⟩=>?_
   subst hr
   refine thn h6 fun _ s7 ⟨x,H7,I7,r7,y7,st7,fr7⟩=>?_
   have I7':=I7.pinned (fok fr7) (T.obj _ _ st7)
   have back:∀ {σ8:St} {H8:Hp} {s8:Shared},Inv (blk X N' sc (zdK X.env.cells sc.names []) h3.objs.size { s2 with heap:=h3 } (upd H2 s2.heap.objs.size (.lst [])) fp (X.pn ++ pins)) ([] ++ zgf fp s7.heap) σ8 H8 s8->tn (i+1) s8.heap/\∀ b ∈ fp,H8 b=none:=fun {σ8 H8 s8} I8=>by
    have pn8:∀ b ∈ fp,∀ o,s7.heap.get? b=some o->s8.heap.get? b=some o/\H8 b=none:=fun b hb o e=>by
     have q:=I8.pin (b,o) (yf _ (yf _ (zdB hb e))); exact ⟨q.1,q.2.1⟩
    refine ⟨T.keep _ _ _ st7 fun b hb o e=>(pn8 b hb o e).1,fun b hb=>?_⟩
    obtain ⟨o,e,_⟩:=T.obj _ _ st7 b hb; exact (pn8 b hb o e).2
   have xf:∀ {α:Type} {t:Sem α} {Q1 Q2:α->Shared->Prop} {z:Shared},wpAny (model X.prog X.w) X.A t Q1 X.xe z->(∀ a z',Q1 a z'->Q2 a z')->wpAny (model X.prog X.w) X.A t Q2 (fun _ _=>False) z:=fun g1 g2=>by
    rw [hx] at g1; exact thn g1 g2
   refine xf (hg _ _ _ _ _ _ _ s7 σ5 H7 x u _ I7' r7 (step x H7 y7)) fun _ s8 ⟨σ8,H8,I8,q8⟩=>?_
   refine xf (ht _ _ _ _ _ _ _ s8 σ8 H8 _ I8 q8) fun b s9 ⟨H9,I9,q9⟩=>?_
   cases b with
   | false =>
    obtain ⟨m',hm,w'⟩:=hM σ8 H9 (by simpa using q9)
    obtain ⟨g1,g2⟩:=back I9; exact ⟨m',hm,i+1,σ8,H9,I9.unpinned,g1,g2,w'⟩
   | true =>
    rw [yS rfl] at q9 ⊢
    refine xf (he _ _ _ _ _ _ _ s9 σ8 H9 _ I9 q9) fun y s10 ⟨yv,H10,I10,r10,ys,hy,hz,w⟩=>?_
    obtain ⟨m',hm,w'⟩:=hM _ _ w
    refine xf (zel (X:=(blk X N' sc (zdK X.env.cells sc.names []) h3.objs.size { s2 with heap:=h3 } (upd H2 s2.heap.objs.size (.lst [])) fp (X.pn ++ pins))) _ s10 σ8 H10 (.ref s2.heap.objs.size) [yv] _ [y] (fun _ H11=>H11=upd H10 s2.heap.objs.size (.lst (ys ++ [yv]))) I10 rfl (.cons r10 .nil) ⟨_,ys,yv,rfl,rfl,hy,hz,rfl⟩) fun _ s11 ⟨_,H11,I11,_,e11⟩=>?_
    subst e11; obtain ⟨g1,g2⟩:=back I11; exact ⟨m',hm,i+1,σ8,_,I11.unpinned,g1,g2,w'⟩
 exact codeAny_compStart_list (loop _ rfl) (T.self _ 0 _ _ _ st4 (loop _ rfl))
theorem zh8 {J:It} {n:Nat} {g:TG} {tc:TT} {te:TE} {Q:VK} {D:Addr} {σ0:St} {H0:Hp} (Pv:Nat->St->Hp->Prop) (h0:Pv 0 σ0 H0)
  (hs:∀ i σ H,i<n->Pv i σ H->J.go i H/\∀ x H',J.yld i H x H'->g x σ H' fun σ3 H3=>tc σ3 H3 fun b H4=>if b=true then te σ3 H4 fun y H5=>∃ ys,H5 D=some (.lst ys)/\ys.length<sizeLine/\Pv (i+1) σ3 (upd H5 D (.lst (ys ++ [y]))) else Pv (i+1) σ3 H4)
  (hd:∀ σ H,Pv n σ H->J.stop n H/\Q (.ref D) H) :
  ∃ W:Nat->Nat->St->Hp->Prop,(∃ m,W 0 m σ0 H0)/\∀ i m σ2 H2,W i m σ2 H2 ->
   (J.stop i H2/\Q (.ref D) H2)\/(J.go i H2/\∃ M:St->Hp->Prop,(∀ σ' H',M σ' H'->∃ m',m'<m/\W (i+1) m' σ' H')/\∀ x H',J.yld i H2 x H'->g x σ2 H' fun σ3 H3=>tc σ3 H3 fun b H4 =>
    if b=true then te σ3 H4 fun y H5=>∃ ys,H5 D=some (.lst ys)/\ys.length<sizeLine/\M σ3 (upd H5 D (.lst (ys ++ [y]))) else M σ3 H4):=by
 refine ⟨fun i m σ H=>m=n-i/\i<=n/\Pv i σ H,⟨n,by simp,yo _,h0⟩,?_⟩
 rintro i m σ2 H2 ⟨rfl,hi,p⟩
 by_cases hlt:i<n
 ·obtain ⟨go,stp⟩:=hs i σ2 H2 hlt p
  exact .inr ⟨go,Pv (i+1),fun σ' H' p'=>⟨n-(i+1),by omega,rfl,hlt,p'⟩,stp⟩
 ·have e:i=n:=by omega
  subst e; exact .inl (hd σ2 H2 p)
end L2
namespace L2
open PySem
def XAt (a C:Addr) (dd:Option Addr):Heap->Prop:=fun h=>∃ vs sl,h.get? a=some ⟨.ref C,dd,.fields vs,sl⟩
end L2
namespace PL
open PySem L2
inductive D where
 | non | bl (b:Bool) | int (i:Int) | str (l:List Nat) | ty (n:String) | rng (lo hi:Int) | cls (C:Addr) | adr (b:Addr)
 | tup (l:List D) | lst (l:List D) | dic (l:List (D × D)) | dit (l:List (D × D)) | obj (C:Addr) (fs:List (Str × D)) | exc (C:Addr) (fs:List (Str × D))
inductive OD where
 | lst (l:List D) | dic (l:List (D × D)) | dit (l:List (D × D)) | obj (C:Addr) (fs:List (Str × D))
def OD.toD:OD->D
 | .lst l=>.lst l
 | .dic l=>.dic l
 | .dit l=>.dit l
 | .obj C fs=>.obj C fs
theorem zb0 {α β:Type} {R:α->β->Prop}:∀ {l:List α} {m:List β},l.length=m.length->(∀ (i:Nat) a b,l[i]?=some a->m[i]?=some b->R a b)->Paired R l m
 | [],[],_,_=>.nil
 | a :: l,b :: m,h,r=>.cons (r 0 a b rfl rfl) (zb0 (by simpa using h) fun i x y hx hy=>r (i+1) x y (by simpa using hx) (by simpa using hy))
 | [],_ :: _,h,_=>by simp at h
 | _ :: _,[],h,_=>by simp at h
theorem paired_get {α β:Type} {R:α->β->Prop}:∀ {l:List α} {m:List β} (i:Nat) {a:α} {b:β},Paired R l m->l[i]?=some a->m[i]?=some b->R a b
 | _,_,_,_,_,.nil,h,_=>by simp at h
 | _,_,0,_,_,.cons r _,h1,h2=>by simp at h1 h2; subst h1; subst h2; exact r
 | _,_,i+1,_,_,.cons _ t,h1,h2=>paired_get i t (by simpa using h1) (by simpa using h2)
theorem zk {α β:Type} {R:α->β->Prop} {l:List α} {m:List β} (h:Paired R l m):l.length=m.length:=Paired.length h
theorem za6 {α β:Type} {R:α->β->Prop} {l:List α} {m:List β} (h:Paired R l m) {i:Nat} {b:β} (e:m[i]?=some b):∃ a,l[i]?=some a/\R a b:=by
 have hl:=zk h
 have hi:i<l.length:=by rw [hl]; exact (yF.mp e).1
 exact ⟨l[i],yC hi,paired_get i h (yC hi) e⟩
theorem zcP {α β:Type} {R:α->β->Prop} {l:List α} {m:List β} (h:Paired R l m) {i:Nat} {a:α} (e:l[i]?=some a):∃ b,m[i]?=some b/\R a b:=by
 have hl:=zk h
 have hi:i<m.length:=by rw [<- hl]; exact (yF.mp e).1
 exact ⟨m[i],yC hi,paired_get i h e (yC hi)⟩
theorem paired_app {α β:Type} {R:α->β->Prop}:∀ {l l':List α} {m m':List β},Paired R l m->Paired R l' m'->Paired R (l ++ l') (m ++ m')
 | _,_,_,_,.nil,h=>h
 | _,_,_,_,.cons r t,h=>.cons r (paired_app t h)
theorem zdX {α β:Type} {R:α->β->Prop}:∀ {l:List α} {m:List β} (n:Nat),Paired R l m->Paired R (l.take n) (m.take n)
 | _,_,0,_=>.nil
 | _,_,_+1,.nil=>.nil
 | _,_,n+1,.cons r t=>.cons r (zdX n t)
theorem zft {α β:Type} {R:α->β->Prop}:∀ {l:List α} {m:List β} (n:Nat),Paired R l m->Paired R (l.drop n) (m.drop n)
 | _,_,0,h=>h
 | _,_,_+1,.nil=>.nil
 | _,_,n+1,.cons _ t=>zft n t
def keyD:Key->D
 | .inl i=>.int i
 | .inr x=>.str x.cps.toList
inductive Den (K:W.Frag) (H:Hp):V->D->Prop where
 | non:Den K H .non .non
 | bl (b:Bool):Den K H (.bl b) (.bl b)
 | int (i:Int):Den K H (.int i) (.int i)
 | str (l:List Nat):Den K H (.str (st l)) (.str l)
 | ty (n:String):Den K H (.ty n) (.ty n)
 | rng {a:Addr} {lo hi:Int} (h:Rd H a (.rng lo hi)):Den K H (.ref a) (.rng lo hi)
 | cls (C:Addr):Den K H (.ref C) (.cls C)
 | adr (b:Addr):Den K H (.ref b) (.adr b)
 | tup {a:Addr} {vs:List V} {ds:List D} (h:H a=some (.tup vs)) (l:vs.length=ds.length) (r:∀ (i:Nat) v d,vs[i]?=some v->ds[i]?=some d->Den K H v d):Den K H (.ref a) (.tup ds)
 | lst {a:Addr} {vs:List V} {ds:List D} (h:SqL K H a vs) (l:vs.length=ds.length) (r:∀ (i:Nat) v d,vs[i]?=some v->ds[i]?=some d->Den K H v d):Den K H (.ref a) (.lst ds)
 | dicK {a:Addr} {kvs:List (Key × V)} {ds:List (D × D)} (h:Rd H a (.dK kvs)) (l:kvs.length=ds.length) (r:∀ (i:Nat) p q,kvs[i]?=some p->ds[i]?=some q->q.1=keyD p.1) (r2:∀ (i:Nat) p q,kvs[i]?=some p->ds[i]?=some q->Den K H p.2 q.2):Den K H (.ref a) (.dic ds)
 | dicT {a:Addr} {kvs:List (List Key × V)} {ep:Nat} {ds:List (D × D)} (h:H a=some (.dE kvs ep)) (l:kvs.length=ds.length) (r:∀ (i:Nat) p q,kvs[i]?=some p->ds[i]?=some q->q.1=.tup (p.1.map keyD)) (r2:∀ (i:Nat) p q,kvs[i]?=some p->ds[i]?=some q->Den K H p.2 q.2):Den K H (.ref a) (.dit ds)
 | obj {a C dx:Addr} {fs:List (Str × V)} {ds:List (Str × D)} (h:H a=some (.ins C dx fs)) (l:fs.length=ds.length) (r:∀ (i:Nat) p q,fs[i]?=some p->ds[i]?=some q->q.1=p.1) (r2:∀ (i:Nat) p q,fs[i]?=some p->ds[i]?=some q->Den K H p.2 q.2):Den K H (.ref a) (.obj C ds)
 | excN {a C:Addr} (h:H a=some (.ext (XAt a C none))):Den K H (.ref a) (.exc C [])
 | exc {a C dx:Addr} {fs:List (Str × V)} {ds:List (Str × D)} (h:H a=some (.ext (XAt a C (some dx)))) (h2:H dx=some (.xd fs)) (l:fs.length=ds.length) (r:∀ (i:Nat) p q,fs[i]?=some p->ds[i]?=some q->q.1=p.1) (r2:∀ (i:Nat) p q,fs[i]?=some p->ds[i]?=some q->Den K H p.2 q.2):Den K H (.ref a) (.exc C ds)
abbrev ztM (K:W.Frag) (H:Hp):List (Key × V)->List (D × D)->Prop:=Paired fun p q=>q.1=keyD p.1/\Den K H p.2 q.2
abbrev zkX (K:W.Frag) (H:Hp):List (List Key × V)->List (D × D)->Prop:=Paired fun p q=>q.1=.tup (p.1.map keyD)/\Den K H p.2 q.2
abbrev zrJ (K:W.Frag) (H:Hp):List (Str × V)->List (Str × D)->Prop:=Paired fun p q=>q.1=p.1/\Den K H p.2 q.2
abbrev zbC (K:W.Frag) (H:Hp):List V->List D->Prop:=Paired (Den K H)
section
variable {K:W.Frag} {H H':Hp} {v:V} {a:Addr} {vs:List V} {ds:List D}
theorem zeE {u:HO} (e:zaS H H') (h:Rd H a u):Rd H' a u:=by
 rcases h with h | ⟨o,h⟩
 ·exact .inl (e _ _ h)
 ·exact .inr ⟨o,e _ _ h⟩
theorem zaN (e:zaS H H') (h:SqT K H a vs):SqT K H' a vs:=by
 rcases h with h | h
 ·exact .inl (zeE e h)
 ·exact .inr h
theorem zak (e:zaS H H') (h:SqL K H a vs):SqL K H' a vs:=by
 rcases h with h | h
 ·exact .inl (zeE e h)
 ·exact .inr h
theorem Den.mono {d:D} (h:Den K H v d) (e:zaS H H'):Den K H' v d:=by
 induction h with
 | non=>exact .non
 | bl b=>exact .bl b
 | int i=>exact .int i
 | str l=>exact .str l
 | ty n=>exact .ty n
 | rng h=>exact .rng (zeE e h)
 | cls C=>exact .cls C
 | adr C=>exact .adr C
 | tup h l r ih=>exact .tup (e _ _ h) l ih
 | lst h l r ih=>exact .lst (zak e h) l ih
 | dicK h l r r2 ih=>exact .dicK (zeE e h) l r ih
 | dicT h l r r2 ih=>exact .dicT (e _ _ h) l r ih
 | obj h l r r2 ih=>exact .obj (e _ _ h) l r ih
 | excN h=>exact .excN (e _ _ h)
 | exc h h2 l r r2 ih=>exact .exc (e _ _ h) (e _ _ h2) l r ih
theorem zbC.mono (h:zbC K H vs ds) (e:zaS H H'):zbC K H' vs ds:=Paired.mapP h fun _ _ q=>q.mono e
theorem ztM.mono {kvs:List (Key × V)} {es:List (D × D)} (h:ztM K H kvs es) (e:zaS H H'):ztM K H' kvs es:=Paired.mapP h fun _ _ q=>⟨q.1,q.2.mono e⟩
theorem zkX.mono {kvs:List (List Key × V)} {es:List (D × D)} (h:zkX K H kvs es) (e:zaS H H'):zkX K H' kvs es:=Paired.mapP h fun _ _ q=>⟨q.1,q.2.mono e⟩
theorem zrJ.mono {fs:List (Str × V)} {es:List (Str × D)} (h:zrJ K H fs es) (e:zaS H H'):zrJ K H' fs es:=Paired.mapP h fun _ _ q=>⟨q.1,q.2.mono e⟩
theorem Den.mkO {C dx:Addr} {fs:List (Str × V)} {es:List (Str × D)} (h:H a=some (.ins C dx fs)) (r:zrJ K H fs es):Den K H (.ref a) (.obj C es):=.obj h (zk r) (fun i _ _ h1 h2=>(paired_get i r h1 h2).1) fun i _ _ h1 h2=>(paired_get i r h1 h2).2
theorem Den.objI {C:Addr} {es:List (Str × D)} (h:Den K H v (.obj C es)):∃ a dx fs,v=.ref a/\H a=some (.ins C dx fs)/\zrJ K H fs es:=by
 cases h with
 | obj h l r r2=>exact ⟨_,_,_,rfl,h,zb0 l fun i p q h1 h2=>⟨r i p q h1 h2,r2 i p q h1 h2⟩⟩
def zpJ (K:W.Frag) (H:Hp) (dd:Option Addr) (es:List (Str × D)):Prop:=(dd=none/\es=[])\/∃ dx fs,dd=some dx/\H dx=some (.xd fs)/\zrJ K H fs es
theorem zpJ.mono {dd:Option Addr} {es:List (Str × D)} (h:zpJ K H dd es) (e:zaS H H'):zpJ K H' dd es:=by
 rcases h with h | ⟨dx,fs,h1,h2,h3⟩
 ·exact .inl h
 ·exact .inr ⟨dx,fs,h1,e _ _ h2,h3.mono e⟩
theorem Den.mkX {C:Addr} {dd:Option Addr} {es:List (Str × D)} (h:H a=some (.ext (XAt a C dd))) (x:zpJ K H dd es):Den K H (.ref a) (.exc C es):=by
 rcases x with ⟨rfl,rfl⟩ | ⟨dx,fs,rfl,h2,r⟩
 ·exact .excN h
 ·exact .exc h h2 (zk r) (fun i _ _ h1 h2=>(paired_get i r h1 h2).1) fun i _ _ h1 h2=>(paired_get i r h1 h2).2
theorem Den.excI {C:Addr} {es:List (Str × D)} (h:Den K H v (.exc C es)):∃ a dd,v=.ref a/\H a=some (.ext (XAt a C dd))/\zpJ K H dd es:=by
 cases h with
 | excN h=>exact ⟨_,_,rfl,h,.inl ⟨rfl,rfl⟩⟩
 | exc h h2 l r r2=>exact ⟨_,_,rfl,h,.inr ⟨_,_,rfl,h2,zb0 l fun i p q h1 h2=>⟨r i p q h1 h2,r2 i p q h1 h2⟩⟩⟩
theorem Den.adrI {b:Addr} (h:Den K H v (.adr b)):v=.ref b:=by cases h; rfl
theorem Den.mkDK {kvs:List (Key × V)} {es:List (D × D)} (h:Rd H a (.dK kvs)) (r:ztM K H kvs es):Den K H (.ref a) (.dic es):=.dicK h (zk r) (fun i _ _ h1 h2=>(paired_get i r h1 h2).1) fun i _ _ h1 h2=>(paired_get i r h1 h2).2
theorem Den.mkDT {kvs:List (List Key × V)} {ep:Nat} {es:List (D × D)} (h:H a=some (.dE kvs ep)) (r:zkX K H kvs es):Den K H (.ref a) (.dit es):=.dicT h (zk r) (fun i _ _ h1 h2=>(paired_get i r h1 h2).1) fun i _ _ h1 h2=>(paired_get i r h1 h2).2
theorem Den.ditI {es:List (D × D)} (h:Den K H v (.dit es)):∃ a kvs ep,v=.ref a/\H a=some (.dE kvs ep)/\zkX K H kvs es:=by
 cases h with
 | dicT h l r r2=>exact ⟨_,_,_,rfl,h,zb0 l fun i p q h1 h2=>⟨r i p q h1 h2,r2 i p q h1 h2⟩⟩
theorem Den.mkT (h:H a=some (.tup vs)) (r:zbC K H vs ds):Den K H (.ref a) (.tup ds):=.tup h (zk r) fun i _ _ h1 h2=>paired_get i r h1 h2
theorem Den.mkL (h:SqL K H a vs) (r:zbC K H vs ds):Den K H (.ref a) (.lst ds):=.lst h (zk r) fun i _ _ h1 h2=>paired_get i r h1 h2
theorem Den.tupJ (h:Den K H v (.tup ds)):∃ a vs,v=.ref a/\H a=some (.tup vs)/\zbC K H vs ds:=by
 cases h with
 | tup h l r=>exact ⟨_,_,rfl,h,zb0 l r⟩
theorem Den.tupI (h:Den K H v (.tup ds)):∃ a vs,v=.ref a/\SqT K H a vs/\zbC K H vs ds:=by
 cases h with
 | tup h l r=>exact ⟨_,_,rfl,SqT.of h,zb0 l r⟩
theorem Den.lstI (h:Den K H v (.lst ds)):∃ a vs,v=.ref a/\SqL K H a vs/\zbC K H vs ds:=by
 cases h with
 | lst h l r=>exact ⟨_,_,rfl,h,zb0 l r⟩
theorem Den.intI {i:Int} (h:Den K H v (.int i)):v=.int i:=by cases h; rfl
theorem Den.blI {b:Bool} (h:Den K H v (.bl b)):v=.bl b:=by cases h; rfl
theorem Den.strI {l:List Nat} (h:Den K H v (.str l)):v=.str (st l):=by cases h; rfl
theorem Den.nonI (h:Den K H v .non):v=.non:=by cases h; rfl
theorem Den.non_iff {d:D} (h:Den K H v d):v=.non↔d=.non:=by cases h <;> simp
end
inductive Slot where
 | emp | val (d:D) | own (o:OD)
 | bk (d:D->D) (b:Addr) (xs:OD)
abbrev Sts:=List Slot
structure Wd where
 H₀:Hp
 Hi₀:Hp
 F:List Addr
def zcC (K:W.Frag) (Hi H:Hp) (a:Addr):OD->Prop
 | .lst ds=>∃ vs,H a=some (.lst vs)/\zbC K Hi vs ds
 | .dic ds=>∃ kvs,H a=some (.dK kvs)/\ztM K Hi kvs ds
 | .dit ds=>∃ kvs ep,H a=some (.dE kvs ep)/\zkX K Hi kvs ds
 | .obj C ds=>∃ dx fs,H a=some (.ins C dx fs)/\zrJ K Hi fs ds
def zqd:Option (Option V)->Option Addr
 | some (some (.ref a))=>some a
 | _=>none
def adr (n:Nat) (W:Wd) (σ:St) (i:Nat):Option Addr:=if i<n then zqd σ[i]? else W.F[i-n]?
structure Free (n:Nat) (W:Wd) (Γ:Sts) (σ:St) (a:Addr):Prop where
 own:∀ (j:Nat) o',Γ[j]?=some (.own o')->adr n W σ j≠some a
 bk:∀ (j:Nat) d xs,Γ[j]?≠some (.bk d a xs)
def Hol (K:W.Frag) (d:D->D):Prop:=∀ (b:Addr) (Hi:Hp) (v:V) (o:OD),Den K Hi (.ref b) o.toD->Den K Hi v (d (.adr b))->Den K Hi v (d o.toD)
structure BkAt (K:W.Frag) (n:Nat) (W:Wd) (Hi:Hp) (Γ:Sts) (σ:St) (H:Hp) (i:Nat) (d:D->D) (b:Addr) (xs:OD):Prop where
 val:∃ v,σ[i]?=some (some v)/\Den K Hi v (d (.adr b))
 hol:Hol K d
 hi:Hi b=none
 h0:b ∉ W.F->W.H₀ b=none
 at_:zcC K Hi H b xs
 one:∀ (j:Nat) d' xs',Γ[j]?=some (.bk d' b xs')->j=i
 ne:∀ (j:Nat) o',Γ[j]?=some (.own o')->adr n W σ j≠some b
structure Fz (Hi H:Hp):Prop where
 sub:zaS Hi H
 tups:∀ a xs,H a=some (.tup xs)->Hi a=some (.tup xs)
structure Good (K:W.Frag) (n:Nat) (W:Wd) (Hi:Hp) (Γ:Sts) (σ:St) (H:Hp):Prop where
 len:σ.length=n
 fz:Fz Hi H
 keep:∀ a o,W.H₀ a=some o->a ∉ W.F->H a=some o
 there:∀ a o,W.H₀ a=some o->∃ o',H a=some o'
 fro:∀ a o,W.H₀ a=some o->Hi a=W.Hi₀ a
 val:∀ (i:Nat) d,Γ[i]?=some (.val d)->∃ v,σ[i]?=some (some v)/\Den K Hi v d
 own:∀ (i:Nat) o,Γ[i]?=some (.own o)->∃ a,adr n W σ i=some a/\Hi a=none/\(i<n->W.H₀ a=none)/\zcC K Hi H a o
 apart:∀ (i j:Nat) o o' a,Γ[i]?=some (.own o)->Γ[j]?=some (.own o')->adr n W σ i=some a->adr n W σ j=some a->i=j
 bk:∀ (i:Nat) d b xs,Γ[i]?=some (.bk d b xs)->BkAt K n W Hi Γ σ H i d b xs
theorem Good.sub {K:W.Frag} {n:Nat} {W:Wd} {Hi:Hp} {Γ:Sts} {σ:St} {H:Hp} (g:Good K n W Hi Γ σ H):zaS Hi H:=g.fz.sub
structure Ext (Hi H Hi' H':Hp):Prop where
 hi:zaS Hi Hi'
 h:zaS H H'
 fz:Fz Hi' H'
 fro:∀ a o,H a=some o->Hi' a=Hi a
theorem Ext.refl {Hi H:Hp} (s:Fz Hi H):Ext Hi H Hi H:=⟨zaS.refl _,zaS.refl _,s,fun _ _ _=>rfl⟩
theorem Ext.trans {A B A1 B1 A2 B2:Hp} (x:Ext A B A1 B1) (y:Ext A1 B1 A2 B2):Ext A B A2 B2 :=
 ⟨x.hi.trans y.hi,x.h.trans y.h,y.fz,fun a o e=>(y.fro a o (x.h a o e)).trans (x.fro a o e)⟩
theorem zaO {H:Hp} {p:Addr} (h:H p=none) (o:HO):zaS H (upd H p o):=fun b u q=>by rw [zI (za3 q h)]; exact q
theorem Ext.new {Hi H:Hp} {p:Addr} (s:Fz Hi H) (h:H p=none) (o:HO):Ext Hi H (upd Hi p o) (upd H p o):=by
 have hi:Hi p=none:=s.sub.free h
 refine ⟨zaO hi o,zaO h o,⟨fun b u q=>?_,fun b xs q=>?_⟩,fun b u q=>?_⟩
 ·by_cases e:b=p
  ·subst e; rw [zv] at q ⊢; exact q
  ·rw [zI e] at q ⊢; exact s.sub b u q
 ·by_cases e:b=p
  ·subst e; rw [zv] at q ⊢; exact q
  ·rw [zI e] at q ⊢; exact s.tups b xs q
 ·exact zI (za3 q h)
theorem Ext.newO {Hi H:Hp} {p:Addr} (s:Fz Hi H) (h:H p=none) (o:HO) (ho:∀ xs,o≠.tup xs):Ext Hi H Hi (upd H p o) :=
 ⟨zaS.refl _,zaO h o,⟨s.sub.trans (zaO h o),fun b xs q=>by
  by_cases e:b=p
  ·subst e; rw [zv] at q; exact yM (Option.some.inj q) (ho xs)
  ·rw [zI e] at q; exact s.tups b xs q⟩,fun _ _ _=>rfl⟩
section
variable {K:W.Frag} {n:Nat} {W:Wd} {Hi Hi' H H':Hp} {Γ:Sts} {σ:St} {a:Addr} {o:OD}
theorem zcC.there (h:zcC K Hi H a o):∃ u,H a=some u:=by
 cases o with
 | lst ds=>obtain ⟨vs,e,_⟩:=h; exact ⟨_,e⟩
 | dic ds=>obtain ⟨kvs,e,_⟩:=h; exact ⟨_,e⟩
 | dit ds=>obtain ⟨kvs,ep,e,_⟩:=h; exact ⟨_,e⟩
 | obj C ds=>obtain ⟨dx,fs,e,_⟩:=h; exact ⟨_,e⟩
theorem zcC.mono (h:zcC K Hi H a o) (hi:zaS Hi Hi') (e:∀ u,H a=some u->H' a=some u):zcC K Hi' H' a o:=by
 cases o with
 | lst ds=>obtain ⟨vs,q,r⟩:=h; exact ⟨vs,e _ q,r.mono hi⟩
 | dic ds=>obtain ⟨kvs,q,r⟩:=h; exact ⟨kvs,e _ q,r.mono hi⟩
 | dit ds=>obtain ⟨kvs,ep,q,r⟩:=h; exact ⟨kvs,ep,e _ q,r.mono hi⟩
 | obj C ds=>obtain ⟨dx,fs,q,r⟩:=h; exact ⟨dx,fs,e _ q,r.mono hi⟩
theorem zcC.notTup (h:zcC K Hi H a o):∀ xs,H a≠some (.tup xs):=fun xs z=>by
 cases o with
 | lst ds=>obtain ⟨vs,e,_⟩:=h; rw [e] at z; cases z
 | dic ds=>obtain ⟨kvs,e,_⟩:=h; rw [e] at z; cases z
 | dit ds=>obtain ⟨kvs,ep,e,_⟩:=h; rw [e] at z; cases z
 | obj C ds=>obtain ⟨dx,fs,e,_⟩:=h; rw [e] at z; cases z
theorem Good.ext (g:Good K n W Hi Γ σ H) (e:Ext Hi H Hi' H'):Good K n W Hi' Γ σ H' where
 len:=g.len
 fz:=e.fz
 keep:=fun a o h n=>e.h a o (g.keep a o h n)
 there:=fun a o h=>by
  obtain ⟨o',q⟩:=g.there a o h; exact ⟨o',e.h a o' q⟩
 fro:=fun a o h=>by
  obtain ⟨o',q⟩:=g.there a o h; exact (e.fro a o' q).trans (g.fro a o h)
 val:=fun i d h=>by
  obtain ⟨v,h1,h2⟩:=g.val i d h; exact ⟨v,h1,h2.mono e.hi⟩
 own:=fun i o h=>by
  obtain ⟨a,h1,h2,h3,h4⟩:=g.own i o h; obtain ⟨u,hu⟩:=h4.there
  exact ⟨a,h1,(e.fro a u hu).trans h2,h3,h4.mono e.hi fun u q=>e.h a u q⟩
 apart:=g.apart
 bk:=fun i d b xs h=>by
  obtain ⟨⟨v,h0,h1⟩,h2,h3,h4,h5,h6,h7⟩:=g.bk i d b xs h
  obtain ⟨u,hu⟩:=h5.there
  exact ⟨⟨v,h0,h1.mono e.hi⟩,h2,(e.fro b u hu).trans h3,h4,h5.mono e.hi fun u q=>e.h b u q,h6,h7⟩
theorem zge {o:Option (Option V)} (h:zqd o=some a):o=some (some (.ref a)):=by
 unfold zqd at h; split at h
 ·cases h; rfl
 ·cases h
theorem Good.set (g:Good K n W Hi Γ σ H) {i:Nat} {v:V} {d:D} (hi:i<n) (r:Den K Hi v d):Good K n W Hi (Γ.set i (.val d)) (σ.set i (some v)) H:=by
 have ad:∀ j,j≠i->adr n W (σ.set i (some v)) j=adr n W σ j:=fun j hj=>by
  unfold adr
  rw [ye (fun z=>hj z.symm)]
 have inv:∀ (j:Nat) (s:Slot),(Γ.set i (.val d))[j]?=some s->(j=i/\s=.val d)\/(j≠i/\Γ[j]?=some s):=fun j s e=>by
  by_cases hj:j=i
  ·subst hj
   refine .inl ⟨rfl,?_⟩; rw [List.getElem?_set] at e; simp only [if_true] at e; split at e
   ·exact (Option.some.inj e).symm
   ·cases e
  ·rw [ye (fun z=>hj z.symm)] at e
   exact .inr ⟨hj,e⟩
 refine ⟨by rw [List.length_set]; exact g.len,g.fz,g.keep,g.there,g.fro,fun j d' e=>?_,fun j o e=>?_,fun j k o o' a e1 e2 h1 h2=>?_,fun j d' b xs e=>?_⟩
 ·rcases inv j _ e with ⟨rfl,z⟩ | ⟨hj,z⟩
  ·cases z
   exact ⟨v,by rw [Ya (by rw [g.len]; exact hi)],r⟩
  ·obtain ⟨w,h1,h2⟩:=g.val j d' z
   exact ⟨w,by rw [ye (fun z=>hj z.symm)]; exact h1,h2⟩
 ·rcases inv j _ e with ⟨rfl,z⟩ | ⟨hj,z⟩
  ·cases z
  ·obtain ⟨a,h1,h2⟩:=g.own j o z
   exact ⟨a,by rw [ad j hj]; exact h1,h2⟩
 ·rcases inv j _ e1 with ⟨rfl,z⟩ | ⟨hj,z⟩
  ·cases z
  ·rcases inv k _ e2 with ⟨rfl,y⟩ | ⟨hk,y⟩
   ·cases y
   ·exact g.apart j k o o' a z y (by rw [<- ad j hj]; exact h1) (by rw [<- ad k hk]; exact h2)
 ·rcases inv j _ e with ⟨rfl,z⟩ | ⟨hj,z⟩
  ·cases z
  ·obtain ⟨⟨w,w1,w2⟩,h1,h2,h3,h4,h5,h6⟩:=g.bk j d' b xs z
   refine ⟨⟨w,by rw [ye (fun z=>hj z.symm)]; exact w1,w2⟩,h1,h2,h3,h4,fun k d' xs' q=>?_,fun k o' q=>?_⟩
   ·rcases inv k _ q with ⟨rfl,y⟩ | ⟨hk,y⟩
    ·cases y
    ·exact h5 k _ _ y
   ·rcases inv k _ q with ⟨rfl,y⟩ | ⟨hk,y⟩
    ·cases y
    ·rw [ad k hk]
     exact h6 k o' y
theorem Good.setO (g:Good K n W Hi Γ σ H) {i:Nat} (hi:i<n) (h0:Hi a=none) (h1:W.H₀ a=none) (fr:Free n W Γ σ a) (h3:zcC K Hi H a o):Good K n W Hi (Γ.set i (.own o)) (σ.set i (some (.ref a))) H:=by
 have ad:∀ j,j≠i->adr n W (σ.set i (some (.ref a))) j=adr n W σ j:=fun j hj=>by
  unfold adr
  rw [ye (fun z=>hj z.symm)]
 have ai:adr n W (σ.set i (some (.ref a))) i=some a:=by
  unfold adr
  rw [yS hi,Ya (by rw [g.len]; exact hi)]
  rfl
 have inv:∀ (j:Nat) (s:Slot),(Γ.set i (.own o))[j]?=some s->(j=i/\s=.own o)\/(j≠i/\Γ[j]?=some s):=fun j s e=>by
  by_cases hj:j=i
  ·subst hj
   refine .inl ⟨rfl,?_⟩; rw [List.getElem?_set] at e; simp only [if_true] at e; split at e
   ·exact (Option.some.inj e).symm
   ·cases e
  ·rw [ye (fun z=>hj z.symm)] at e
   exact .inr ⟨hj,e⟩
 refine ⟨by rw [List.length_set]; exact g.len,g.fz,g.keep,g.there,g.fro,fun j d' e=>?_,fun j o e=>?_,fun j k o o' b e1 e2 q1 q2=>?_,fun j d' b xs e=>?_⟩
 ·rcases inv j _ e with ⟨rfl,z⟩ | ⟨hj,z⟩
  ·cases z
  ·obtain ⟨w,h1,h2⟩:=g.val j d' z
   exact ⟨w,by rw [ye (fun z=>hj z.symm)]; exact h1,h2⟩
 ·rcases inv j _ e with ⟨rfl,z⟩ | ⟨hj,z⟩
  ·cases z
   exact ⟨a,ai,h0,fun _=>h1,h3⟩
  ·obtain ⟨b,q1,q2⟩:=g.own j o z
   exact ⟨b,by rw [ad j hj]; exact q1,q2⟩
 ·rcases inv j _ e1 with ⟨rfl,z⟩ | ⟨hj,z⟩
  ·rcases inv k _ e2 with ⟨rfl,y⟩ | ⟨hk,y⟩
   ·rfl
   ·rw [ai] at q1
    cases q1; rw [ad k hk] at q2; exact yM q2 (fr.own k _ y)
  ·rcases inv k _ e2 with ⟨rfl,y⟩ | ⟨hk,y⟩
   ·rw [ai] at q2
    cases q2; rw [ad j hj] at q1; exact yM q1 (fr.own j _ z)
   ·exact g.apart j k o o' b z y (by rw [<- ad j hj]; exact q1) (by rw [<- ad k hk]; exact q2)
 ·rcases inv j _ e with ⟨rfl,z⟩ | ⟨hj,z⟩
  ·cases z
  ·obtain ⟨⟨w,w1,w2⟩,h1,h2,h3,h4,h5,h6⟩:=g.bk j d' b xs z
   refine ⟨⟨w,by rw [ye (fun z=>hj z.symm)]; exact w1,w2⟩,h1,h2,h3,h4,fun k d' xs' q=>?_,fun k o' q=>?_⟩
   ·rcases inv k _ q with ⟨rfl,y⟩ | ⟨hk,y⟩
    ·cases y
    ·exact h5 k _ _ y
   ·rcases inv k _ q with ⟨rfl,y⟩ | ⟨hk,y⟩
    ·rw [ai]
     intro w; cases w; exact fr.bk j _ _ z
    ·rw [ad k hk]
     exact h6 k o' y
theorem Good.put (g:Good K n W Hi Γ σ H) {i:Nat} {o0:OD} {u:HO} (e0:Γ[i]?=some (.own o0)) (ha:adr n W σ i=some a) (hn:zcC K Hi (upd H a u) a o):Good K n W Hi (Γ.set i (.own o)) σ (upd H a u):=by
 obtain ⟨a',h1,h2,h3,h4⟩:=g.own i _ e0; rw [ha] at h1; cases h1
 have hF:i<n\/a ∈ W.F:=by
  by_cases hi:i<n
  ·exact .inl hi
  ·unfold adr at ha
   rw [yQ hi] at ha; exact .inr (yb ha)
 have inv:∀ (j:Nat) (s:Slot),(Γ.set i (.own o))[j]?=some s->(j=i/\s=.own o)\/(j≠i/\Γ[j]?=some s):=fun j s e=>by
  by_cases hj:j=i
  ·subst hj
   refine .inl ⟨rfl,?_⟩; rw [List.getElem?_set] at e; simp only [if_true] at e; split at e
   ·exact (Option.some.inj e).symm
   ·cases e
  ·rw [ye (fun z=>hj z.symm)] at e
   exact .inr ⟨hj,e⟩
 refine ⟨g.len,⟨fun b w q=>?_,fun b xs q=>?_⟩,fun b w q nf=>?_,fun b w q=>?_,g.fro,fun j d' e=>?_,fun j o' e=>?_,fun j k o1 o2 b e1 e2 q1 q2=>?_,fun j d' b xs e=>?_⟩
 ·rw [zI (fun z=>by rw [z,h2] at q; cases q)]
  exact g.sub b w q
 ·by_cases hb:b=a
  ·subst hb
   exact yM q (hn.notTup xs)
  ·rw [zI hb] at q
   exact g.fz.tups b xs q
 ·have hb:b≠a:=fun z=>by
   subst z
   rcases hF with hi | hf
   ·rw [h3 hi] at q; cases q
   ·exact nf hf
  rw [zI hb]; exact g.keep b w q nf
 ·by_cases hb:b=a
  ·exact ⟨u,by rw [hb,zv]⟩
  ·obtain ⟨w',hw⟩:=g.there b w q
   exact ⟨w',by rw [zI hb]; exact hw⟩
 ·rcases inv j _ e with ⟨rfl,z⟩ | ⟨hj,z⟩
  ·cases z
  ·exact g.val j d' z
 ·rcases inv j _ e with ⟨rfl,z⟩ | ⟨hj,z⟩
  ·cases z
   exact ⟨a,ha,h2,h3,hn⟩
  ·obtain ⟨b,q1,q2,q3,q4⟩:=g.own j o' z
   have hb:b≠a:=fun w=>hj (g.apart j i _ _ a z e0 (by rw [<- w]; exact q1) ha)
   exact ⟨b,q1,q2,q3,q4.mono (zaS.refl _) fun w hw=>by rw [zI hb]; exact hw⟩
 ·have e1':∃ oo,Γ[j]?=some (.own oo):=by
   rcases inv j _ e1 with ⟨rfl,z⟩ | ⟨hj,z⟩
   ·exact ⟨_,e0⟩
   ·exact ⟨_,z⟩
  have e2':∃ oo,Γ[k]?=some (.own oo):=by
   rcases inv k _ e2 with ⟨rfl,z⟩ | ⟨hj,z⟩
   ·exact ⟨_,e0⟩
   ·exact ⟨_,z⟩
  obtain ⟨_,z1⟩:=e1'; obtain ⟨_,z2⟩:=e2'; exact g.apart j k _ _ b z1 z2 q1 q2
 ·rcases inv j _ e with ⟨rfl,z⟩ | ⟨hj,z⟩
  ·cases z
  ·obtain ⟨p0,p1,p2,p3,p4,p5,p6⟩:=g.bk j d' b xs z
   have hb:b≠a:=fun w=>p6 i _ e0 (by rw [w]; exact ha)
   refine ⟨p0,p1,p2,p3,p4.mono (zaS.refl _) fun w hw=>by rw [zI hb]; exact hw,fun k d' xs' q=>?_,fun k o' q=>?_⟩
   ·rcases inv k _ q with ⟨rfl,y⟩ | ⟨hk,y⟩
    ·cases y
    ·exact p5 k _ _ y
   ·rcases inv k _ q with ⟨rfl,y⟩ | ⟨hk,y⟩
    ·exact p6 k _ e0
    ·exact p6 k o' y
theorem Good.freezeA (g:Good K n W Hi Γ σ H) (h0:Hi a=none) (h1:W.H₀ a=none) (fr:Free n W Γ σ a) {u:HO} (hu:H a=some u):Good K n W (upd Hi a u) Γ σ H:=by
 have hs:zaS Hi (upd Hi a u):=zaO h0 u
 refine ⟨g.len,⟨fun b w q=>?_,fun b xs q=>?_⟩,g.keep,g.there,fun b w q=>?_,fun j d' e=>?_,fun j o' e=>?_,g.apart,fun j d' b xs e=>?_⟩
 ·by_cases hb:b=a
  ·subst hb; rw [zv] at q; cases q; exact hu
  ·rw [zI hb] at q; exact g.sub b w q
 ·have hb:b≠a:=fun z=>by
   have:=g.fz.tups b xs q
   rw [z,h0] at this; cases this
  rw [zI hb]; exact g.fz.tups b xs q
 ·have hb:b≠a:=fun z=>by subst z; rw [h1] at q; cases q
  rw [zI hb]; exact g.fro b w q
 ·obtain ⟨w,q1,q2⟩:=g.val j d' e
  exact ⟨w,q1,q2.mono hs⟩
 ·obtain ⟨b,q1,q2,q3,q4⟩:=g.own j o' e
  have hb:b≠a:=fun z=>fr.own j o' e (by rw [<- z]; exact q1)
  exact ⟨b,q1,by rw [zI hb]; exact q2,q3,q4.mono hs fun _ z=>z⟩
 ·obtain ⟨⟨w,w1,w2⟩,p1,p2,p3,p4,p5,p6⟩:=g.bk j d' b xs e
  have hb:b≠a:=fun z=>fr.bk j _ _ (by rw [<- z]; exact e)
  exact ⟨⟨w,w1,w2.mono hs⟩,p1,by rw [zI hb]; exact p2,p3,p4.mono hs fun _ z=>z,p5,p6⟩
theorem zcC.den (h:zcC K Hi H a o) (h0:Hi a=none) {u:HO} (hu:H a=some u):Den K (upd Hi a u) (.ref a) o.toD:=by
 cases o with
 | lst ds =>
  obtain ⟨vs,q,r⟩:=h; rw [hu] at q; cases q; exact Den.mkL (SqL.of zv) (r.mono (zaO h0 _))
 | dic ds =>
  obtain ⟨kvs,q,r⟩:=h; rw [hu] at q; cases q; exact Den.mkDK (.inl zv) (r.mono (zaO h0 _))
 | dit ds =>
  obtain ⟨kvs,ep,q,r⟩:=h; rw [hu] at q; cases q; exact Den.mkDT zv (r.mono (zaO h0 _))
 | obj C ds =>
  obtain ⟨dx,fs,q,r⟩:=h; rw [hu] at q; cases q; exact Den.mkO zv (r.mono (zaO h0 _))
end
abbrev TE':=Sts->(D->Sts->Prop)->Prop
abbrev TT':=Sts->(Bool->Sts->Prop)->Prop
abbrev TA':=Sts->(List D->Sts->Prop)->Prop
abbrev TO':=Sts->(OD->Sts->Prop)->Prop
abbrev TI':=Sts->(List D->Sts->Prop)->Prop
abbrev TG':=D->Sts->(Sts->Prop)->Prop
inductive Res where
 | val (d:D) | own (o:OD)
 | bk (d:D->D) (o:OD)
def Res.toD:Res->D
 | .val d=>d
 | .own o=>o.toD
 | .bk d o=>d o.toD
structure Ends' where
 nx:Sts->Prop
 rt:Res->Sts->Prop
 bk:Sts->Prop:=fun _=>False
 ct:Sts->Prop:=fun _=>False
abbrev TS':=Ends'->Sts->Prop
def ztI (K:W.Frag) (n:Nat) (W:Wd) (Hi:Hp) (σ:St) (Q:D->Sts->Prop):VK:=fun v H'=>∃ Hi' d Γ',zaS Hi Hi'/\Good K n W Hi' Γ' σ H'/\Den K Hi' v d/\Q d Γ'
def tOf (K:W.Frag) (n:Nat) (t:TE'):TE:=fun σ H Q2=>∃ W Hi Γ Q,Good K n W Hi Γ σ H/\t Γ Q/\∀ v H',ztI K n W Hi σ Q v H'->Q2 v H'
def zrK (K:W.Frag) (n:Nat) (t:TT'):TT:=fun σ H Q2=>∃ W Hi Γ Q,Good K n W Hi Γ σ H/\t Γ Q/\∀ b H' Hi' Γ',zaS Hi Hi'->Good K n W Hi' Γ' σ H'->Q b Γ'->Q2 b H'
def zvN (K:W.Frag) (n:Nat) (t:TA'):TA:=fun σ H Q2=>∃ W Hi Γ Q,Good K n W Hi Γ σ H/\t Γ Q/\∀ vs H' Hi' Γ' ds,zaS Hi Hi'->Good K n W Hi' Γ' σ H'->zbC K Hi' vs ds->Q ds Γ'->Q2 vs H'
structure New (K:W.Frag) (n:Nat) (W:Wd) (Hi:Hp) (Γ:Sts) (σ:St) (H:Hp) (a:Addr) (o:OD):Prop where
 hi:Hi a=none
 h0:W.H₀ a=none
 ne:Free n W Γ σ a
 own:zcC K Hi H a o
def oOf (K:W.Frag) (n:Nat) (t:TO'):TE:=fun σ H Q2=>∃ W Hi Γ Q,Good K n W Hi Γ σ H/\t Γ Q/\∀ a H' Hi' Γ' o,zaS Hi Hi'->Good K n W Hi' Γ' σ H'->New K n W Hi' Γ' σ H' a o->Q o Γ'->Q2 (.ref a) H'
def gOf (K:W.Frag) (n:Nat) (g:TG'):TG:=fun v σ H Q2=>∃ W Hi Γ d Q,Good K n W Hi Γ σ H/\Den K Hi v d/\g d Γ Q/\∀ σ' H' Hi' Γ',zaS Hi Hi'->Good K n W Hi' Γ' σ' H'->Q Γ'->Q2 σ' H'
def zrI (K:W.Frag) (H₀ Hi H:Hp) (v:V):Res->Prop
 | .val d=>Den K Hi v d
 | .own o=>∃ a,v=.ref a/\Hi a=none/\H₀ a=none/\zcC K Hi H a o
 | .bk d o=>∃ b,Den K Hi v (d (.adr b))/\Hol K d/\Hi b=none/\H₀ b=none/\zcC K Hi H b o
structure Lifts (K:W.Frag) (n:Nat) (W:Wd) (Hi:Hp) (N:Ends') (N2:Ends):Prop where
 nx:∀ σ' H' Hi' Γ',zaS Hi Hi'->Good K n W Hi' Γ' σ' H'->N.nx Γ'->N2.nx σ' H'
 bk:∀ σ' H' Hi' Γ',zaS Hi Hi'->Good K n W Hi' Γ' σ' H'->N.bk Γ'->N2.bk σ' H'
 ct:∀ σ' H' Hi' Γ',zaS Hi Hi'->Good K n W Hi' Γ' σ' H'->N.ct Γ'->N2.ct σ' H'
 rt:∀ v σ' H' Hi' Γ' r,zaS Hi Hi'->Good K n W Hi' Γ' σ' H'->zrI K W.H₀ Hi' H' v r->N.rt r Γ'->N2.rt v H'
theorem Lifts.mono {K:W.Frag} {n:Nat} {W:Wd} {Hi Hi':Hp} {N:Ends'} {N2:Ends} (l:Lifts K n W Hi N N2) (s:zaS Hi Hi'):Lifts K n W Hi' N N2 :=
 ⟨fun σ' H' Hi2 Γ' e=>l.nx σ' H' Hi2 Γ' (s.trans e),fun σ' H' Hi2 Γ' e=>l.bk σ' H' Hi2 Γ' (s.trans e),fun σ' H' Hi2 Γ' e=>l.ct σ' H' Hi2 Γ' (s.trans e),fun v σ' H' Hi2 Γ' r e=>l.rt v σ' H' Hi2 Γ' r (s.trans e)⟩
def sOf (K:W.Frag) (n:Nat) (t:TS'):TS:=fun N2 σ H=>∃ W Hi Γ N,Good K n W Hi Γ σ H/\t N Γ/\Lifts K n W Hi N N2
def ItD (K:W.Frag) (Hi:Hp) (J:It) (ds:List D):Prop:=∀ Hi' H',zaS Hi Hi'->Fz Hi' H' ->
 (∀ (i:Nat) d,ds[i]?=some d->J.go i H'/\∀ x H'',J.yld i H' x H''->∃ Hi'',Ext Hi' H' Hi'' H''/\Den K Hi'' x d)/\J.stop ds.length H'
def iOf (K:W.Frag) (n:Nat) (t:TI'):TI:=fun σ H R=>∃ W Hi Γ Q,Good K n W Hi Γ σ H/\t Γ Q/\∀ J H' Hi' Γ' ds,zaS Hi Hi'->Good K n W Hi' Γ' σ H'->ItD K Hi' J ds->Q ds Γ'->R J H'
structure PE' (X:Cx) (e:Expr) (t:TE'):Prop where
 h:PE X e (tOf X.K X.N.length t)
structure PO' (X:Cx) (e:Expr) (t:TO'):Prop where
 h:PE X e (oOf X.K X.N.length t)
structure PT' (X:Cx) (e:Expr) (t:TT'):Prop where
 h:PT X e (zrK X.K X.N.length t)
structure PW' (X:Cx) (e:Expr) (t:TT'):Prop where
 h:PW X e (zrK X.K X.N.length t)
def zeS:Expr->Bool
 | .Starred _ _=>true
 | _=>false
def zc7:List Expr->Bool
 | []=>true
 | e :: es=>!zeS e && zc7 es
theorem zby {e:Expr} {es:List Expr} {env:Env} (h:zeS e=false):starEach (e :: es) env=(false,eval e env) :: starEach es env:=by
 cases e <;> first | rfl | (exact yM (show true=false from h) Bool.noConfusion)
theorem zbK {pos:Pos} {env:Env}:∀ {es:List Expr},zc7 es=true->(backTo pos (starEach es env)).any (·.1)=false
 | [],_=>rfl
 | e :: es,h=>by
  have h1:zeS e=false/\zc7 es=true:=by
   unfold zc7 at h
   simpa using h
  rw [zby h1.1]
  show (false || (backTo pos (starEach es env)).any (·.1))=false
  rw [zbK h1.2]; rfl
theorem zaY {e:Expr} {es:List Expr} (h:zc7 (e :: es)=true):zeS e=false/\zc7 es=true:=by
 unfold zc7 at h
 simpa using h
structure PA' (X:Cx) (es:List Expr) (t:TA'):Prop where
 pa:PA X es (zvN X.K X.N.length t)
 pl:zc7 es=true
structure PS' (X:Cx) (s:Stmt) (t:TS'):Prop where
 h:PS X s (sOf X.K X.N.length t)
structure PSs' (X:Cx) (s:List Stmt) (t:TS'):Prop where
 h:PSs X s (sOf X.K X.N.length t)
structure PG' (X:Cx) (tg:Expr) (g:TG'):Prop where
 h:PG X tg (gOf X.K X.N.length g)
structure PI' (X:Cx) (tg iter:Expr) (t:TI'):Prop where
 h:PI X tg iter (iOf X.K X.N.length t)
section
variable {X:Cx}
theorem PE.weak {e:Expr} {t t2:TE} (h:PE X e t) (w:∀ σ H Q,t2 σ H Q->t σ H Q):PE X e t2:=fun pins s σ H Q I q=>h pins s σ H Q I (w _ _ _ q)
theorem PT.weak {e:Expr} {t t2:TT} (h:PT X e t) (w:∀ σ H Q,t2 σ H Q->t σ H Q):PT X e t2:=fun pins s σ H Q I q=>h pins s σ H Q I (w _ _ _ q)
theorem PW.weak {e:Expr} {t t2:TT} (h:PW X e t) (w:∀ σ H Q,t2 σ H Q->t σ H Q):PW X e t2:=fun wh pins s σ H Q I q=>h wh pins s σ H Q I (w _ _ _ q)
theorem PA.weak {es:List Expr} {t t2:TA} (h:PA X es t) (w:∀ σ H Q,t2 σ H Q->t σ H Q):PA X es t2:=fun pos pins s σ H Q I q=>h pos pins s σ H Q I (w _ _ _ q)
theorem PS.weak {st:Stmt} {t t2:TS} (h:PS X st t) (w:∀ N σ H,t2 N σ H->t N σ H):PS X st t2:=fun pins s σ H N I q=>h pins s σ H N I (w _ _ _ q)
theorem PSs.weak {st:List Stmt} {t t2:TS} (h:PSs X st t) (w:∀ N σ H,t2 N σ H->t N σ H):PSs X st t2:=fun pins s σ H N I q=>h pins s σ H N I (w _ _ _ q)
theorem PG.weak {tg:Expr} {t t2:TG} (h:PG X tg t) (w:∀ v σ H Q,t2 v σ H Q->t v σ H Q):PG X tg t2:=fun pins s σ H v u Q I r q=>h pins s σ H v u Q I r (w _ _ _ _ q)
theorem PI.weak {tg iter:Expr} {t t2:TI} (h:PI X tg iter t) (w:∀ σ H Q,t2 σ H Q->t σ H Q):PI X tg iter t2:=fun pins s σ H Q I q=>h pins s σ H Q I (w _ _ _ q)
def zZ (i:Nat):TE':=fun Γ Q=>∃ d,Γ[i]?=some (.val d)/\Q d Γ
def tC' (d:D):TE':=fun Γ Q=>Q d Γ
theorem pv' (i:Nat) {x:Str} {pos:Pos} (hN:X.N[i]?=some x:=by rfl) (hv:Vis X.env.scope x:=by first | exact Or.inl rfl | exact Or.inr (Or.inl rfl) | exact Or.inr (Or.inr rfl)) (hd:(x == ("__debug__":Str))=false:=by decide)
  (hcd:(x == ("__classdict__":Str))=false:=by decide):PE' X (.Name x pos) (zZ i):=by
 refine ⟨PE.weak (zc8 (i:=i) hN hv hd hcd) ?_⟩
 rintro σ H Q ⟨W,Hi,Γ,Q',g,⟨d,e,q⟩,fin⟩
 obtain ⟨v,h1,h2⟩:=g.val i d e; exact ⟨v,h1,fin v H ⟨Hi,d,Γ,zaS.refl _,g,h2,q⟩⟩
theorem ziG {e:Expr} {v:V} {d:D} (h:PE X e (tC v)) (r:∀ Hi,Den X.K Hi v d):PE' X e (tC' d):=by
 refine ⟨PE.weak h ?_⟩
 rintro σ H Q ⟨W,Hi,Γ,Q',g,q,fin⟩
 exact fin v H ⟨Hi,d,Γ,zaS.refl _,g,r Hi,q⟩
theorem zn {i j pos}:PE' X (.Constant (.int i) j pos) (tC' (.int i)):=ziG zpf fun _=>.int i
theorem zcy {b j pos}:PE' X (.Constant (.bool b) j pos) (tC' (.bl b)):=ziG zu0 fun _=>.bl b
theorem zc9 {j pos}:PE' X (.Constant .none j pos) (tC' .non):=ziG zsI fun _=>.non
theorem zR (l:List Nat) {x j pos} (h:x=st l:=by decide +kernel):PE' X (.Constant (.str x) j pos) (tC' (.str l)):=by
 subst h
 exact ziG zsF fun _=>.str l
theorem zqI {x:Str} {v:V} {u:Value} {d:D} {pos:Pos} (hm:X.mg x=some u) (r:zbo v u) (rd:∀ Hi,Den X.K Hi v d) (hg:Gl X x:=by rfl) (hd:(x == ("__debug__":Str))=false:=by decide):PE' X (.Name x pos) (tC' d):=ziG (zlJ hg hm r hd) rd
theorem zlI {x:Str} {l:List Nat} {t:Tok} {pos:Pos} (hm:X.mg x=some (.str (st l) t)) (hg:Gl X x:=by rfl) (hd:(x == ("__debug__":Str))=false:=by decide):PE' X (.Name x pos) (tC' (.str l)):=zqI (v:=.str (st l)) hm ⟨_,rfl⟩ (fun _=>.str l) hg hd
theorem zjD {x:Str} {i:Int} {t:Tok} {pos:Pos} (hm:X.mg x=some (.int i t)) (hg:Gl X x:=by rfl) (hd:(x == ("__debug__":Str))=false:=by decide):PE' X (.Name x pos) (tC' (.int i)):=zqI (v:=.int i) hm ⟨_,rfl⟩ (fun _=>.int i) hg hd
theorem zei {x:Str} {c:String} {pos:Pos} (hm:X.mg x=none) (hv:bootBuiltins x=some (.type c)) (hg:Gl X x:=by rfl) (hn:x≠"__name__":=by decide) (hd:(x == ("__debug__":Str))=false:=by decide):PE' X (.Name x pos) (tC' (.ty c)) :=
 ziG (zqO (v:=.ty c) hg hm hv rfl hn hd) fun _=>.ty c
def zaE (t:TO'):TE':=fun Γ Q=>t Γ fun o Γ1=>Q o.toD Γ1
theorem za5 {e:Expr} {t:TO'} (h:PO' X e t):PE' X e (zaE t):=by
 refine ⟨PE.weak h.h ?_⟩
 rintro σ H Q ⟨W,Hi,Γ,Q',g,q,fin⟩
 refine ⟨W,Hi,Γ,_,g,q,?_⟩; intro a H' Hi' Γ' o s1 g1 nw q1; obtain ⟨u,hu⟩:=nw.own.there; exact fin _ _ ⟨upd Hi' a u,_,Γ',s1.trans (zaO nw.hi u),g1.freezeA nw.hi nw.h0 nw.ne hu,nw.own.den nw.hi hu,q1⟩
abbrev R2':=D->D->(D->Prop)->Prop
def zim (K:W.Frag) (r:R2) (r':R2'):Prop:=∀ (Hi H:Hp) (x y:V) (dx dy:D) (Q:D->Prop) (Q2:VK),Fz Hi H->Den K Hi x dx->Den K Hi y dy->r' dx dy Q->(∀ Hi' H' v d,Ext Hi H Hi' H'->Den K Hi' v d->Q d->Q2 v H')->r x y H Q2
def za9 (r:R2') (ta tb:TE'):TE':=fun Γ Q=>ta Γ fun x Γ1=>tb Γ1 fun y Γ2=>r x y fun d=>Q d Γ2
theorem zjh {K:W.Frag} {n:Nat} {r:R2} {r':R2'} {ta tb:TE'} {σ:St} {H:Hp} {Q:VK} (l:zim K r r') (h:tOf K n (za9 r' ta tb) σ H Q):tOp r (tOf K n ta) (tOf K n tb) σ H Q:=by
 obtain ⟨W,Hi,Γ,Q',g,h,fin⟩:=h; refine ⟨W,Hi,Γ,_,g,h,?_⟩
 rintro x H1 ⟨Hi1,dx,Γ1,s1,g1,den1,h1⟩
 refine ⟨W,Hi1,Γ1,_,g1,h1,?_⟩
 rintro y H2 ⟨Hi2,dy,Γ2,s2,g2,den2,h2⟩
 refine l Hi2 H2 x y dx dy _ _ g2.fz (den1.mono s2) den2 h2 ?_
 rintro Hi3 H3 v d e den q
 exact fin v H3 ⟨Hi3,d,Γ2,s1.trans (s2.trans e.hi),g2.ext e,den,q⟩
structure Op2 (X:Cx) (f:Value->Value->Sem Value) (r':R2'):Prop where
 ex:∃ r,OpR X f r/\zim X.K r r'
theorem Op2.or {f:Value->Value->Sem Value} {r r':R2'} (h:Op2 X f r) (h':Op2 X f r'):Op2 X f (fun x y Q=>r x y Q\/r' x y Q):=by
 obtain ⟨a,ha,la⟩:=h.ex; obtain ⟨b,hb,lb⟩:=h'.ex
 refine ⟨_,ha.or hb,fun Hi H x y dx dy Q Q2 s d1 d2 q fin=>?_⟩
 rcases q with q | q
 ·exact .inl (la Hi H x y dx dy Q Q2 s d1 d2 q fin)
 ·exact .inr (lb Hi H x y dx dy Q Q2 s d1 d2 q fin)
theorem zB {a b:Expr} {op:Operator} {r':R2'} {ta tb:TE'} {pos:Pos} (h:Op2 X (binaryOp op) r') (ha:PE' X a ta) (hb:PE' X b tb):PE' X (.BinOp a op b pos) (za9 r' ta tb):=by
 obtain ⟨r,ho,l⟩:=h.ex
 exact ⟨PE.weak (zqE ho ha.h hb.h) fun σ H Q q=>zjh l q⟩
theorem zda {a b:Expr} {op:CmpOp} {r':R2'} {ta tb:TE'} {pos:Pos} (h:Op2 X (compareOp op) r') (ha:PE' X a ta) (hb:PE' X b tb) (hm:behindInMarks op b=false:=by first | exact zpj _ | rfl):PE' X (.Compare a [op] [b] pos) (za9 r' ta tb):=by
 obtain ⟨r,ho,l⟩:=h.ex
 exact ⟨PE.weak (zqL ho ha.h hb.h hm) fun σ H Q q=>zjh l q⟩
def tB' (t:TE'):TT':=fun Γ Q=>t Γ fun d Γ1=>∃ b,d=.bl b/\Q b Γ1
theorem zp0 {K:W.Frag} {n:Nat} {t:TE'} {σ:St} {H:Hp} {Q:Bool->Hp->Prop} (h:zrK K n (tB' t) σ H Q):tOf K n t σ H fun x H1=>∃ c,x=.bl c/\Q c H1:=by
 obtain ⟨W,Hi,Γ,Q',g,h,fin⟩:=h; refine ⟨W,Hi,Γ,_,g,h,?_⟩
 rintro x H1 ⟨Hi1,dx,Γ1,s1,g1,den1,b,rfl,h1⟩
 exact ⟨b,den1.blI,fin b H1 Hi1 Γ1 s1 g1 h1⟩
theorem zbv {e:Expr} {t:TE'} (h:PE' X e t) (he:∀ whole,isTrue e X.env whole=(do let v <- whole; standAt e.pos; holding [v] (truthy v)):=by intro _; rfl):PT' X e (tB' t) :=
 ⟨PT.weak (zsy h.h he) fun σ H Q q=>zp0 q⟩
theorem zbc {a b:Expr} {op:CmpOp} {r':R2'} {ta tb:TE'} {pos:Pos} (h:Op2 X (compareOp op) r') (ha:PE' X a ta) (hb:PE' X b tb) (hm:behindInMarks op b=false:=by first | exact zpj _ | rfl):PT' X (.Compare a [op] [b] pos) (tB' (za9 r' ta tb)):=by
 obtain ⟨r,ho,l⟩:=h.ex
 exact ⟨PT.weak (zqk ho ha.h hb.h hm) fun σ H Q q=>zjh l (zp0 q)⟩
def zav (t u:TT'):TT':=fun Γ Q=>t Γ fun c Γ1=>if c=true then u Γ1 Q else Q false Γ1
def zbp (t u:TT'):TT':=fun Γ Q=>t Γ fun c Γ1=>if c=true then Q true Γ1 else u Γ1 Q
def zaq (t:TT'):TT':=fun Γ Q=>t Γ fun c Γ1=>Q (!c) Γ1
variable {a b c:Expr} {tA tB2:TT'} {zba:List Expr} {pos:Pos} {ta tb:TE'}
theorem zgM (ha:PT' X a tA):PW' X (.BoolOp .And [a] pos) tA:=⟨zqg ha.h⟩
theorem zgL (ha:PT' X a tA):PW' X (.BoolOp .Or [a] pos) tA:=⟨zsv ha.h⟩
theorem ziF (ha:PT' X a tA) (hb:PW' X (.BoolOp .And (b :: zba) pos) tB2):PW' X (.BoolOp .And (a :: b :: zba) pos) (zav tA tB2):=by
 refine ⟨PW.weak (zsw ha.h hb.h) ?_⟩
 rintro σ H Q ⟨W,Hi,Γ,Q',g,h,fin⟩
 refine ⟨W,Hi,Γ,_,g,h,?_⟩; intro k H1 Hi1 Γ1 s1 g1 h1
 cases k with
 | true=>exact ⟨W,Hi1,Γ1,_,g1,h1,fun b H2 Hi2 Γ2 s2 g2 q=>fin b H2 Hi2 Γ2 (s1.trans s2) g2 q⟩
 | false=>exact fin false H1 Hi1 Γ1 s1 g1 h1
theorem zjx (ha:PT' X a tA) (hb:PW' X (.BoolOp .Or (b :: zba) pos) tB2):PW' X (.BoolOp .Or (a :: b :: zba) pos) (zbp tA tB2):=by
 refine ⟨PW.weak (zuW ha.h hb.h) ?_⟩
 rintro σ H Q ⟨W,Hi,Γ,Q',g,h,fin⟩
 refine ⟨W,Hi,Γ,_,g,h,?_⟩; intro k H1 Hi1 Γ1 s1 g1 h1
 cases k with
 | false=>exact ⟨W,Hi1,Γ1,_,g1,h1,fun b H2 Hi2 Γ2 s2 g2 q=>fin b H2 Hi2 Γ2 (s1.trans s2) g2 q⟩
 | true=>exact fin true H1 Hi1 Γ1 s1 g1 h1
theorem PW'.pt {e:Expr} {t:TT'} (h:PW' X e t):PT' X e t:=⟨h.h _⟩
theorem zbi (ha:PT' X a tA):PT' X (.UnaryOp .Not a pos) (zaq tA):=by
 refine ⟨PT.weak (zsz ha.h) ?_⟩
 rintro σ H Q ⟨W,Hi,Γ,Q',g,h,fin⟩
 exact ⟨W,Hi,Γ,_,g,h,fun k H1 Hi1 Γ1 s1 g1 h1=>fin _ H1 Hi1 Γ1 s1 g1 h1⟩
def zP (ta tb:TE'):TE':=fun Γ Q=>ta Γ fun x Γ1=>∃ c,x=.bl c/\if c=true then tb Γ1 Q else Q (.bl false) Γ1
def zaJ (ta tb:TE'):TE':=fun Γ Q=>ta Γ fun x Γ1=>∃ c,x=.bl c/\if c=true then Q (.bl true) Γ1 else tb Γ1 Q
def zM (ta:TE'):TE':=fun Γ Q=>ta Γ fun x Γ1=>∃ c,x=.bl c/\Q (.bl (!c)) Γ1
theorem zcO {op} (h:PE' X a ta):PE' X (.BoolOp op [a] pos) ta:=⟨zsG h.h⟩
theorem zci (ha:PE' X a ta) (hb:PE' X (.BoolOp .And (b :: zba) pos) tb):PE' X (.BoolOp .And (a :: b :: zba) pos) (zP ta tb):=by
 refine ⟨PE.weak (zsL ha.h hb.h) ?_⟩
 rintro σ H Q ⟨W,Hi,Γ,Q',g,h,fin⟩
 refine ⟨W,Hi,Γ,_,g,h,?_⟩
 rintro x H1 ⟨Hi1,dx,Γ1,s1,g1,den1,k,rfl,h1⟩
 refine ⟨k,den1.blI,?_⟩
 cases k with
 | true=>exact ⟨W,Hi1,Γ1,_,g1,h1,fun v H2 ⟨Hi2,d,Γ2,s2,g2,d2,q⟩=>fin v H2 ⟨Hi2,d,Γ2,s1.trans s2,g2,d2,q⟩⟩
 | false=>exact fin _ H1 ⟨Hi1,_,Γ1,s1,g1,.bl false,h1⟩
theorem zqF (ha:PE' X a ta):PE' X (.UnaryOp .Not a pos) (zM ta):=by
 refine ⟨PE.weak (zsH ha.h) ?_⟩
 rintro σ H Q ⟨W,Hi,Γ,Q',g,h,fin⟩
 refine ⟨W,Hi,Γ,_,g,h,?_⟩
 rintro x H1 ⟨Hi1,dx,Γ1,s1,g1,den1,k,rfl,h1⟩
 exact ⟨k,den1.blI,fin _ H1 ⟨Hi1,_,Γ1,s1,g1,.bl _,h1⟩⟩
def zbq (t:TT') (ta tb:TE'):TE':=fun Γ Q=>t Γ fun c Γ1=>if c=true then ta Γ1 Q else tb Γ1 Q
theorem zsJ (hc:PT' X c tA) (ha:PE' X a ta) (hb:PE' X b tb):PE' X (.IfExp c a b pos) (zbq tA ta tb):=by
 refine ⟨PE.weak (zn1 hc.h ha.h hb.h) ?_⟩
 rintro σ H Q ⟨W,Hi,Γ,Q',g,h,fin⟩
 refine ⟨W,Hi,Γ,_,g,h,?_⟩; intro k H1 Hi1 Γ1 s1 g1 h1
 cases k with
 | true=>exact ⟨W,Hi1,Γ1,_,g1,h1,fun v H2 ⟨Hi2,d,Γ2,s2,g2,d2,q⟩=>fin v H2 ⟨Hi2,d,Γ2,s1.trans s2,g2,d2,q⟩⟩
 | false=>exact ⟨W,Hi1,Γ1,_,g1,h1,fun v H2 ⟨Hi2,d,Γ2,s2,g2,d2,q⟩=>fin v H2 ⟨Hi2,d,Γ2,s1.trans s2,g2,d2,q⟩⟩
def zad:TA':=fun Γ Q=>Q [] Γ
def zx (ta:TE') (tr:TA'):TA':=fun Γ Q=>ta Γ fun x Γ1=>tr Γ1 fun xs Γ2=>Q (x :: xs) Γ2
theorem zi:PA' X [] zad:=by
 refine ⟨PA.weak zgg ?_,rfl⟩
 rintro σ H Q ⟨W,Hi,Γ,Q',g,h,fin⟩
 exact fin [] H Hi Γ [] (zaS.refl _) g .nil h
theorem zc {e:Expr} {es:List Expr} {te:TE'} {t:TA'} (ha:PE' X e te) (hr:PA' X es t) (hs:zeS e=false:=by rfl):PA' X (e :: es) (zx te t):=by
 refine ⟨PA.weak (zeH ha.h hr.pa (zby hs)) ?_,by unfold zc7; rw [hs,hr.pl]; rfl⟩
 rintro σ H Q ⟨W,Hi,Γ,Q',g,h,fin⟩
 refine ⟨W,Hi,Γ,_,g,h,?_⟩
 rintro x H1 ⟨Hi1,dx,Γ1,s1,g1,den1,h1⟩
 refine ⟨W,Hi1,Γ1,_,g1,h1,?_⟩; intro vs H2 Hi2 Γ2 ds s2 g2 dl q; exact fin (x :: vs) H2 Hi2 Γ2 (dx :: ds) (s1.trans s2) g2 (.cons (den1.mono s2) dl) q
def zal (t:TA'):TE':=fun Γ Q=>t Γ fun ds Γ1=>ds.length<=sizeLine/\Q (.tup ds) Γ1
theorem zaX {es:List Expr} {t:TA'} {x1} (h:PA' X es t):PE' X (.Tuple es x1 pos) (zal t):=by
 refine ⟨PE.weak (zpe h.pa) ?_⟩
 rintro σ H Q ⟨W,Hi,Γ,Q',g,h,fin⟩
 refine ⟨W,Hi,Γ,_,g,h,?_⟩
 rintro vs H1 Hi1 Γ1 ds s1 g1 dl ⟨hl,q⟩
 refine ⟨by rw [zk dl]; exact hl,fun p hp=>?_⟩
 have e:=Ext.new g1.fz hp (.tup vs); exact fin _ _ ⟨_,_,Γ1,s1.trans e.hi,g1.ext e,Den.mkT zv (dl.mono e.hi),q⟩
theorem New.mk' {K:W.Frag} {n:Nat} {W:Wd} {Hi H:Hp} {Γ:Sts} {σ:St} {p:Addr} {u:HO} {o:OD} (g:Good K n W Hi Γ σ H) (hp:H p=none) (own:zcC K Hi (upd H p u) p o):New K n W Hi Γ σ (upd H p u) p o:=by
 refine ⟨g.sub.free hp,?_,⟨fun j o' e z=>?_,fun j d xs e=>?_⟩,own⟩
 ·cases q:W.H₀ p with
  | none=>rfl
  | some w =>
   obtain ⟨w',hw⟩:=g.there p w q
   rw [hp] at hw; cases hw
 ·obtain ⟨a,h1,_,_,h4⟩:=g.own j o' e
  rw [z] at h1; cases h1; obtain ⟨w,hw⟩:=h4.there
  rw [hp] at hw; cases hw
 ·obtain ⟨w,hw⟩:=(g.bk j d p xs e).at_.there
  rw [hp] at hw; cases hw
def zar (t:TA'):TO':=fun Γ Q=>t Γ fun ds Γ1=>ds.length<=sizeLine/\Q (.lst ds) Γ1
theorem zcx {es:List Expr} {t:TA'} (h:PA' X es t):PO' X (.List es pos) (zar t):=by
 refine ⟨PE.weak (zlH h.pa) ?_⟩
 rintro σ H Q ⟨W,Hi,Γ,Q',g,h,fin⟩
 refine ⟨W,Hi,Γ,_,g,h,?_⟩
 rintro vs H1 Hi1 Γ1 ds s1 g1 dl ⟨hl,q⟩
 refine ⟨by rw [zk dl]; exact hl,fun p hp=>?_⟩
 exact fin p _ Hi1 Γ1 (.lst ds) s1 (g1.ext (Ext.newO g1.fz hp _ (fun _ z=>by cases z))) (New.mk' g1 hp ⟨vs,zv,dl⟩) q
abbrev RC':=List D->(D->Prop)->Prop
def ztJ (K:W.Frag) (r:List V->Hp->VK->Prop) (r':RC'):Prop:=∀ (Hi H:Hp) (vs:List V) (ds:List D) (Q:D->Prop) (Q2:VK),Fz Hi H->zbC K Hi vs ds->r' ds Q->(∀ Hi' H' v d,Ext Hi H Hi' H'->Den K Hi' v d->Q d->Q2 v H')->r vs H Q2
structure Cal (X:Cx) (f:Value) (r':RC'):Prop where
 ex:∃ r,zdn X f r/\ztJ X.K r r'
theorem Cal.or {f:Value} {r r':RC'} (h:Cal X f r) (h':Cal X f r'):Cal X f (fun x Q=>r x Q\/r' x Q):=by
 obtain ⟨a,ha,la⟩:=h.ex; obtain ⟨b,hb,lb⟩:=h'.ex
 refine ⟨_,ha.or hb,fun Hi H vs ds Q Q2 s d q fin=>?_⟩
 rcases q with q | q
 ·exact .inl (la Hi H vs ds Q Q2 s d q fin)
 ·exact .inr (lb Hi H vs ds Q Q2 s d q fin)
def zbj (r:RC') (t:TA'):TE':=fun Γ Q=>t Γ fun ds Γ1=>r ds fun d=>Q d Γ1
theorem zo4 {K:W.Frag} {n:Nat} {r:List V->Hp->VK->Prop} {r':RC'} {t:TA'} {σ:St} {H:Hp} {Q:VK} (l:ztJ K r r') (h:tOf K n (zbj r' t) σ H Q):tCB r (zvN K n t) σ H Q:=by
 obtain ⟨W,Hi,Γ,Q',g,h,fin⟩:=h; refine ⟨W,Hi,Γ,_,g,h,?_⟩; intro vs H1 Hi1 Γ1 ds s1 g1 dl h1; refine l Hi1 H1 vs ds _ _ g1.fz dl h1 ?_; intro Hi2 H2 v d e den q; exact fin v H2 ⟨Hi2,d,Γ1,s1.trans e.hi,g1.ext e,den,q⟩
variable {x:Str} {p:Pos} {e:Expr} {es:List Expr} {t:TA'} {id T:String}
theorem zaa {r':RC'} (hc:Cal X (.builtin id) r') (hm:X.mg x=none) (hv:bootBuiltins x=some (.builtin id)) (ha:PA' X (e :: es) t) (hg:Gl X x:=by rfl) (hn:x≠"__name__":=by decide) (hdb:(x == ("__debug__":Str))=false:=by decide):PE' X (.Call (.Name x p) (e :: es) [] pos) (zbj r' t):=by
 obtain ⟨r,ho,l⟩:=hc.ex; obtain ⟨p1,p2⟩:=zaY ha.pl
 exact ⟨PE.weak (zn5 ho hg hm hv ha.pa hn hdb (zby p1) (zbK p2)) fun σ H Q q=>zo4 l q⟩
theorem zbS {r':RC'} (hc:Cal X (.type T) r') (hm:X.mg x=none) (hv:bootBuiltins x=some (.type T)) (ha:PA' X (e :: es) t) (hg:Gl X x:=by rfl) (hn:x≠"__name__":=by decide) (hdb:(x == ("__debug__":Str))=false:=by decide):PE' X (.Call (.Name x p) (e :: es) [] pos) (zbj r' t):=by
 obtain ⟨r,ho,l⟩:=hc.ex; obtain ⟨p1,p2⟩:=zaY ha.pl
 exact ⟨PE.weak (zlM ho hg hm hv ha.pa hn hdb (zby p1) (zbK p2)) fun σ H Q q=>zo4 l q⟩
end
section
variable {X:Cx} {a b c:Expr} {pos:Pos} {ta tb:TE'}
structure Ixs (X:Cx) (r':R2'):Prop where
 ex:∃ r,IxR X r/\zim X.K r r'
theorem Ixs.or {r r':R2'} (h:Ixs X r) (h':Ixs X r'):Ixs X (fun x y Q=>r x y Q\/r' x y Q):=by
 obtain ⟨a,ha,la⟩:=h.ex; obtain ⟨b,hb,lb⟩:=h'.ex
 refine ⟨_,ha.or hb,fun Hi H x y dx dy Q Q2 s d1 d2 q fin=>?_⟩
 rcases q with q | q
 ·exact .inl (la Hi H x y dx dy Q Q2 s d1 d2 q fin)
 ·exact .inr (lb Hi H x y dx dy Q Q2 s d1 d2 q fin)
theorem za0 {r':R2'} (h:Ixs X r') (ha:PE' X a ta) (hb:PE' X b tb) (hs:zmR b:=by intro _ _; rfl):PE' X (.Subscript a b pos) (za9 r' ta tb):=by
 obtain ⟨r,ho,l⟩:=h.ex
 exact ⟨PE.weak (zuZ ho ha.h hb.h hs) fun σ H Q q=>zjh l q⟩
abbrev TP':=Sts->(Option Int->Sts->Prop)->Prop
def zwd (K:W.Frag) (n:Nat) (t:TP'):TO:=fun σ H Q2=>∃ W Hi Γ Q,Good K n W Hi Γ σ H/\t Γ Q/\∀ i H' Hi' Γ',zaS Hi Hi'->Good K n W Hi' Γ' σ H'->Q i Γ'->Q2 i H'
structure PB' (X:Cx) (e:Option Expr) (t:TP'):Prop where
 h:PO X e (zwd X.K X.N.length t)
def zag:TP':=fun Γ Q=>Q none Γ
def zbh (t:TE'):TP':=fun Γ Q=>t Γ fun d Γ1=>∃ i,d=.int i/\Q (some i) Γ1
theorem PO.weak {e:Option Expr} {t t2:TO} (h:PO X e t) (w:∀ σ H Q,t2 σ H Q->t σ H Q):PO X e t2:=fun pins s σ H Q I q=>h pins s σ H Q I (w _ _ _ q)
theorem zcV:PB' X none zag:=by
 refine ⟨PO.weak zqs ?_⟩
 rintro σ H Q ⟨W,Hi,Γ,Q',g,h,fin⟩
 exact fin none H Hi Γ (zaS.refl _) g h
theorem zb9 {e:Expr} {te:TE'} (h:PE' X e te):PB' X (some e) (zbh te):=by
 refine ⟨PO.weak (zqq h.h) ?_⟩
 rintro σ H Q ⟨W,Hi,Γ,Q',g,h,fin⟩
 refine ⟨W,Hi,Γ,_,g,h,?_⟩
 rintro v H1 ⟨Hi1,d,Γ1,s1,g1,den,i,rfl,q⟩
 exact ⟨i,den.intI,fin _ H1 Hi1 Γ1 s1 g1 q⟩
abbrev RS':=D->Option Int->Option Int->(D->Prop)->Prop
def zvG (K:W.Frag) (r:V->Option Int->Option Int->Hp->VK->Prop) (r':RS'):Prop:=∀ (Hi H:Hp) (x:V) (dx:D) (lo hi:Option Int) (Q:D->Prop) (Q2:VK),Fz Hi H->Den K Hi x dx->r' dx lo hi Q->(∀ Hi' H' v d,Ext Hi H Hi' H'->Den K Hi' v d->Q d->Q2 v H')->r x lo hi H Q2
structure Sli (X:Cx) (r':RS'):Prop where
 ex:∃ r,SlR X r/\zvG X.K r r'
theorem Sli.or {r r':RS'} (h:Sli X r) (h':Sli X r'):Sli X (fun x lo hi Q=>r x lo hi Q\/r' x lo hi Q):=by
 obtain ⟨a,ha,la⟩:=h.ex; obtain ⟨b,hb,lb⟩:=h'.ex
 refine ⟨_,ha.or hb,fun Hi H x dx lo hi Q Q2 s d1 q fin=>?_⟩
 rcases q with q | q
 ·exact .inl (la Hi H x dx lo hi Q Q2 s d1 q fin)
 ·exact .inr (lb Hi H x dx lo hi Q Q2 s d1 q fin)
def zbg (r:RS') (te:TE') (tl th:TP'):TE':=fun Γ Q=>te Γ fun x Γ1=>tl Γ1 fun l Γ2=>th Γ2 fun u Γ3=>r x l u fun d=>Q d Γ3
theorem zbz {e:Expr} {lo hi:Option Expr} {p2:Pos} {te:TE'} {tl th:TP'} {r':RS'} (h:Sli X r') (he:PE' X e te) (hl:PB' X lo tl) (hu:PB' X hi th):PE' X (.Subscript e (.Slice lo hi none p2) pos) (zbg r' te tl th):=by
 obtain ⟨r,ho,l⟩:=h.ex; refine ⟨PE.weak (zn0 ho he.h hl.h hu.h) ?_⟩
 rintro σ H Q ⟨W,Hi,Γ,Q',g,h,fin⟩
 refine ⟨W,Hi,Γ,_,g,h,?_⟩
 rintro x H1 ⟨Hi1,dx,Γ1,s1,g1,den1,h1⟩
 refine ⟨W,Hi1,Γ1,_,g1,h1,?_⟩; intro i H2 Hi2 Γ2 s2 g2 h2; refine ⟨W,Hi2,Γ2,_,g2,h2,?_⟩; intro j H3 Hi3 Γ3 s3 g3 h3; refine l Hi3 H3 x dx i j _ _ g3.fz (den1.mono (s2.trans s3)) h3 ?_; intro Hi4 H4 v d e den q; exact fin v H4 ⟨Hi4,d,Γ3,s1.trans (s2.trans (s3.trans e.hi)),g3.ext e,den,q⟩
abbrev RM':=D->List D->(D->Prop)->Prop
def zvH (K:W.Frag) (T:String) (r:V->List V->Hp->VK->Prop) (r':RM'):Prop:=∀ (Hi H:Hp) (x:V) (vs:List V) (dx:D) (ds:List D) (Q:D->Prop) (Q2:VK),Fz Hi H->Den K Hi x dx->zbC K Hi vs ds->r' dx ds Q->(∀ Hi' H' v d,Ext Hi H Hi' H'->Den K Hi' v d->Q d->Q2 v H')->r x vs H Q2
def tyD (T:String):D->Prop
 | .str _=>T="str"
 | .int _=>T="int"
 | .lst _=>T="list"
 | _=>False
theorem zr2 {K:W.Frag} {Hi H:Hp} {x:V} {dx:D} (s:zaS Hi H) (den:Den K Hi x dx) (h:tyD T dx):tyV K T x H:=by
 cases den with
 | str l=>exact h
 | int i=>exact h
 | lst hq l r =>
  refine .inl ⟨h,_,zak s hq⟩
 | _=>exact h.elim
structure Met (X:Cx) (T:String) (id:String) (r':RM'):Prop where
 ex:∃ r,MtR X id r/\zvH X.K T r r'
def zbn (T:String) (r:RM') (to:TE') (t:TA'):TE':=fun Γ Q=>to Γ fun x Γ1=>tyD T x/\t Γ1 fun ds Γ2=>r x ds fun d=>Q d Γ2
theorem zcr {o e:Expr} {es:List Expr} {to:TE'} {t:TA'} {name:Str} {apos cpos:Pos} {T id:String} {r':RM'} (h:Met X T id r') (pa:PlainAttrs T) (slot:PySem.Slot T name id) (hty:typeOf (.builtin id)=pure (.type "method_descriptor")) (ho:PE' X o to) (ha:PA' X (e :: es) t)
  (hbase:attributeBase o name X.env (eval o X.env)=eval o X.env:=by rfl) (hlen:(e :: es).length<30:=by decide)
  (hline:(apos.endLine == cpos.line)=true:=by rfl) :
  PE' X (.Call (.Attribute o name apos) (e :: es) [] cpos) (zbn T r' to t):=by
 obtain ⟨r,hm,l⟩:=h.ex; obtain ⟨p1,p2⟩:=zaY ha.pl
 have hfew:((backTo cpos (starEach (e :: es) X.env)).all (fun x=>!x.1) && (backToKw cpos (keywordEach [] X.env)).all (fun x=>x.1.isSome)
   && decide ((e :: es).length+([]:List Keyword).length+(if ([]:List Keyword).isEmpty then 0 else 1)<30))=true:=by
  have h1:(backTo cpos (starEach (e :: es) X.env)).all (fun x=>!x.1)=true:=by
   rw [yY]; intro y hy
   have:=zbK (pos:=cpos) (env:=X.env) ha.pl
   rw [List.any_eq_false] at this
   simpa using this y hy
  rw [h1,YB (by simpa using hlen)]
  rfl
 refine ⟨PE.weak (zqN pa slot hty hm ho.h ha.pa hbase hfew hline (zby p1) (zbK p2)) ?_⟩
 rintro σ H Q ⟨W,Hi,Γ,Q',g,h,fin⟩
 refine ⟨W,Hi,Γ,_,g,h,?_⟩
 rintro x H1 ⟨Hi1,dx,Γ1,s1,g1,den1,ty,h1⟩
 refine ⟨zr2 g1.sub den1 ty,W,Hi1,Γ1,_,g1,h1,?_⟩; intro vs H2 Hi2 Γ2 ds s2 g2 dl h2; refine l Hi2 H2 x vs dx ds _ _ g2.fz (den1.mono s2) dl h2 ?_; intro Hi3 H3 v d e den q; exact fin v H3 ⟨Hi3,d,Γ2,s1.trans (s2.trans e.hi),g2.ext e,den,q⟩
def zy:TS':=fun N Γ=>N.nx Γ
def zaj (t u:TS'):TS':=fun N Γ=>t { N with nx:=u N } Γ
theorem zaM:PSs' X [] zy:=by
 refine ⟨PSs.weak zql ?_⟩
 rintro N2 σ H ⟨W,Hi,Γ,N,g,h,l⟩
 exact l.nx σ H Hi Γ (zaS.refl _) g h
theorem zj {s:Stmt} {zba:List Stmt} {t u:TS'} (h1:PS' X s t) (h2:PSs' X zba u):PSs' X (s :: zba) (zaj t u):=by
 refine ⟨PSs.weak (zgN h1.h h2.h) ?_⟩
 rintro N2 σ H ⟨W,Hi,Γ,N,g,h,l⟩
 refine ⟨W,Hi,Γ,_,g,h,?_,l.bk,l.ct,l.rt⟩; intro σ1 H1 Hi1 Γ1 s1 g1 q; exact ⟨W,Hi1,Γ1,N,g1,q,l.mono s1⟩
theorem zl {s:Stmt} {t:TS'} (h1:PS' X s t):PSs' X [s] t:=⟨zly h1.h⟩
def zab (te:TE'):TS':=fun N Γ=>te Γ fun d Γ1=>N.rt (.val d) Γ1
def zL (te:TO'):TS':=fun N Γ=>te Γ fun o Γ1=>N.rt (.own o) Γ1
theorem zQ {e:Expr} {te:TE'} (he:PE' X e te):PS' X (.Return (some e) pos) (zab te):=by
 refine ⟨PS.weak (zlA he.h) ?_⟩
 rintro N2 σ H ⟨W,Hi,Γ,N,g,h,l⟩
 refine ⟨W,Hi,Γ,_,g,h,?_⟩
 rintro v H1 ⟨Hi1,d,Γ1,s1,g1,den,q⟩
 exact l.rt v σ H1 Hi1 Γ1 (.val d) s1 g1 den q
theorem znP {e:Expr} {te:TO'} (he:PO' X e te):PS' X (.Return (some e) pos) (zL te):=by
 refine ⟨PS.weak (zlA he.h) ?_⟩
 rintro N2 σ H ⟨W,Hi,Γ,N,g,h,l⟩
 refine ⟨W,Hi,Γ,_,g,h,?_⟩; intro a H1 Hi1 Γ1 o s1 g1 nw q; exact l.rt _ σ H1 Hi1 Γ1 (.own o) s1 g1 ⟨a,rfl,nw.hi,nw.h0,nw.own⟩ q
def zK (n i:Nat):TS':=fun N Γ=>i<n/\∃ o,Γ[i]?=some (.own o)/\N.rt (.own o) Γ
theorem zjA (i:Nat) {x:Str} {p:Pos} (hN:X.N[i]?=some x:=by rfl) (hv:Vis X.env.scope x:=by first | exact Or.inl rfl | exact Or.inr (Or.inl rfl) | exact Or.inr (Or.inr rfl)) (hd:(x == ("__debug__":Str))=false:=by decide)
  (hcd:(x == ("__classdict__":Str))=false:=by decide):PS' X (.Return (some (.Name x p)) pos) (zK X.N.length i):=by
 refine ⟨PS.weak (zlA (zc8 (i:=i) hN hv hd hcd)) ?_⟩
 rintro N2 σ H ⟨W,Hi,Γ,N,g,⟨hi,o,e,q⟩,l⟩
 obtain ⟨a,h1,h2,h3,h4⟩:=g.own i o e; unfold adr at h1; rw [yS hi] at h1; exact ⟨.ref a,zge h1,l.rt _ σ H Hi Γ (.own o) (zaS.refl _) g ⟨a,rfl,h2,h3 hi,h4⟩ q⟩
def zaf (c:TT') (t u:TS'):TS':=fun N Γ=>c Γ fun b Γ1=>if b=true then t N Γ1 else u N Γ1
theorem zbl {c:Expr} {sa sb:List Stmt} {tc:TT'} {t u:TS'} (hc:PT' X c tc) (ha:PSs' X sa t) (hb:PSs' X sb u):PS' X (.If c sa sb pos) (zaf tc t u):=by
 refine ⟨PS.weak (zuX hc.h ha.h hb.h) ?_⟩
 rintro N2 σ H ⟨W,Hi,Γ,N,g,h,l⟩
 refine ⟨W,Hi,Γ,_,g,h,?_⟩; intro k H1 Hi1 Γ1 s1 g1 q
 cases k with
 | true=>exact ⟨W,Hi1,Γ1,N,g1,q,l.mono s1⟩
 | false=>exact ⟨W,Hi1,Γ1,N,g1,q,l.mono s1⟩
def zW (te:TE'):TS':=fun N Γ=>te Γ fun _ Γ1=>N.nx Γ1
def zw (i:Nat):TG':=fun d Γ Q=>Q (Γ.set i (.val d))
theorem zaQ (i:Nat) {x:Str} (hN:X.N.Nodup) (hi:X.N[i]?=some x:=by rfl) (hx:Loc X.env.scope x:=by first | exact Or.inl rfl | exact Or.inr rfl) (hf:X.fn x=true\/X.env.scope.names.lookup x=some .local:=by first | exact .inl rfl | exact .inr rfl | assumption):PG' X (.Name x pos) (zw i):=by
 refine ⟨PG.weak (zqB (i:=i) hN hi hx hf) ?_⟩
 rintro v σ H Q ⟨W,Hi,Γ,d,Q',g,den,q,fin⟩
 exact fin _ H Hi _ (zaS.refl _) (g.set (yF.mp hi).1 den) q
def zah (te:TE') (g:TG'):TS':=fun N Γ=>te Γ fun d Γ1=>g d Γ1 N.nx
theorem zai (i:Nat) {x:Str} {e:Expr} {te:TE'} {pos':Pos} (hN:X.N.Nodup) (he:PE' X e te) (hi:X.N[i]?=some x:=by rfl) (hx:Loc X.env.scope x:=by first | exact Or.inl rfl | exact Or.inr rfl) (hs:swapsWith e (some (.Name x pos')) pos.line X.env=pure false:=by rfl)
  (hf:X.fn x=true\/X.env.scope.names.lookup x=some .local:=by first | exact .inl rfl | exact .inr rfl | assumption):PS' X (.Assign [.Name x pos'] e pos) (zah te (zw i)):=by
 refine ⟨PS.weak (zlz (i:=i) hN hi hx he.h hs hf) ?_⟩
 rintro N2 σ H ⟨W,Hi,Γ,N,g,h,l⟩
 refine ⟨W,Hi,Γ,_,g,h,?_⟩
 rintro v H1 ⟨Hi1,d,Γ1,s1,g1,den,q⟩
 exact l.nx _ H1 Hi1 _ s1 (g1.set (yF.mp hi).1 den) q
def zO (te:TO') (i:Nat):TS':=fun N Γ=>te Γ fun o Γ1=>N.nx (Γ1.set i (.own o))
theorem zeg (i:Nat) {x:Str} {e:Expr} {te:TO'} {pos':Pos} (hN:X.N.Nodup) (he:PO' X e te) (hi:X.N[i]?=some x:=by rfl) (hx:Loc X.env.scope x:=by first | exact Or.inl rfl | exact Or.inr rfl) (hs:swapsWith e (some (.Name x pos')) pos.line X.env=pure false:=by rfl)
  (hf:X.fn x=true\/X.env.scope.names.lookup x=some .local:=by first | exact .inl rfl | exact .inr rfl | assumption):PS' X (.Assign [.Name x pos'] e pos) (zO te i):=by
 refine ⟨PS.weak (zlz (i:=i) hN hi hx he.h hs hf) ?_⟩
 rintro N2 σ H ⟨W,Hi,Γ,N,g,h,l⟩
 refine ⟨W,Hi,Γ,_,g,h,?_⟩; intro a H1 Hi1 Γ1 o s1 g1 nw q; exact l.nx _ H1 Hi1 _ s1 (g1.setO (yF.mp hi).1 nw.hi nw.h0 nw.ne nw.own) q
def zfT (g:TG') (tb:TS') (N:Ends'):List D->Sts->Prop
 | [],Γ=>N.nx Γ
 | d :: ds,Γ=>g d Γ fun Γ2=>tb { N with nx:=zfT g tb N ds,ct:=zfT g tb N ds,bk:=N.nx } Γ2
def zat (ti:TI') (g:TG') (tb:TS'):TS':=fun N Γ=>ti Γ fun ds Γ1=>zfT g tb N ds Γ1
theorem zc5 {tg iter:Expr} {body:List Stmt} {ti:TI'} {g:TG'} {tb:TS'} (hi:PI' X tg iter ti) (hg:PG' X tg g) (hb:PSs' X body tb) (hp:PassesOwn (model X.prog X.w) X.A X.env X.xe:=by exact PassesOwn.never) (hc:X.calm=true:=by rfl)
  (hs:∀ x,foldedSetIterable iter X.env x=pure x:=by intro _; rfl):PS' X (.For tg iter body [] pos) (zat ti g tb):=by
 refine ⟨PS.weak (zpd hp hc hi.h hg.h hb.h hs) ?_⟩
 rintro N2 σ H ⟨W,Hi,Γ,N,gd,h,l⟩
 refine ⟨W,Hi,Γ,_,gd,h,?_⟩; intro J H1 Hi1 Γ1 ds s1 g1 itd q
 refine ⟨fun i m σ' H'=>m=ds.length-i/\i<=ds.length/\∃ Hi' Γ',zaS Hi1 Hi'/\Good X.K X.N.length W Hi' Γ' σ' H'/\zfT g tb N (ds.drop i) Γ',⟨ds.length,by simp,yo _,Hi1,Γ1,zaS.refl _,g1,by simpa using q⟩,?_⟩
 rintro i m σ' H' ⟨rfl,hi',Hi',Γ',s2,g2,q2⟩
 have wk:=itd Hi' H' s2 g2.fz
 by_cases hlt:i<ds.length
 ·have hd:ds.drop i=ds[i] :: ds.drop (i+1):=Yd hlt
  rw [hd] at q2; obtain ⟨go,yl⟩:=wk.1 i ds[i] (yC hlt)
  refine .inr ⟨go,fun σ3 H3=>∃ Hi3 Γ3,zaS Hi' Hi3/\Good X.K X.N.length W Hi3 Γ3 σ3 H3/\zfT g tb N (ds.drop (i+1)) Γ3,fun σ3 H3 ⟨Hi3,Γ3,s3,g3,q3⟩=>⟨ds.length-(i+1),by omega,rfl,hlt,Hi3,Γ3,s2.trans s3,g3,q3⟩,fun x H'' y=>?_⟩
  obtain ⟨Hi'',ex,den⟩:=yl x H'' y; refine ⟨W,Hi'',Γ',ds[i],_,g2.ext ex,den,q2,?_⟩; intro σ4 H4 Hi4 Γ4 s4 g4 q4
  have sx:zaS Hi' Hi4:=ex.hi.trans s4
  refine ⟨W,Hi4,Γ4,_,g4,q4,?_⟩
  refine ⟨fun σ5 H5 Hi5 Γ5 s5 g5 q5=>⟨Hi5,Γ5,sx.trans s5,g5,q5⟩,fun σ5 H5 Hi5 Γ5 s5 g5 q5=>l.nx σ5 H5 Hi5 Γ5 (s1.trans (s2.trans (sx.trans s5))) g5 q5,fun σ5 H5 Hi5 Γ5 s5 g5 q5=>⟨Hi5,Γ5,sx.trans s5,g5,q5⟩,fun v σ5 H5 Hi5 Γ5 r s5 g5 ro q5=>l.rt v σ5 H5 Hi5 Γ5 r (s1.trans (s2.trans (sx.trans s5))) g5 ro q5⟩
 ·have e:i=ds.length:=by omega
  subst e; rw [Yp (yG _)] at q2; exact .inl ⟨wk.2,l.nx σ' H' Hi' Γ' (s1.trans s2) g2 q2⟩
def zk6 (c:TT') (tb:TS'):TS':=fun N Γ=>∃ Wv:Nat->Sts->Prop,(∃ m,Wv m Γ)/\∀ m Γ,Wv m Γ->c Γ fun b Γ1=>if b=true then tb { N with nx:=fun Γ2=>∃ m',m'<m/\Wv m' Γ2,ct:=fun Γ2=>∃ m',m'<m/\Wv m' Γ2,bk:=N.nx } Γ1 else N.nx Γ1
theorem zhE {c:Expr} {body:List Stmt} {tc:TT'} {tb:TS'} (hc:PT' X c tc) (hb:PSs' X body tb) (hp:PassesOwn (model X.prog X.w) X.A X.env X.xe:=by exact PassesOwn.never):PS' X (.While c body [] pos) (zk6 tc tb):=by
 refine ⟨PS.weak (znN hp hc.h hb.h) ?_⟩
 rintro N2 σ H ⟨W,Hi,Γ,N,gd,⟨Wv,⟨m0,w0⟩,turn⟩,l⟩
 refine ⟨fun m σ' H'=>∃ Hi' Γ',zaS Hi Hi'/\Good X.K X.N.length W Hi' Γ' σ' H'/\Wv m Γ',⟨m0,Hi,Γ,zaS.refl _,gd,w0⟩,?_⟩
 rintro m σ' H' ⟨Hi',Γ',s1,g1,w1⟩
 refine ⟨W,Hi',Γ',_,g1,turn m Γ' w1,?_⟩; intro k H1 Hi1 Γ1 s2 g2 q
 cases k with
 | false=>exact l.nx σ' H1 Hi1 Γ1 (s1.trans s2) g2 q
 | true =>
  refine ⟨fun σ3 H3=>∃ m',m'<m/\∃ Hi3 Γ3,zaS Hi Hi3/\Good X.K X.N.length W Hi3 Γ3 σ3 H3/\Wv m' Γ3,fun σ3 H3 z=>z,W,Hi1,Γ1,_,g2,q,?_⟩
  refine ⟨fun σ5 H5 Hi5 Γ5 s5 g5 ⟨m',hm,q5⟩=>⟨m',hm,Hi5,Γ5,s1.trans (s2.trans s5),g5,q5⟩,fun σ5 H5 Hi5 Γ5 s5 g5 q5=>l.nx σ5 H5 Hi5 Γ5 (s1.trans (s2.trans s5)) g5 q5,fun σ5 H5 Hi5 Γ5 s5 g5 ⟨m',hm,q5⟩=>⟨m',hm,Hi5,Γ5,s1.trans (s2.trans s5),g5,q5⟩,fun v σ5 H5 Hi5 Γ5 r s5 g5 ro q5=>l.rt v σ5 H5 Hi5 Γ5 r (s1.trans (s2.trans s5)) g5 ro q5⟩
theorem zoG {K:W.Frag} {Hi:Hp} {a:Addr} {vs:List V} {ds:List D} (h:SqL K Hi a vs) (r:zbC K Hi vs ds):ItD K Hi (Itl K a) ds:=by
 intro Hi' H' s1 s2
 have hq:SqL K H' a vs:=zak (s1.trans s2.sub) h
 refine ⟨fun i d e=>?_,vs,hq,by rw [zk r]; exact yG _⟩
 obtain ⟨v,e1,e2⟩:=za6 r e; refine ⟨⟨vs,v,hq,e1⟩,?_⟩
 rintro x H'' ⟨rfl,y⟩
 have:=y vs hq
 rw [e1] at this; cases this; exact ⟨Hi',Ext.refl s2,e2.mono s1⟩
theorem zrk {K:W.Frag} {Hi:Hp} {a:Addr} {vs:List V} {ds:List D} (h:SqT K Hi a vs) (r:zbC K Hi vs ds):ItD K Hi (Itt K a) ds:=by
 intro Hi' H' s1 s2
 have hq:SqT K H' a vs:=zaN (s1.trans s2.sub) h
 refine ⟨fun i d e=>?_,vs,hq,by rw [zk r]; exact yG _⟩
 obtain ⟨v,e1,e2⟩:=za6 r e; refine ⟨⟨vs,v,hq,e1⟩,?_⟩
 rintro x H'' ⟨rfl,y⟩
 have:=y vs hq
 rw [e1] at this; cases this; exact ⟨Hi',Ext.refl s2,e2.mono s1⟩
theorem zrl {K:W.Frag} {Hi:Hp} (l:List Nat):ItD K Hi (Its l) (l.map fun c=>.str [c]):=by
 intro Hi' H' s1 s2
 refine ⟨fun i d e=>?_,by rw [yD]; rfl⟩
 rw [yL] at e
 cases hc:l[i]? with
 | none=>rw [hc] at e; cases e
 | some c =>
  rw [hc] at e; cases e; refine ⟨(yF.mp hc).1,?_⟩
  rintro x H'' ⟨rfl,c',e',rfl⟩
  rw [hc] at e'; cases e'; exact ⟨Hi',Ext.refl s2,.str [c]⟩
theorem zrn {K:W.Frag} {Hi:Hp} (lo:Int) (n:Nat):ItD K Hi (Itr lo n) ((List.range n).map fun k=>.int (lo+(k:Nat))):=by
 intro Hi' H' s1 s2
 refine ⟨fun i d e=>?_,by rw [yD,List.length_range]; exact yG _⟩
 rw [yL] at e
 cases hc:(List.range n)[i]? with
 | none=>rw [hc] at e; cases e
 | some c =>
  rw [hc] at e; cases e
  have hi:i<n:=by
   have:=(yF.mp hc).1
   rwa [List.length_range] at this
  have ec:c=i:=by
   rw [List.getElem?_range hi] at hc; exact (Option.some.inj hc).symm
  subst ec; refine ⟨hi,?_⟩
  rintro x H'' ⟨rfl,rfl⟩
  exact ⟨Hi',Ext.refl s2,.int _⟩
def zsd:D->Option (List D)
 | .lst ds=>some ds
 | .tup ds=>some ds
 | .str l=>some (l.map fun c=>.str [c])
 | _=>none
def zaG (t:TE'):TI':=fun Γ Q=>t Γ fun d Γ1=>∃ ds,zsd d=some ds/\Q ds Γ1
theorem zqw {l tg:Expr} {tl:TE} (hl:PE X l tl):PI X tg l (fun σ H R=>tl σ H fun x H1=>(∃ a,x=.ref a/\(∃ xs,SqL X.K H1 a xs)/\R (Itl X.K a) H1)\/(∃ a,x=.ref a/\(∃ xs,SqT X.K H1 a xs)/\R (Itt X.K a) H1)\/(∃ z,x=.str z/\R (Its z.cps.toList) H1)):=by
 intro pins s σ H R I h
 refine thn (hl pins s σ H _ I h) fun v s1 ⟨x,H1,I1,r1,q1⟩=>?_
 have fin:∀ b ∈ [s1.heap.objs.size],zeT X pins H1 b:=fun b hb=>by
  have e:b=s1.heap.objs.size:=by simpa using hb
  subst e; exact I1.fpOk (yG _) (I1.hok.fresh (yG _))
 rcases q1 with ⟨a,rfl,⟨xs,hq⟩,q⟩ | ⟨a,rfl,⟨xs,hq⟩,q⟩ | ⟨z,rfl,q⟩
 ·cases r1
  obtain ⟨its,rv,p,hz⟩:=I1.list hq; refine wpAny_pyIter_list p.isList ?_
  exact ⟨s1.heap.objs.size,[s1.heap.objs.size],_,_,H1,rfl,I1.kept (t':=s1.toks) fun b o e=>yB _ e,zk2 a _,⟨_,yK _ rfl,rfl,rfl⟩,fin,q⟩
 ·cases r1
  obtain ⟨its,rv,p,hz⟩:=I1.tuple hq
  refine wpAny_pyIter_tuple (show s1.heap.IsTuple a its.toArray from p) ?_
  exact ⟨s1.heap.objs.size,[s1.heap.objs.size],_,_,H1,rfl,I1.kept (t':=s1.toks) fun b o e=>yB _ e,zj8 a _,⟨_,yK _ rfl,rfl,rfl⟩,fin,q⟩
 ·obtain ⟨t,rfl⟩:=r1
  cases ha:z.cps.all (·<128)
  ·refine wpAny_pyIter_wide ha ?_
   exact ⟨s1.heap.objs.size,[s1.heap.objs.size],_,_,H1,rfl,I1.kept (t':=s1.toks) fun b o e=>yB _ e,zje z t _ (.inr rfl),⟨_,yK _ rfl,rfl,rfl⟩,fin,q⟩
  ·refine wpAny_pyIter_ascii ha ?_
   exact ⟨s1.heap.objs.size,[s1.heap.objs.size],_,_,H1,rfl,I1.kept (t':=s1.toks) fun b o e=>yB _ e,zje z t _ (.inl rfl),⟨_,yK _ rfl,rfl,rfl⟩,fin,q⟩
theorem zch {l tg:Expr} {t:TE'} (hl:PE' X l t):PI' X tg l (zaG t):=by
 refine ⟨PI.weak (zqw hl.h) ?_⟩
 rintro σ H R ⟨W,Hi,Γ,Q',g,h,fin⟩
 refine ⟨W,Hi,Γ,_,g,h,?_⟩
 rintro v H1 ⟨Hi1,d,Γ1,s1,g1,den,ds,e,q⟩
 cases d with
 | lst es =>
  cases e; obtain ⟨a,vs,rfl,h1,h2⟩:=den.lstI; exact .inl ⟨a,rfl,⟨vs,zak g1.sub h1⟩,fin _ H1 Hi1 Γ1 _ s1 g1 (zoG h1 h2) q⟩
 | tup es =>
  cases e; obtain ⟨a,vs,rfl,h1,h2⟩:=den.tupI; exact .inr (.inl ⟨a,rfl,⟨vs,zaN g1.sub h1⟩,fin _ H1 Hi1 Γ1 _ s1 g1 (zrk h1 h2) q⟩)
 | str l =>
  cases e; refine .inr (.inr ⟨_,den.strI,?_⟩); rw [zaW]; exact fin _ H1 Hi1 Γ1 _ s1 g1 (zrl l) q
 | _=>cases e
def zT (t:TA'):TI':=fun Γ Q=>t Γ fun ds Γ1=>∃ j:Int,ds=[.int j]/\-(2 ^ 62)<=j/\j<2 ^ 62/\Q ((List.range j.toNat).map fun k=>.int (0+(k:Nat))) Γ1
theorem zdi {K:W.Frag} {H:Hp} {vs:List V} {d:D} (h:zbC K H vs [d]):∃ v,vs=[v]/\Den K H v d:=by
 cases h with
 | cons r t=>cases t; exact ⟨_,rfl,r⟩
theorem zi3 {K:W.Frag} {H:Hp} {vs:List V} {d e:D} (h:zbC K H vs [d,e]):∃ v w,vs=[v,w]/\Den K H v d/\Den K H w e:=by
 cases h with
 | cons r t =>
  obtain ⟨w,rfl,q⟩:=zdi t; exact ⟨_,w,rfl,r,q⟩
theorem zeG {a tg:Expr} {t:TA'} {p pos:Pos} (hm:X.mg "range"=none) (ha:PA' X [a] t) (hg:Gl X "range":=by rfl):PI' X tg (.Call (.Name "range" p) [a] [] pos) (zT t):=by
 refine ⟨PI.weak (zlF hg hm ha.pa (zby (zaY ha.pl).1)) ?_⟩
 rintro σ H R ⟨W,Hi,Γ,Q',g,h,fin⟩
 refine ⟨W,Hi,Γ,_,g,h,?_⟩
 rintro vs H1 Hi1 Γ1 ds s1 g1 dl ⟨j,rfl,b1,b2,q⟩
 obtain ⟨v,rfl,den⟩:=zdi dl; rw [den.intI]; exact ⟨j,rfl,b1,b2,fin _ H1 Hi1 Γ1 _ s1 g1 (zrn 0 _) q⟩
def zm3 (src:List (Option Nat)) (Γ:Sts):Sts:=src.map fun o=>match o with
 | none=>.emp
 | some i=>match Γ[i]? with
  | some (.val d)=>.val d
  | _=>.emp
def voS:Slot->Slot
 | .val d=>.val d
 | _=>.emp
def vo (Γ:Sts):Sts:=Γ.map voS
def zeY (g:TG') (tc:TT') (te:TE') (Q:List D->Prop):List D->List D->Sts->Prop
 | [],acc,_=>Q acc
 | d :: ds,acc,Γ=>g d Γ fun Γ2=>tc Γ2 fun b Γ3=>if b=true then te Γ3 fun y Γ4=>zeY g tc te Q ds (acc ++ [y]) (vo Γ4) else zeY g tc te Q ds acc (vo Γ3)
def zF (ti:TI') (src:List (Option Nat)) (g:TG') (tc:TT') (te:TE'):TO':=fun Γ Q=>ti Γ fun ds Γ1=>ds.length<=sizeLine/\zeY g tc te (fun acc=>Q (.lst acc) Γ1) ds [] (zm3 src Γ1)
structure PTs' (X:Cx) (ifs:List Expr) (t:TT'):Prop where
 h:PTs X ifs (zrK X.K X.N.length t)
def zbf:TT':=fun Γ Q=>Q true Γ
theorem zb7:PTs' X [] zbf:=by
 refine ⟨?_⟩; intro pins s σ H Q I h; obtain ⟨W,Hi,Γ,Q',g,h,fin⟩:=h; exact zqj pins s σ H Q I (fin true H Hi Γ (zaS.refl _) g h)
theorem znL {c:Expr} {t:TT'} (h:PT' X c t):PTs' X [c] t:=⟨zqi h.h⟩
theorem zc6 {elt tg iter:Expr} {ifs:List Expr} {sc fsc:Scope} {ti:TI'} {g:TG'} {tc:TT'} {te:TE'} {N N':List Str} {src:List (Option Nat)} (B:Blk N N' src fsc sc) (hi:PI' X tg iter ti)
  (hg:∀ cl C s H fp pn,PG' (blk X N' sc cl C s H fp pn) tg g) (ht:∀ cl C s H fp pn,PTs' (blk X N' sc cl C s H fp pn) ifs tc) (he:∀ cl C s H fp pn,PE' (blk X N' sc cl C s H fp pn) elt te)
  (hx:X.xe=(fun _ _=>False):=by rfl) (hc:X.calm=true:=by rfl) (hN:X.N=N:=by rfl) (hs:X.env.scope=fsc:=by rfl)
  (hf:∀ x,foldedSetIterable iter X.env x=pure x:=by intro _; rfl):PO' X (.ListComp elt [⟨tg,iter,ifs,0⟩] sc pos) (zF ti src g tc te):=by
 refine ⟨PE.weak (zqK (g:=gOf X.K N'.length g) (tc:=zrK X.K N'.length tc) (te:=tOf X.K N'.length te) B hi.h (fun a b c d e f=>(hg a b c d e f).h) (fun a b c d e f=>(ht a b c d e f).h) (fun a b c d e f=>(he a b c d e f).h) hx hc hN hs hf) ?_⟩
 rintro σ H Q2 ⟨W,Hi,Γ,Q,gd,h,fin⟩
 refine ⟨W,Hi,Γ,_,gd,h,?_⟩
 rintro J H1 Hi1 Γ1 ds s1 g1 itd ⟨hlen,q⟩
 intro A hA
 -- the state between two turns
 have hn':src.length=N'.length:=B.len
 refine zh8 (n:=ds.length) (fun i σ' H'=>∃ Hi' acc vs Γ',zaS Hi1 Hi'/\Fz Hi' H'/\(∀ b o,H1 b=some o->H' b=some o)/\(∀ b o,H1 b=some o->Hi' b=Hi1 b)/\Hi' A=none/\H' A=some (.lst vs)/\zbC X.K Hi' vs acc/\vs.length<=i/\σ'.length=N'.length /\
   (∀ (j:Nat) s,Γ'[j]?=some s->s=.emp\/∃ d,s=.val d/\∃ v,σ'[j]?=some (some v)/\Den X.K Hi' v d)/\zeY g tc te (fun acc=>Q (.lst acc) Γ1) (ds.drop i) acc Γ') ?_ ?_ ?_
 ·refine ⟨Hi1,[],[],zm3 src Γ1,zaS.refl _,(Ext.newO g1.fz hA _ (fun _ z=>by cases z)).fz,fun b o e=>zaO hA _ b o e,fun b o e=>rfl,g1.sub.free hA,zv,.nil,yo _,?_,fun j s e=>?_,by simpa using q⟩
  ·unfold zns; rw [yD,hn']
  ·unfold zm3 at e
   rw [yL] at e
   cases hj:src[j]? with
   | none=>rw [hj] at e; cases e
   | some o =>
    rw [hj] at e
    cases o with
    | none=>cases e; exact .inl rfl
    | some i =>
     have e':(match Γ1[i]? with | some (.val d)=>Slot.val d | _=>.emp)=s:=Option.some.inj e
     cases hΓ:Γ1[i]? with
     | none=>rw [hΓ] at e'; exact .inl e'.symm
     | some sl =>
      rw [hΓ] at e'
      cases sl with
      | val d =>
       refine .inr ⟨d,e'.symm,?_⟩; obtain ⟨v,h1,h2⟩:=g1.val i d hΓ; refine ⟨v,?_,h2⟩; unfold zns; rw [yL,hj]
       show some ((some i).bind fun i=>(σ[i]?).join)=some (some v)
       show some ((σ[i]?).join)=some (some v)
       rw [h1]; rfl
      | emp=>exact .inl e'.symm
      | own o=>exact .inl e'.symm
      | bk _ _ _=>exact .inl e'.symm
 ·rintro i σ' H' hlt ⟨Hi',acc,vs,Γ',s2,s3,k1,k2,hA1,hA2,dl,hv,hl,hsl,q⟩
  have hd:ds.drop i=ds[i] :: ds.drop (i+1):=Yd hlt
  rw [hd] at q; obtain ⟨go,yl⟩:=(itd Hi' H' s2 s3).1 i ds[i] (yC hlt)
  refine ⟨go,fun x H'' y=>?_⟩
  obtain ⟨Hi'',ex,den⟩:=yl x H'' y
  have gb:Good X.K N'.length ⟨H'',Hi'',[]⟩ Hi'' Γ' σ' H'':=by
   refine ⟨hl,ex.fz,fun b o e _=>e,fun b o e=>⟨o,e⟩,fun b o e=>rfl,fun j d e=>?_,fun j o e=>?_,fun j k o o' b e=>?_,fun j d b xs e=>?_⟩
   ·rcases hsl j _ e with z | ⟨d',z,v,h1,h2⟩
    ·cases z
    ·cases z; exact ⟨v,h1,h2.mono ex.hi⟩
   ·rcases hsl j _ e with z | ⟨d',z,_⟩ <;> cases z
   ·rcases hsl j _ e with z | ⟨d',z,_⟩ <;> cases z
   ·rcases hsl j _ e with z | ⟨d',z,_⟩ <;> cases z
  refine ⟨⟨H'',Hi'',[]⟩,Hi'',Γ',ds[i],_,gb,den,q,?_⟩; intro σ3 H3 Hi3 Γ3 s4 g3 q3; refine ⟨⟨H'',Hi'',[]⟩,Hi3,Γ3,_,g3,q3,?_⟩; intro b H4 Hi4 Γ4 s5 g4 q4
  -- what the state is behind a turn
  have back:∀ {Γ5:Sts} {Hi5 H5:Hp},zaS Hi4 Hi5->Good X.K N'.length ⟨H'',Hi'',[]⟩ Hi5 Γ5 σ3 H5 ->
    zaS Hi1 Hi5/\Fz Hi5 H5/\(∀ b o,H1 b=some o->H5 b=some o)/\(∀ b o,H1 b=some o->Hi5 b=Hi1 b)/\Hi5 A=none/\H5 A=some (.lst vs)/\zaS Hi' Hi5:=fun {Γ5 Hi5 H5} s6 g5=>by
   have sx:zaS Hi' Hi5:=ex.hi.trans (s4.trans (s5.trans s6))
   have hA3:H'' A=some (.lst vs):=ex.h _ _ hA2
   refine ⟨s2.trans sx,g5.fz,fun b o e=>g5.keep b o (ex.h _ _ (k1 b o e)) (by simp),fun b o e=>?_,?_,g5.keep A _ hA3 (by simp),sx⟩
   ·rw [g5.fro b o (ex.h _ _ (k1 b o e))]
    show Hi'' b=Hi1 b
    rw [ex.fro b o (k1 b o e),k2 b o e]
   ·rw [g5.fro A _ hA3]
    show Hi'' A=none
    rw [ex.fro A _ hA2,hA1]
  have sl:∀ {Γ5:Sts} {Hi5 H5:Hp},Good X.K N'.length ⟨H'',Hi'',[]⟩ Hi5 Γ5 σ3 H5->∀ (j:Nat) s,(vo Γ5)[j]?=some s->s=.emp\/∃ d,s=.val d/\∃ v,σ3[j]?=some (some v)/\Den X.K Hi5 v d:=fun {Γ5 Hi5 H5} g5 j s e=>by
   unfold vo at e; rw [yL] at e
   cases hj:Γ5[j]? with
   | none=>rw [hj] at e; cases e
   | some sl =>
    rw [hj] at e
    cases sl with
    | val d =>
     cases e; exact .inr ⟨d,rfl,g5.val j d hj⟩
    | emp=>cases e; exact .inl rfl
    | own o=>cases e; exact .inl rfl
    | bk _ _ _=>cases e; exact .inl rfl
  cases b with
  | false =>
   simp only [YU,if_false] at q4 ⊢; obtain ⟨b1,b2,b3,b4,b5,b6,b7⟩:=back (zaS.refl _) g4
   exact ⟨Hi4,acc,vs,vo Γ4,b1,b2,b3,b4,b5,b6,dl.mono b7,by omega,g4.len,sl g4,q4⟩
  | true =>
   simp only [if_true] at q4 ⊢; refine ⟨⟨H'',Hi'',[]⟩,Hi4,Γ4,_,g4,q4,?_⟩
   rintro y' H5 ⟨Hi5,dy,Γ5,s6,g5,den5,q5⟩
   obtain ⟨b1,b2,b3,b4,b5,b6,b7⟩:=back s6 g5
   refine ⟨vs,b6,by omega,Hi5,acc ++ [dy],vs ++ [y'],vo Γ5,b1,?_,?_,b4,b5,zv,paired_app (dl.mono b7) (.cons den5 .nil),by rw [yH]; simp; omega,g5.len,sl g5,q5⟩
   ·refine ⟨fun b o e=>?_,fun b xs e=>?_⟩
    ·rw [zI (fun z=>by rw [z,b5] at e; cases e)]
     exact b2.sub b o e
    ·by_cases hb:b=A
     ·subst hb; rw [zv] at e; cases e
     ·rw [zI hb] at e; exact b2.tups b xs e
   ·intro b o e
    rw [zI (za3 e hA)]; exact b3 b o e
 ·rintro σ' H' ⟨Hi',acc,vs,Γ',s2,s3,k1,k2,hA1,hA2,dl,hv,hl,hsl,q⟩
  refine ⟨(itd Hi' H' s2 s3).2,?_⟩; rw [Yp (yG _)] at q
  have ex:Ext Hi1 H1 Hi' H':=⟨s2,k1,s3,k2⟩
  refine fin A H' Hi' Γ1 (.lst acc) (s1.trans s2) (g1.ext ex) ⟨hA1,?_,⟨fun j o' e z=>?_,fun j d xs e=>?_⟩,vs,hA2,dl⟩ q
  ·cases hq:W.H₀ A with
   | none=>rfl
   | some w =>
    obtain ⟨w',hw⟩:=g1.there A w hq
    rw [hA] at hw; cases hw
  ·obtain ⟨a,h1,_,_,h4⟩:=g1.own j o' e
   rw [z] at h1; cases h1; obtain ⟨w,hw⟩:=h4.there
   rw [hA] at hw; cases hw
  ·obtain ⟨w,hw⟩:=(g1.bk j d A xs e).at_.there
   rw [hA] at hw; cases hw
abbrev Sp':=List D->(Res->Prop)->Prop
def zno (K:W.Frag) (sp:Sp'):Sp:=fun vs H Q2 _=>∃ Hi ds Q,Fz Hi H/\zbC K Hi vs ds/\sp ds Q/\∀ Hi' H' v r,Ext Hi H Hi' H'->zrI K H Hi' H' v r->Q r->Q2 v H'
def zz (sp:Sp') (t:TA'):TE':=fun Γ Q=>t Γ fun ds Γ1=>sp ds fun r=>Q r.toD Γ1
def zu (sp:Sp') (t:TA'):TO':=fun Γ Q=>t Γ fun ds Γ1=>sp ds fun r=>∃ o,r=.own o/\Q o Γ1
variable {k:Nat} {f:Addr} {fd:FuncData} {ps:List Str} {sp:Sp'} {x:Str} {p:Pos} {e:Expr} {es:List Expr} {t:TA'}
theorem zdy {K:W.Frag} {n:Nat} {W:Wd} {Hi H Hi' H':Hp} {Γ:Sts} {σ:St} {a:Addr} {o:OD} (g:Good K n W Hi Γ σ H) (ex:Ext Hi H Hi' H') (h1:Hi' a=none) (h2:H a=none) (h3:zcC K Hi' H' a o):New K n W Hi' Γ σ H' a o:=by
 refine ⟨h1,?_,⟨fun j o' e z=>?_,fun j d xs e=>?_⟩,h3⟩
 ·cases q:W.H₀ a with
  | none=>rfl
  | some w =>
   obtain ⟨w',hw⟩:=g.there a w q
   rw [h2] at hw; cases hw
 ·obtain ⟨b,q1,_,_,q4⟩:=g.own j o' e
  rw [z] at q1; cases q1; obtain ⟨w,hw⟩:=q4.there
  rw [h2] at hw; cases hw
 ·obtain ⟨w,hw⟩:=(g.bk j d a xs e).at_.there
  rw [h2] at hw; cases hw
theorem zn6 (F:FnOk X.prog X.w X.K X.mg X.base CX0 k f fd ps (zno X.K sp)) (hr:Room k X.A) (hm:X.mg x=some (.ref f)) (hk:W.keepIn X.K (.ref f)=true) (hb:zd2 X.K fd ps [])
  (ha:PA' X (e :: es) t) (hg:Gl X x:=by rfl) (hdb:(x == ("__debug__":Str))=false:=by decide) :
  PE' X (.Call (.Name x p) (e :: es) [] pos) (zz sp t):=by
 refine ⟨PE.weak (zqM (E:=E0) (dvs:=[]) F hr hg hm hk hb .nil zsM ha.pa hdb (zby (zaY ha.pl).1) (zbK (zaY ha.pl).2)) ?_⟩
 rintro σ H Q ⟨W,Hi,Γ,Q',g,h,fin⟩
 refine ⟨W,Hi,Γ,_,g,h,?_⟩; intro vs H1 Hi1 Γ1 ds s1 g1 dl q; rw [YG]; refine ⟨Hi1,ds,_,g1.fz,dl,q,?_⟩; intro Hi2 H2 v r ex ro q2
 cases r with
 | val d=>exact fin v H2 ⟨Hi2,d,Γ1,s1.trans ex.hi,g1.ext ex,ro,q2⟩
 | own o =>
  obtain ⟨a,rfl,h1,h2,h3⟩:=ro; have nw:=zdy g1 ex h1 h2 h3; obtain ⟨u,hu⟩:=h3.there; exact fin _ H2 ⟨upd Hi2 a u,_,Γ1,s1.trans (ex.hi.trans (zaO h1 u)),(g1.ext ex).freezeA nw.hi nw.h0 nw.ne hu,h3.den h1 hu,q2⟩
 | bk d o =>
  obtain ⟨b,dv,hol,h1,h2,h3⟩:=ro; have nw:=zdy g1 ex h1 h2 h3; obtain ⟨u,hu⟩:=h3.there; exact fin _ H2 ⟨upd Hi2 b u,_,Γ1,s1.trans (ex.hi.trans (zaO h1 u)),(g1.ext ex).freezeA nw.hi nw.h0 nw.ne hu,hol b _ v o (h3.den h1 hu) (dv.mono (zaO h1 u)),q2⟩
end
def zd7 (N:List Str) (ds:List D):Sts:=ds.map .val ++ List.replicate (N.length-ds.length) .emp
section
variable {P:Program} {w:World} {K:W.Frag} {mg:Str->Option Value} {base:Heap}
theorem Fun.ok' {x qual:Str} {st:Stmt} {f:Addr} {fd:FuncData} {N ps:List Str} {k:Nat} {sp:Sp'} (F:Fun K x qual st f fd) (S:FnScope N ps (zo st)) (len:∀ ds Q,sp ds Q->ds.length=ps.length)
  (hbody:∀ (cdv:Value) (A:Around) (outer:List Env) (s:Shared) (H:Hp) (E:XK),Room k (A.deeper (PyProof.Rows.envOfC qual (zo st) s.heap.objs.size f cdv))->∀ ds Q,sp ds Q ->
   ∃ t,PSs' (zi5 CX0 P w K mg base N qual (zo st) f cdv A outer s H E).nox (zbT st) t/\t { nx:=fun _=>Q (.val .non),rt:=fun r _=>Q r } (zd7 N ds)):FnOk P w K mg base CX0 (k+1) f fd ps (zno K sp):=by
 refine F.ok S (fun vs H Q E h=>?_) (fun cdv A outer s H vs Q E hr h=>?_)
 ·obtain ⟨Hi,ds,Q',_,dl,h,_⟩:=h
  rw [zk dl]; exact len ds Q' h
 obtain ⟨Hi,ds,Q',sb,dl,h,fin⟩:=h; obtain ⟨t,h1,h2⟩:=hbody cdv A outer s H E hr ds Q' h
 have hlen:ds.length=ps.length:=len ds Q' h
 have hpl:ps.length<=N.length:=by have:=yp List.length S.pre; rw [YQ] at this; omega
 have hvl:=zk dl; refine ⟨_,h1.h,⟨H,Hi,[]⟩,Hi,zd7 N ds,_,?_,h2,?_⟩
 ·refine ⟨?_,sb,fun b o e _=>e,fun b o e=>⟨o,e⟩,fun b o e=>rfl,fun j d e=>?_,fun j o e=>?_,fun j k o o' b e=>?_,fun j d b xs e=>?_⟩
  ·unfold L2.start
   show _=N.length
   rw [yH,yD,List.length_replicate]; omega
  all_goals
   unfold zd7 at e
   by_cases hj:j<ds.length
   ·rw [Yc (by simpa using hj),yL,yC hj] at e
    try cases e
    try
     obtain ⟨v,e1,e2⟩:=za6 dl (yC hj); refine ⟨v,?_,e2⟩; unfold L2.start
     rw [Yc (by rw [yD]; omega),yL,e1]
     rfl
   ·rw [List.getElem?_append_right (by simpa using hj),List.getElem?_replicate] at e
    split at e <;> cases e
 ·refine ⟨fun σ' H' Hi' Γ' s1 g1 q=>?_,fun _ _ _ _ _ _ q=>q.elim,fun _ _ _ _ _ _ q=>q.elim,fun v σ' H' Hi' Γ' r s1 g1 ro q=>?_⟩
  ·exact fin Hi' H' .non (.val .non) ⟨s1,fun b o e=>g1.keep b o e (by simp),g1.fz,fun b o e=>g1.fro b o e⟩ .non q
  ·exact fin Hi' H' v r ⟨s1,fun b o e=>g1.keep b o e (by simp),g1.fz,fun b o e=>g1.fro b o e⟩ ro q
end
end PL
namespace L2
open PySem PySem.Spec PyProof.Rows
section
variable {X:Cx}
theorem zoT {vs:List Value} {bs:List Bool} (r:za7 (bs.map V.bl) vs) {i:Nat} {v:Value} (h:vs[i]?=some v):v=.bool (bs.getD i false):=by
 obtain ⟨b,hb⟩:∃ b,bs[i]?=some b:=by
  have hl:=r.length; rw [yD] at hl
  have hi:i<bs.length:=by rw [hl]; exact (yF.mp h).1
  exact ⟨bs[i],yC hi⟩
 obtain ⟨u,e1,e2⟩:=za7.get (i:=i) (x:=.bl b) r (by rw [yL,hb]; rfl)
 rw [h] at e1; cases e1; cases e2; rw [List.getD_eq_getElem?_getD,hb]; rfl
theorem zmN (bs:List Bool):((List.range bs.length).all fun i=>bs.getD i false)=bs.all id:=by
 rw [Bool.eq_iff_iff,yY,yY]; constructor
 ·intro h b hb
  obtain ⟨i,hi,e⟩:=List.getElem_of_mem hb
  have:=h i (List.mem_range.mpr hi)
  rw [List.getD_eq_getElem?_getD,yC hi,e] at this; exact this
 ·intro h i hi
  have hi':=List.mem_range.mp hi; rw [List.getD_eq_getElem?_getD,yC hi']; exact h _ (Ye hi')
theorem zkO {pins:List (Addr × Obj)} {σ:St} {H:Hp} {s:Shared} {a:Addr} {bs:List Bool} (hc:X.calm=true) (I:Inv X pins σ H s) (hq:SqL X.K H a (bs.map V.bl)) {E:Value->Shared->Prop} (R:Bool->Bool->Prop) (f:(Nat->Bool)->List Nat->Bool) {Q:Value->Shared->Prop}
  (fin:∀ h' tk,Inv X pins σ H { s with heap:=h',toks:=tk }->Q (.bool (f (fun i=>bs.getD i false) (List.range bs.length))) { s with heap:=h',toks:=tk }) :
  wpAny (model X.prog X.w) X.A.in1 (pyIter (.ref a)) (fun it s₂=>∃ I fp wr n P St tr,it=.ref I/\Walks X.prog X.w X.A.in1 I fp wr n P St/\St 0 s₂.heap/\TruthOf X.prog X.w X.A.in1 P tr /\
   ∀ h' tk,(∀ b o,b ∉ wr->s₂.heap.get? b=some o->h'.get? b=some o)->Q (.bool (f tr (List.range n))) { s₂ with heap:=h',toks:=tk }) E s:=by
 obtain ⟨its,rv,p,hz⟩:=I.list hq
 have hlen:its.length=bs.length:=by have:=rv.length; rw [yD] at this; exact this.symm
 have hne:a≠s.heap.objs.size:=by
  obtain ⟨o,ho,_⟩:=p.isList; exact yd (yN ho)
 refine wpAny_pyIter_list p.isList ?_
 refine ⟨s.heap.objs.size,_,_,_,_,_,fun i=>bs.getD i false,rfl,Walks.list (show X.A.in1.handled=none from I.ok.hd hc) s.heap.objs.size a hne its.toArray,⟨⟨_,yK _ rfl,rfl,rfl⟩,p.isList.at fun o e=>yB _ e⟩,?_,?_⟩
 ·intro i v s' Q' E' hP hQ
  have hv:its[i]?=some v:=by simpa using hP
  rw [zoT rv hv]; exact Yi hQ
 ·intro h' tk kp
  have z:=fin h' tk (I.kept (t':=tk) fun b o e=>kp b o (by simp; exact yd (yN e)) (yB _ e))
  have e:its.toArray.size=bs.length:=by simpa using hlen
  rw [e]; exact z
theorem zf5 (hc:X.calm=true):zdn X (.builtin "all") (fun xs H Q=>∃ (a:Addr) (bs:List Bool),xs=[.ref a]/\SqL X.K H a (bs.map V.bl)/\Q (.bl (bs.all id)) H):=by
 intro pins s σ H xs us Q I r h; obtain ⟨a,bs,rfl,hq,q⟩:=h; obtain ⟨u,rfl,rx⟩:=zcX r; cases rx
 refine PySem.call_all_walk (zkO hc I hq (fun _ _=>True) (fun tr l=>l.all tr) fun h' tk I'=>⟨.bl _,H,I',rfl,?_⟩)
 rw [zmN]; exact q
theorem zlp (r:Addr) (a b:Int) (t u v:Tok) (i:Int) (t':Tok):Meets (Builtin.«range.__contains__» ⟨[.ref r,.int i t'],[]⟩) (fun _ R s=>s.heap.get? r=some { cls:=.type "range",dict:=none,data:=.fields #[.int a t,.int b u,.int 1 v],slots:=#[] } /\
  R (.ok (.ret (.bool (Builtin.Range.rangePlace? a b 1 i).isSome))) s) :=
 .of_wp fun prog w A R s h=>by obtain ⟨hp,g,d,tk,os⟩:=s; obtain ⟨hl,h⟩:=h; wp_walk; exact ⟨_,rfl,h⟩
theorem zkp (a b i:Int):(Builtin.Range.rangePlace? a b 1 i).isSome=decide (a<=i/\i<b):=by
 unfold Builtin.Range.rangePlace?
 have h1:(1:Int) > 0:=by decide
 have h2:(i-a) % 1=0:=Int.emod_one _
 simp only [h1,if_true,h2,beq_self_eq_true,Bool.and_true]
 by_cases h:a<=i/\i<b
 ·have e:(decide (a<=i) && decide (i<b))=true:=by simp [h.1,h.2]
  rw [yS e,YB h]; rfl
 ·have e:¬ (decide (a<=i) && decide (i<b))=true:=by
   intro z; simp only [yX,yk] at z; exact h z
  rw [yQ e,yV h]; rfl
def zwv (neg:Bool):R2:=fun x y H Q=>∃ i p lo hi,x=.int i/\y=.ref p/\Rd H p (.rng lo hi)/\Q (.bl (if neg then !decide (lo<=i/\i<hi) else decide (lo<=i/\i<hi))) H
theorem zhJ:OpR X (compareOp .NotIn) (zwv true):=by
 intro pins s σ H x y v u Q I rx ry h; obtain ⟨i,p,lo,hi,rfl,rfl,hp,q⟩:=h; obtain ⟨t,rfl⟩:=rx; cases ry; obtain ⟨t1,t2,t3,e⟩:=hp.ok I.hok; refine PySem.SeqRoads2.notIn_meets ⟨_,e,rfl⟩ F.slot_range_contains F.entry_range_contains (F.args_range_contains_2 _ _) (zlp p lo hi t1 t2 t3 i t) ⟨e,_,rfl,⟨.bl _,H,I,rfl,?_⟩⟩; rw [zkp]; exact q
def ztL (K:W.Frag) (H:Hp):V->String->Prop
 | .non,t=>t="NoneType"
 | .bl _,t=>t="bool"
 | .int _,t=>t="int"
 | .str _,t=>t="str"
 | .ref a,t=>(t="list"/\∃ xs,SqL K H a xs)\/(t="tuple"/\∃ xs,SqT K H a xs)\/(t="dict"/\((∃ kvs,Rd H a (.dK kvs))\/∃ kvs,Rd H a (.dT kvs)))
 | _,_=>False
end
end L2
namespace PL
open PySem L2
section
variable {X:Cx} {K:W.Frag}
theorem zfz {g:Int->Int->V} (g':Int->Int->D) (hg:∀ i j Hi,Den K Hi (g i j) (g' i j)):zim K (rI0 g) (fun x y Q=>∃ i j,x=.int i/\y=.int j/\Q (g' i j)):=by
 rintro Hi H x y dx dy Q Q2 s d1 d2 ⟨i,j,rfl,rfl,q⟩ fin
 exact ⟨i,j,d1.intI,d2.intI,fin Hi H _ _ (Ext.refl s) (hg i j Hi) q⟩
theorem zjJ {C:Int->Int->Prop} {g:Int->Int->V} (g':Int->Int->D) (hg:∀ i j Hi,Den K Hi (g i j) (g' i j)):zim K (rI C g) (fun x y Q=>∃ i j,x=.int i/\y=.int j/\C i j/\Q (g' i j)):=by
 rintro Hi H x y dx dy Q Q2 s d1 d2 ⟨i,j,rfl,rfl,c,q⟩ fin
 exact ⟨i,j,d1.intI,d2.intI,c,fin Hi H _ _ (Ext.refl s) (hg i j Hi) q⟩
def zpb (g:Int->Int->D):R2':=fun x y Q=>∃ i j,x=.int i/\y=.int j/\Q (g i j)
def rI' (C:Int->Int->Prop) (g:Int->Int->D):R2':=fun x y Q=>∃ i j,x=.int i/\y=.int j/\C i j/\Q (g i j)
theorem zve:Op2 X (binaryOp .Add) (zpb fun i j=>.int (i+j)):=⟨_,zsV,zfz _ fun i j _=>.int _⟩
theorem zsY:Op2 X (binaryOp .Sub) (zpb fun i j=>.int (i-j)):=⟨_,zsN,zfz _ fun i j _=>.int _⟩
theorem zu9:Op2 X (binaryOp .Mult) (rI' zpK fun i j=>.int (i * j)):=⟨_,zsQ,zjJ _ fun i j _=>.int _⟩
theorem zcU:Op2 X (binaryOp .FloorDiv) (rI' zoZ fun i j=>.int (i / j)):=⟨_,zqQ,zjJ _ fun i j _=>.int _⟩
theorem zdc:Op2 X (binaryOp .Mod) (rI' (fun _ j=>0<j) fun i j=>.int (i % j)):=⟨_,zsR,zjJ _ fun i j _=>.int _⟩
theorem zvY:Op2 X (compareOp .Lt) (zpb fun i j=>.bl (decide (i<j))):=⟨_,zu3,zfz _ fun i j _=>.bl _⟩
theorem zs0:Op2 X (compareOp .LtE) (zpb fun i j=>.bl (decide (i<=j))):=⟨_,zu4,zfz _ fun i j _=>.bl _⟩
theorem zvZ:Op2 X (compareOp .Gt) (zpb fun i j=>.bl (decide (j<i))):=⟨_,zu5,zfz _ fun i j _=>.bl _⟩
def ziE:R2':=fun x y Q=>∃ l m,x=.str l/\y=.str m/\l.length+m.length<=sizeLine/\Q (.str (l ++ m))
theorem zs2:Op2 X (binaryOp .Add) ziE:=⟨_,zks,by
 rintro Hi H x y dx dy Q Q2 s d1 d2 ⟨l,m,rfl,rfl,hl,q⟩ fin
 refine ⟨_,_,d1.strI,d2.strI,by rw [zbZ,zbZ]; exact hl,?_⟩
 rw [zsa]; exact fin Hi H _ _ (Ext.refl s) (.str _) q⟩
def eqS:D->D->Option Bool
 | .non,.non=>some true
 | .non,.int _=>some false
 | .non,.bl _=>some false
 | .non,.str _=>some false
 | .int _,.non=>some false
 | .bl _,.non=>some false
 | .str _,.non=>some false
 | .int i,.int j=>some (decide (i=j))
 | .bl i,.bl j=>some (decide (i=j))
 | .str i,.str j=>some (decide (i=j))
 | .int _,.str _=>some false
 | .str _,.int _=>some false
 | .bl _,.str _=>some false
 | .str _,.bl _=>some false
 | _,_=>none
inductive Scl (K:W.Frag) (Hi:Hp) (x:V):D->Prop where
 | n (h:x=.non):Scl K Hi x .non
 | b (b:Bool) (h:x=.bl b):Scl K Hi x (.bl b)
 | i (i:Int) (h:x=.int i):Scl K Hi x (.int i)
 | s (l:List Nat) (h:x=.str (st l)):Scl K Hi x (.str l)
theorem zep {dx dy:D} {b:Bool} (h:eqS dx dy=some b):dx=.non\/(∃ b,dx=.bl b)\/(∃ i,dx=.int i)\/∃ l,dx=.str l:=by
 cases dx with
 | non=>exact .inl rfl
 | bl b=>exact .inr (.inl ⟨b,rfl⟩)
 | int i=>exact .inr (.inr (.inl ⟨i,rfl⟩))
 | str l=>exact .inr (.inr (.inr ⟨l,rfl⟩))
 | _=>cases dy <;> exact nomatch h
theorem zml (dx dy:D) {b:Bool} (h:eqS dx dy=some b):∃ c,eqS dy dx=some c:=by
 rcases zep h with rfl | ⟨i,rfl⟩ | ⟨i,rfl⟩ | ⟨i,rfl⟩ <;> cases dy <;> first | exact ⟨_,rfl⟩ | exact nomatch h
theorem Den.scl {Hi:Hp} {x:V} {d:D} (d1:Den K Hi x d) (h:d=.non\/(∃ b,d=.bl b)\/(∃ i,d=.int i)\/∃ l,d=.str l):Scl K Hi x d:=by
 rcases h with rfl | ⟨i,rfl⟩ | ⟨i,rfl⟩ | ⟨i,rfl⟩
 ·exact .n d1.nonI
 ·exact .b _ d1.blI
 ·exact .i _ d1.intI
 ·exact .s _ d1.strI
theorem zpD {Hi:Hp} {x y:V} {dx dy:D} {b:Bool} (d1:Den K Hi x dx) (d2:Den K Hi y dy) (h:eqS dx dy=some b):zp9 x y=true/\decide (x=y)=b:=by
  have s1:=d1.scl (zep h); have s2:=d2.scl (zep (zml _ _ h).choose_spec)
  cases s1 <;> rename_i e1 <;> subst e1 <;> cases s2 <;> rename_i e2 <;> subst e2 <;> first
    | (exact yM (show (none:Option Bool)=some b from h) (fun z=>nomatch z))
    | (refine ⟨rfl,?_⟩
       have h':=Option.some.inj h
       subst h'
       first
         | rfl
         | (exact decide_eq_decide.mpr ⟨fun z=>V.int.inj z,fun z=>yp V.int z⟩)
         | (exact decide_eq_decide.mpr ⟨fun z=>V.bl.inj z,fun z=>yp V.bl z⟩)
         | (exact decide_eq_decide.mpr ⟨fun z=>st_inj (V.str.inj z),fun z=>yp (fun l=>V.str (st l)) z⟩)
         | (exact yV (fun z=>nomatch z)))
def znI (neg:Bool):R2':=fun x y Q=>∃ c l,x=.str [c]/\y=.str l/\Q (.bl (if neg then !decide (c ∈ l) else decide (c ∈ l)))
theorem zvd:Op2 X (compareOp .In) (znI false):=⟨_,zlN,by
 rintro Hi H x y dx dy Q Q2 s d1 d2 ⟨c,l,rfl,rfl,q⟩ fin
 refine ⟨_,_,d1.strI,d2.strI,?_⟩; rw [zpy]; exact fin Hi H _ _ (Ext.refl s) (.bl _) q⟩
theorem zoa:Op2 X (compareOp .NotIn) (znI true):=⟨_,zhH,by
 rintro Hi H x y dx dy Q Q2 s d1 d2 ⟨c,l,rfl,rfl,q⟩ fin
 refine ⟨_,_,d1.strI,d2.strI,?_⟩; rw [zpy]; exact fin Hi H _ _ (Ext.refl s) (.bl _) q⟩
def znJ (neg:Bool):R2':=fun x y Q=>∃ i lo hi,x=.int i/\y=.rng lo hi/\Q (.bl (if neg then !decide (lo<=i/\i<hi) else decide (lo<=i/\i<hi)))
theorem zob:Op2 X (compareOp .NotIn) (znJ true):=⟨_,zhJ,by
 rintro Hi H x y dx dy Q Q2 s d1 d2 ⟨i,lo,hi,rfl,rfl,q⟩ fin
 cases d2 with
 | rng h=>exact ⟨i,_,lo,hi,d1.intI,rfl,zeE s.sub h,fin Hi H _ _ (Ext.refl s) (.bl _) q⟩⟩
def zuS (neg:Bool):R2':=fun x y Q=>y=.non/\∃ b:Bool,(b=true↔x=.non)/\Q (.bl (if neg then !b else b))
theorem zvb:Op2 X (compareOp .Is) (zuS false):=⟨_,zsT,by
 rintro Hi H x y dx dy Q Q2 s d1 d2 ⟨rfl,b,e,q⟩ fin
 refine ⟨d2.nonI,?_⟩
 have z:decide (x=.non)=b:=by
  rw [Bool.eq_iff_iff,e,yk]; exact d1.non_iff
 rw [z]; exact fin Hi H _ _ (Ext.refl s) (.bl _) q⟩
def zmV:R2':=fun x y Q=>∃ i,y=.int i/\((∃ ds d,x=.lst ds/\atI ds i=some d/\Q d)\/(∃ ds d,x=.tup ds/\atI ds i=some d/\Q d)\/∃ l c,x=.str l/\l.length<=sizeLine/\atI l i=some c/\Q (.str [c]))
theorem zmM {Hi:Hp} {vs:List V} {ds:List D} {i:Int} {d:D} (r:zbC K Hi vs ds) (h:atI ds i=some d):∃ v,atI vs i=some v/\Den K Hi v d:=by
 unfold atI at h ⊢
 rw [zk r]
 cases e:ixN ds.length i with
 | none=>rw [e] at h; cases h
 | some j =>
  rw [e] at h
  obtain ⟨v,h1,h2⟩:=za6 r (show ds[j]?=some d from h)
  exact ⟨v,h1,h2⟩
theorem zvk:Ixs X zmV:=⟨_,ztl,by
 rintro Hi H x y dx dy Q Q2 s d1 d2 ⟨i,rfl,h⟩ fin
 rcases h with ⟨ds,d,rfl,e,q⟩ | ⟨ds,d,rfl,e,q⟩ | ⟨l,c,rfl,hl,e,q⟩
 ·obtain ⟨a,vs,rfl,h1,h2⟩:=d1.lstI
  obtain ⟨v,h3,h4⟩:=zmM h2 e; exact .inl ⟨a,vs,i,v,rfl,d2.intI,zak s.sub h1,h3,fin Hi H _ _ (Ext.refl s) h4 q⟩
 ·obtain ⟨a,vs,rfl,h1,h2⟩:=d1.tupI
  obtain ⟨v,h3,h4⟩:=zmM h2 e; exact .inr (.inl ⟨a,vs,i,v,rfl,d2.intI,zaN s.sub h1,h3,fin Hi H _ _ (Ext.refl s) h4 q⟩)
 ·refine .inr (.inr ⟨_,i,c,d1.strI,d2.intI,by rw [zbZ]; exact hl,by rw [zaW]; exact e,fin Hi H _ _ (Ext.refl s) (.str [c]) q⟩)⟩
def zcW {α:Type} (xs:List α) (lo hi:Option Int):List α:=(xs.drop (HT.sIx xs.length 0 lo)).take (HT.sIx xs.length xs.length hi-HT.sIx xs.length 0 lo)
def zkl:RS':=fun x lo hi Q=>∃ l,x=.str l/\l.length<=sizeLine/\((lo=none/\∃ n,hi=some n/\0<=n/\Q (.str (l.take n.toNat)))\/(hi=none/\∃ n,lo=some n/\0<=n/\Q (.str (l.drop n.toNat))))
theorem zuH:Sli X zkl:=⟨_,zsc,by
 rintro Hi H x dx lo hi Q Q2 s d1 ⟨l,rfl,hl,h⟩ fin
 refine ⟨st l,d1.strI,by rw [zbZ]; exact hl,?_⟩
 rcases h with ⟨rfl,n,rfl,hn,q⟩ | ⟨rfl,n,rfl,hn,q⟩
 ·obtain ⟨m,rfl⟩:=Int.eq_ofNat_of_zero_le hn
  rw [znr]; exact fin Hi H _ _ (Ext.refl s) (.str _) q
 ·obtain ⟨m,rfl⟩:=Int.eq_ofNat_of_zero_le hn
  rw [zkg]; exact fin Hi H _ _ (Ext.refl s) (.str _) q⟩
def zhB:RS':=fun x lo hi Q=>∃ ds,x=.tup ds/\Q (.tup (zcW ds lo hi))
def zkm:RS':=fun x lo hi Q=>∃ ds,x=.lst ds/\Q (.lst (zcW ds lo hi))
theorem zmA {Hi:Hp} {vs:List V} {ds:List D} {lo hi:Option Int} (r:zbC K Hi vs ds):zbC K Hi (zmB vs lo hi) (zcW ds lo hi):=by
 unfold zmB zcW; rw [zk r]; exact zdX _ (zft _ r)
theorem zse:Sli X zkm:=⟨_,zp7,by
 rintro Hi H x dx lo hi Q Q2 s d1 ⟨ds,rfl,q⟩ fin
 obtain ⟨a,vs,rfl,h1,h2⟩:=d1.lstI
 refine ⟨a,vs,rfl,zak s.sub h1,fun p hp=>?_⟩
 have e:=Ext.new s hp (.lst (zmB vs lo hi)); exact fin _ _ _ _ e (Den.mkL (SqL.of zv) (zmA (h2.mono e.hi))) q⟩
def zfX:RC':=fun ds Q=>∃ d,ds=[d]/\((∃ l,d=.str l/\l.length<=sizeLine/\Q (.int (l.length:Nat)))\/(∃ es,d=.lst es/\Q (.int (es.length:Nat)))\/∃ es,d=.tup es/\Q (.int (es.length:Nat)))
theorem zvB:Cal X (.builtin "len") zfX:=⟨_,zie.or zif,by
 rintro Hi H vs ds Q Q2 s dl ⟨d,rfl,h⟩ fin
 obtain ⟨v,rfl,den⟩:=zdi dl
 rcases h with ⟨l,rfl,hl,q⟩ | ⟨es,rfl,q⟩ | ⟨es,rfl,q⟩
 ·refine .inl ⟨_,by rw [den.strI],by rw [zbZ]; exact hl,?_⟩
  rw [zbZ]; exact fin Hi H _ _ (Ext.refl s) (.int _) q
 ·obtain ⟨a,us,rfl,h1,h2⟩:=den.lstI
  refine .inr ⟨a,us,rfl,.inl (zak s.sub h1),?_⟩; rw [zk h2]; exact fin Hi H _ _ (Ext.refl s) (.int _) q
 ·obtain ⟨a,us,rfl,h1,h2⟩:=den.tupI
  refine .inr ⟨a,us,rfl,.inr (zaN s.sub h1),?_⟩; rw [zk h2]; exact fin Hi H _ _ (Ext.refl s) (.int _) q⟩
def zsq:RC':=fun ds Q=>∃ l n,ds=[.str l]/\PySem.intText? (st l)=some n/\l.length<=640/\Q (.int n)
theorem zvC:Cal X (.type "int") zsq:=⟨_,zig,by
 rintro Hi H vs ds Q Q2 s dl ⟨l,n,rfl,e,hl,q⟩ fin
 obtain ⟨v,rfl,den⟩:=zdi dl
 exact ⟨_,n,by rw [den.strI],e,by rw [zbZ]; exact hl,fin Hi H _ _ (Ext.refl s) (.int _) q⟩⟩
def zlU (i:Int):List Nat:=(Str.ofString (toString i)).cps.toList
def zqe:RC':=fun ds Q=>∃ i,ds=[.int i]/\i.natAbs.log2<1920/\Q (.str (zlU i))
theorem zvA:Cal X (.type "str") zqe:=⟨_,zib,by
 rintro Hi H vs ds Q Q2 s dl ⟨i,rfl,hl,q⟩ fin
 obtain ⟨v,rfl,den⟩:=zdi dl
 refine ⟨i,by rw [den.intI],hl,?_⟩
 refine fin Hi H _ (.str (zlU i)) (Ext.refl s) ?_ q
 have e:(V.str (toString i))=.str (st (zlU i)):=by
  unfold zlU; rw [<- zp1]
 rw [e]; exact .str _⟩
def zvV:RC':=fun ds Q=>∃ bs:List Bool,ds=[.lst (bs.map .bl)]/\Q (.bl (bs.all id))
theorem zh5 {Hi:Hp}:∀ {vs:List V} {bs:List Bool},zbC K Hi vs (bs.map .bl)->vs=bs.map .bl
 | _,[],h=>by cases h; rfl
 | _,b :: bs,h=>by
  cases h with
  | cons r t=>rw [r.blI,zh5 t]; rfl
theorem zrF (hc:X.calm=true):Cal X (.builtin "all") zvV:=⟨_,zf5 hc,by
 rintro Hi H vs ds Q Q2 s dl ⟨bs,rfl,q⟩ fin
 obtain ⟨v,rfl,den⟩:=zdi dl; obtain ⟨a,us,rfl,h1,h2⟩:=den.lstI; rw [zh5 h2] at h1; exact ⟨a,bs,rfl,zak s.sub h1,fin Hi H _ _ (Ext.refl s) (.bl _) q⟩⟩
def zlq:RC':=fun ds Q=>∃ d es,ds=[d]/\(d=.lst es\/d=.tup es)/\Q (.tup es)
theorem zhg:Cal X (.type "tuple") zlq:=⟨_,zhe,by
 rintro Hi H vs ds Q Q2 s dl ⟨d,es,rfl,h,q⟩ fin
 obtain ⟨v,rfl,den⟩:=zdi dl
 rcases h with rfl | rfl
 ·obtain ⟨a,us,rfl,h1,h2⟩:=den.lstI
  refine ⟨a,us,rfl,.inl ⟨zak s.sub h1,fun l hl=>?_⟩⟩
  have e:=Ext.new s hl (.tup us); exact fin _ _ _ _ e (Den.mkT zv (h2.mono e.hi)) q
 ·obtain ⟨a,us,rfl,h1,h2⟩:=den.tupI
  exact ⟨a,us,rfl,.inr ⟨zaN s.sub h1,fin Hi H _ _ (Ext.refl s) den q⟩⟩⟩
def ziX:D->Option String
 | .non=>some "NoneType"
 | .bl _=>some "bool"
 | .int _=>some "int"
 | .str _=>some "str"
 | .lst _=>some "list"
 | .tup _=>some "tuple"
 | .dic _=>some "dict"
 | _=>none
theorem zoC {Hi H:Hp} {x:V} {d:D} {t:String} (s:zaS Hi H) (den:Den K Hi x d) (h:ziX d=some t):ztL K H x t:=by
 cases den with
 | non=>exact (Option.some.inj h).symm
 | bl b=>exact (Option.some.inj h).symm
 | int i=>exact (Option.some.inj h).symm
 | str l=>exact (Option.some.inj h).symm
 | ty n=>cases h
 | adr b=>cases h
 | rng h'=>cases h
 | tup hq l r=>exact .inr (.inl ⟨(Option.some.inj h).symm,_,SqT.of (s _ _ hq)⟩)
 | lst hq l r=>exact .inl ⟨(Option.some.inj h).symm,_,zak s hq⟩
 | dicK hq l r r2=>exact .inr (.inr ⟨(Option.some.inj h).symm,.inl ⟨_,zeE s hq⟩⟩)
 | dicT hq l r r2=>cases h
 | cls C=>cases h
 | obj hq l r r2=>cases h
 | excN hq=>cases h
 | exc hq h2 l r r2=>cases h
def zix:RM':=fun x ds Q=>∃ l y,x=.str l/\ds=[.str y]/\l.length<=sizeLine/\Q (.str (Txt.rstripChars (st l) (st y)).cps.toList)
theorem zom:Met X "str" "str.rstrip" zix:=⟨_,zl3,by
 rintro Hi H x vs dx ds Q Q2 s d1 dl ⟨l,y,rfl,rfl,hl,q⟩ fin
 obtain ⟨v,rfl,den⟩:=zdi dl
 refine ⟨_,_,d1.strI,by rw [den.strI],by rw [zbZ]; exact hl,?_⟩
 rw [zp1 (Txt.rstripChars (st l) (st y))]; exact fin Hi H _ _ (Ext.refl s) (.str _) q⟩
end
section
variable {X:Cx} {a b c:Expr} {pos:Pos} {ta tb tc:TE'}
def zp (r r':R2') (ta tb tc:TE'):TE':=fun Γ Q=>ta Γ fun x Γ1=>tb Γ1 fun y Γ2=>r x y fun z=>∃ k,z=.bl k/\(if k=true then tc Γ2 fun w Γ3=>r' y w fun d=>Q d Γ3 else Q (.bl false) Γ2)
theorem zhp {K:W.Frag} {n:Nat} {r s:R2} {r' s':R2'} {σ:St} {H:Hp} {Q:VK} (l:zim K r r') (l2:zim K s s') (h:tOf K n (zp r' s' ta tb tc) σ H Q):zk9 r s (tOf K n ta) (tOf K n tb) (tOf K n tc) σ H Q:=by
 obtain ⟨W,Hi,Γ,Q',g,h,fin⟩:=h; refine ⟨W,Hi,Γ,_,g,h,?_⟩
 rintro x H1 ⟨Hi1,dx,Γ1,s1,g1,den1,h1⟩
 refine ⟨W,Hi1,Γ1,_,g1,h1,?_⟩
 rintro y H2 ⟨Hi2,dy,Γ2,s2,g2,den2,h2⟩
 refine l Hi2 H2 x y dx dy _ _ g2.fz (den1.mono s2) den2 h2 ?_
 rintro Hi3 H3 v d e den ⟨k,rfl,q⟩
 refine ⟨k,den.blI,?_⟩
 cases k with
 | false=>exact fin _ H3 ⟨Hi3,_,Γ2,s1.trans (s2.trans e.hi),g2.ext e,.bl false,q⟩
 | true =>
  refine ⟨W,Hi3,Γ2,_,g2.ext e,q,?_⟩
  rintro w H4 ⟨Hi4,dw,Γ4,s4,g4,den4,q4⟩
  refine l2 Hi4 H4 y w dy dw _ _ g4.fz (den2.mono (e.hi.trans s4)) den4 q4 ?_; intro Hi5 H5 v5 d5 e5 den5 q5; exact fin _ H5 ⟨Hi5,d5,Γ4,s1.trans (s2.trans (e.hi.trans (s4.trans e5.hi))),g4.ext e5,den5,q5⟩
theorem zlL {op op':CmpOp} {r r':R2'} (ho:Op2 X (compareOp op) r) (ho':Op2 X (compareOp op') r') (ha:PE' X a ta) (hb:PE' X b tb) (hc:PE' X c tc)
  (hm:lastMarks [op,op'] [b,c]=false:=by with_unfolding_all rfl):PE' X (.Compare a [op,op'] [b,c] pos) (zp r r' ta tb tc):=by
 obtain ⟨q,h1,l1⟩:=ho.ex; obtain ⟨q',h2,l2⟩:=ho'.ex
 exact ⟨PE.weak (zn4 h1 h2 ha.h hb.h hc.h hm) fun σ H Q z=>zhp l1 l2 z⟩
theorem zlx {op op':CmpOp} {r r':R2'} (ho:Op2 X (compareOp op) r) (ho':Op2 X (compareOp op') r') (ha:PE' X a ta) (hb:PE' X b tb) (hc:PE' X c tc)
  (hm:lastMarks [op,op'] [b,c]=false:=by with_unfolding_all rfl):PT' X (.Compare a [op,op'] [b,c] pos) (tB' (zp r r' ta tb tc)):=by
 obtain ⟨q,h1,l1⟩:=ho.ex; obtain ⟨q',h2,l2⟩:=ho'.ex
 exact ⟨PT.weak (znM h1 h2 ha.h hb.h hc.h hm) fun σ H Q z=>zhp l1 l2 (zp0 z)⟩
def zgK:R2':=fun x y Q=>(∃ i j,x=.int i/\y=.int j/\Q (.int (i+j)))\/ziE x y Q
theorem zvf:Op2 X (binaryOp .Add) zgK:=zve.or zs2
def zgH:R2':=fun x y Q=>znI true x y Q\/znJ true x y Q
theorem zqX:Op2 X (compareOp .NotIn) zgH:=zoa.or zob
end
structure Df (K:W.Frag) (mg:Str->Option Value) (x:Str) (st:Stmt) (ps:List Str):Prop where
 ex:∃ f fd,Fun K x x st f fd/\zd2 K fd ps []/\mg x=some (.ref f)
structure Fn (P:Program) (w:World) (K:W.Frag) (mg:Str->Option Value) (base:Heap) (k:Nat) (x:Str) (ps:List Str) (sp:Sp'):Prop where
 ex:∃ f fd,FnOk P w K mg base CX0 k f fd ps (zno K sp)/\zd2 K fd ps []/\W.keepIn K (.ref f)=true/\mg x=some (.ref f)/\∃ oc od osl,K.lookup f=some ⟨oc,od,.func fd,osl⟩
section
variable {P:Program} {w:World} {K:W.Frag} {mg:Str->Option Value} {base:Heap} {k:Nat} {x:Str} {ps:List Str} {sp:Sp'}
theorem Df.ok {st:Stmt} {N:List Str} (d:Df K mg x st ps) (S:FnScope N ps (zo st)) (len:∀ ds Q,sp ds Q->ds.length=ps.length)
  (hbody:∀ (f:Addr) (cdv:Value) (A:Around) (outer:List Env) (s:Shared) (H:Hp) (E:XK),Room k (A.deeper (PyProof.Rows.envOfC x (zo st) s.heap.objs.size f cdv))->∀ ds Q,sp ds Q ->
   ∃ t,PSs' (zi5 CX0 P w K mg base N x (zo st) f cdv A outer s H E).nox (zbT st) t/\t { nx:=fun _=>Q (.val .non),rt:=fun r _=>Q r } (zd7 N ds)):Fn P w K mg base (k+1) x ps sp:=by
 obtain ⟨f,fd,F,b,m⟩:=d.ex; obtain ⟨oc,od,kV,doc,pm,an,cdv,ct,osl,e,lk,_⟩:=F.ex; exact ⟨f,fd,PL.Fun.ok' F S len (hbody f),b,F.kp,m,oc,od,osl,lk⟩
end
section
variable {X:Cx} {k:Nat} {x:Str} {ps:List Str} {sp:Sp'} {p pos:Pos} {e:Expr} {es:List Expr} {t:TA'}
theorem za1 (h:Fn X.prog X.w X.K X.mg X.base k x ps sp) (hr:Room k X.A) (ha:PA' X (e :: es) t) (hg:Gl X x:=by rfl) (hdb:(x == ("__debug__":Str))=false:=by decide) :
  PE' X (.Call (.Name x p) (e :: es) [] pos) (zz sp t):=by
 obtain ⟨f,fd,F,b,kp,m,_⟩:=h.ex; exact zn6 F hr m kp b ha hg hdb
end
section
variable {X:Cx} {pos:Pos}
def zlr:RS':=fun x lo hi Q=>zkl x lo hi Q\/zkm x lo hi Q
theorem zwm:Sli X zlr:=zuH.or zse
end
@[simp] theorem ex2 {α β:Type} {x:α} {y:β} {P:α->β->Prop}:(∃ a b,(x=a/\y=b)/\P a b)↔P x y:=⟨fun ⟨_,_,⟨e1,e2⟩,h⟩=>e1 ▸ e2 ▸ h,fun h=>⟨x,y,⟨rfl,rfl⟩,h⟩⟩
@[simp] theorem ex3 {α β γ:Type} {x:α} {y:β} {z:γ} {P:α->β->γ->Prop}:(∃ a b c,(x=a/\y=b/\z=c)/\P a b c)↔P x y z:=⟨fun ⟨_,_,_,⟨e1,e2,e3⟩,h⟩=>e1 ▸ e2 ▸ e3 ▸ h,fun h=>⟨x,y,z,⟨rfl,rfl,rfl⟩,h⟩⟩
@[simp] theorem zuu (d:D):(Res.val d).toD=d:=rfl
@[simp] theorem zuv (o:OD):(Res.own o).toD=o.toD:=rfl
@[simp] theorem zvM (d:D->D) (o:OD):(Res.bk d o).toD=d o.toD:=rfl
@[simp] theorem zv0 (l:List D):(OD.lst l).toD=.lst l:=rfl
@[simp] theorem zv2 (l:List (D × D)):(OD.dic l).toD=.dic l:=rfl
@[simp] theorem zv1 (l:List (D × D)):(OD.dit l).toD=.dit l:=rfl
@[simp] theorem zr9 (N:List Str) (ds:List D):zd7 N ds=ds.map .val ++ List.replicate (N.length-ds.length) .emp:=rfl
@[simp] theorem zuo (d:D):voS (.val d)=.val d:=rfl
@[simp] theorem zuq:voS .emp=.emp:=rfl
@[simp] theorem zup (o:OD):voS (.own o)=.emp:=rfl
@[simp] theorem zvL:vo []=[]:=rfl
@[simp] theorem zun (s:Slot) (Γ:Sts):vo (s :: Γ)=voS s :: vo Γ:=rfl
@[simp] theorem ztS (ds:List D):zsd (.lst ds)=some ds:=rfl
@[simp] theorem ztP (ds:List D):zsd (.tup ds)=some ds:=rfl
@[simp] theorem ztQ (l:List Nat):zsd (.str l)=some (l.map fun c=>.str [c]):=rfl
@[simp] theorem zvD (Γ:Sts):zm3 [] Γ=[]:=rfl
@[simp] theorem zug (src:List (Option Nat)) (Γ:Sts):zm3 (none :: src) Γ=.emp :: zm3 src Γ:=rfl
@[simp] theorem zuf (i:Nat) (src:List (Option Nat)) (Γ:Sts):zm3 (some i :: src) Γ=(match Γ[i]? with | some (.val d)=>.val d | _=>.emp) :: zm3 src Γ:=rfl
@[simp] theorem zty (g:TG') (tc:TT') (te:TE') (Q:List D->Prop) (acc:List D) (Γ:Sts):zeY g tc te Q [] acc Γ↔Q acc:=Iff.rfl
@[simp] theorem zud (g:TG') (tb:TS') (N:Ends') (Γ:Sts):zfT g tb N [] Γ↔N.nx Γ:=Iff.rfl
section
variable {Q:D->Prop}
@[simp] theorem zvU (g:Int->Int->D) (i j:Int):zpb g (.int i) (.int j) Q↔Q (g i j):=by simp [zpb]
@[simp] theorem zww (C:Int->Int->Prop) (g:Int->Int->D) (i j:Int):rI' C g (.int i) (.int j) Q↔C i j/\Q (g i j):=by simp [rI']
@[simp] theorem zub (i j:Int):zgK (.int i) (.int j) Q↔Q (.int (i+j)):=by simp [zgK,ziE]
@[simp] theorem zua (l m:List Nat):zgK (.str l) (.str m) Q↔l.length+m.length<=sizeLine/\Q (.str (l ++ m)):=by simp [zgK,ziE]
@[simp] theorem zvs (i j:Int):eqS (.int i) (.int j)=some (decide (i=j)):=rfl
@[simp] theorem zvq (i j:List Nat):eqS (.str i) (.str j)=some (decide (i=j)):=rfl
@[simp] theorem zv4 (i j:Bool):eqS (.bl i) (.bl j)=some (decide (i=j)):=rfl
@[simp] theorem zvr:eqS .non .non=some true:=rfl
@[simp] theorem zrt (i:List Nat):eqS .non (.str i)=some false:=rfl
@[simp] theorem zru (i:Int):eqS .non (.int i)=some false:=rfl
@[simp] theorem zrs (i:List Nat):eqS (.str i) .non=some false:=rfl
@[simp] theorem zrv (i:Int):eqS (.int i) .non=some false:=rfl
@[simp] theorem zuT (c:Nat) (l:List Nat):znI false (.str [c]) (.str l) Q↔Q (.bl (decide (c ∈ l))):=by simp [znI]
@[simp] theorem zuR (ds:List D) (i:Int):zmV (.lst ds) (.int i) Q↔∃ d,atI ds i=some d/\Q d:=by simp [zmV]
@[simp] theorem zuP (ds:List D) (i:Int):zmV (.tup ds) (.int i) Q↔∃ d,atI ds i=some d/\Q d:=by simp [zmV]
@[simp] theorem zuQ (l:List Nat) (i:Int):zmV (.str l) (.int i) Q↔l.length<=sizeLine/\∃ c,atI l i=some c/\Q (.str [c]):=by simp [zmV]
@[simp] theorem zvQ (l:List Nat) (n:Int):zlr (.str l) none (some n) Q↔l.length<=sizeLine/\0<=n/\Q (.str (l.take n.toNat)):=by simp [zlr,zkl,zkm]
@[simp] theorem ztU (l:List Nat) (n:Int):zlr (.str l) (some n) none Q↔l.length<=sizeLine/\0<=n/\Q (.str (l.drop n.toNat)):=by simp [zlr,zkl,zkm]
@[simp] theorem zuM (ds:List D) (lo hi:Option Int):zlr (.lst ds) lo hi Q↔Q (.lst (zcW ds lo hi)):=by simp [zlr,zkl,zkm]
@[simp] theorem ztY (l:List Nat):zfX [.str l] Q↔l.length<=sizeLine/\Q (.int (l.length:Nat)):=by simp [zfX]
@[simp] theorem ztZ (l:List D):zfX [.lst l] Q↔Q (.int (l.length:Nat)):=by simp [zfX]
@[simp] theorem ztX (l:List D):zfX [.tup l] Q↔Q (.int (l.length:Nat)):=by simp [zfX]
@[simp] theorem zuL (i:Int):zqe [.int i] Q↔i.natAbs.log2<1920/\Q (.str (zlU i)):=by simp [zqe]
@[simp] theorem ztT (ds:List D):zlq [.lst ds] Q↔Q (.tup ds):=by simp [zlq]
@[simp] theorem zrM (l y:List Nat):zix (.str l) [.str y] Q↔l.length<=sizeLine/\Q (.str (Txt.rstripChars (st l) (st y)).cps.toList):=by simp [zix]
@[simp] theorem zur (l:List Nat):tyD "str" (.str l)↔True:=by simp [tyD]
theorem ziC {ds:List D} {bs:List Bool} (e:ds=bs.map .bl):zvV [.lst ds] Q↔Q (.bl (bs.all id)):=by
 subst e; constructor
 ·rintro ⟨cs,e,q⟩
  have e':bs.map D.bl=cs.map D.bl:=by simpa using e
  have:bs=cs:=(List.map_inj_right (fun a b h=>D.bl.inj h)).mp e'
  rw [this]; exact q
 ·intro q
  exact ⟨bs,rfl,q⟩
end
@[simp] theorem zkV (K:W.Frag):W.kitOne K (.type "NoneType") (.type "str")=some false:=by rfl
@[simp] theorem zpu (K:W.Frag):W.kitOne K (.type "bool") (.type "str")=some false:=by rfl
@[simp] theorem zrc (K:W.Frag):W.kitOne K (.type "int") (.type "str")=some false:=by rfl
@[simp] theorem zra (K:W.Frag):W.kitOne K (.type "str") (.type "str")=some true:=by rfl
@[simp] theorem zpn (K:W.Frag):W.kitOne K (.type "list") (.type "str")=some false:=by rfl
@[simp] theorem zoo (K:W.Frag):W.kitOne K (.type "tuple") (.type "str")=some false:=by rfl
@[simp] theorem zps (K:W.Frag):W.kitOne K (.type "dict") (.type "str")=some false:=by rfl
@[simp] theorem zkD (K:W.Frag):W.kitOne K (.type "NoneType") (.type "bool")=some false:=by rfl
@[simp] theorem zoB (K:W.Frag):W.kitOne K (.type "bool") (.type "bool")=some true:=by rfl
@[simp] theorem zpr (K:W.Frag):W.kitOne K (.type "int") (.type "bool")=some false:=by rfl
@[simp] theorem zpm (K:W.Frag):W.kitOne K (.type "str") (.type "bool")=some false:=by rfl
@[simp] theorem zou (K:W.Frag):W.kitOne K (.type "list") (.type "bool")=some false:=by rfl
@[simp] theorem zmY (K:W.Frag):W.kitOne K (.type "tuple") (.type "bool")=some false:=by rfl
@[simp] theorem zoy (K:W.Frag):W.kitOne K (.type "dict") (.type "bool")=some false:=by rfl
@[simp] theorem zkW (K:W.Frag):W.kitOne K (.type "NoneType") (.type "int")=some false:=by rfl
@[simp] theorem zpv (K:W.Frag):W.kitOne K (.type "bool") (.type "int")=some true:=by rfl
@[simp] theorem zrd (K:W.Frag):W.kitOne K (.type "int") (.type "int")=some true:=by rfl
@[simp] theorem zrb (K:W.Frag):W.kitOne K (.type "str") (.type "int")=some false:=by rfl
@[simp] theorem zpo (K:W.Frag):W.kitOne K (.type "list") (.type "int")=some false:=by rfl
@[simp] theorem zop (K:W.Frag):W.kitOne K (.type "tuple") (.type "int")=some false:=by rfl
@[simp] theorem zpt (K:W.Frag):W.kitOne K (.type "dict") (.type "int")=some false:=by rfl
@[simp] theorem zkB (K:W.Frag):W.kitOne K (.type "NoneType") (.type "list")=some false:=by rfl
@[simp] theorem zoz (K:W.Frag):W.kitOne K (.type "bool") (.type "list")=some false:=by rfl
@[simp] theorem zpp (K:W.Frag):W.kitOne K (.type "int") (.type "list")=some false:=by rfl
@[simp] theorem zpk (K:W.Frag):W.kitOne K (.type "str") (.type "list")=some false:=by rfl
@[simp] theorem zos (K:W.Frag):W.kitOne K (.type "list") (.type "list")=some true:=by rfl
@[simp] theorem zmW (K:W.Frag):W.kitOne K (.type "tuple") (.type "list")=some false:=by rfl
@[simp] theorem zow (K:W.Frag):W.kitOne K (.type "dict") (.type "list")=some false:=by rfl
@[simp] theorem zjK (K:W.Frag):W.kitOne K (.type "NoneType") (.type "tuple")=some false:=by rfl
@[simp] theorem zm1 (K:W.Frag):W.kitOne K (.type "bool") (.type "tuple")=some false:=by rfl
@[simp] theorem zov (K:W.Frag):W.kitOne K (.type "int") (.type "tuple")=some false:=by rfl
@[simp] theorem zoq (K:W.Frag):W.kitOne K (.type "str") (.type "tuple")=some false:=by rfl
@[simp] theorem zmZ (K:W.Frag):W.kitOne K (.type "list") (.type "tuple")=some false:=by rfl
@[simp] theorem zma (K:W.Frag):W.kitOne K (.type "tuple") (.type "tuple")=some true:=by rfl
@[simp] theorem zm0 (K:W.Frag):W.kitOne K (.type "dict") (.type "tuple")=some false:=by rfl
@[simp] theorem zkC (K:W.Frag):W.kitOne K (.type "NoneType") (.type "dict")=some false:=by rfl
@[simp] theorem zoA (K:W.Frag):W.kitOne K (.type "bool") (.type "dict")=some false:=by rfl
@[simp] theorem zpq (K:W.Frag):W.kitOne K (.type "int") (.type "dict")=some false:=by rfl
@[simp] theorem zpl (K:W.Frag):W.kitOne K (.type "str") (.type "dict")=some false:=by rfl
@[simp] theorem zot (K:W.Frag):W.kitOne K (.type "list") (.type "dict")=some false:=by rfl
@[simp] theorem zmX (K:W.Frag):W.kitOne K (.type "tuple") (.type "dict")=some false:=by rfl
@[simp] theorem zox (K:W.Frag):W.kitOne K (.type "dict") (.type "dict")=some true:=by rfl
section
variable {Q:D->Prop}
end
class ME (t:TE'):Prop where
 mono:∀ Γ Q Q',(∀ d Γ',Q d Γ'->Q' d Γ')->t Γ Q->t Γ Q'
class MT (t:TT'):Prop where
 mono:∀ Γ Q Q',(∀ d Γ',Q d Γ'->Q' d Γ')->t Γ Q->t Γ Q'
class MA (t:TA'):Prop where
 mono:∀ Γ Q Q',(∀ d Γ',Q d Γ'->Q' d Γ')->t Γ Q->t Γ Q'
class MO (t:TO'):Prop where
 mono:∀ Γ Q Q',(∀ d Γ',Q d Γ'->Q' d Γ')->t Γ Q->t Γ Q'
class MP (t:TP'):Prop where
 mono:∀ Γ Q Q',(∀ d Γ',Q d Γ'->Q' d Γ')->t Γ Q->t Γ Q'
class MI (t:TI'):Prop where
 mono:∀ Γ Q Q',(∀ d Γ',Q d Γ'->Q' d Γ')->t Γ Q->t Γ Q'
class MG (g:TG'):Prop where
 mono:∀ d Γ Q Q',(∀ Γ',Q Γ'->Q' Γ')->g d Γ Q->g d Γ Q'
class MR2 (r:R2'):Prop where
 mono:∀ x y Q Q',(∀ d,Q d->Q' d)->r x y Q->r x y Q'
class MRC (r:RC'):Prop where
 mono:∀ x Q Q',(∀ d,Q d->Q' d)->r x Q->r x Q'
class MRM (r:RM'):Prop where
 mono:∀ x y Q Q',(∀ d,Q d->Q' d)->r x y Q->r x y Q'
class MRS (r:RS'):Prop where
 mono:∀ x y z Q Q',(∀ d,Q d->Q' d)->r x y z Q->r x y z Q'
class MSp (sp:Sp'):Prop where
 mono:∀ x Q Q',(∀ d,Q d->Q' d)->sp x Q->sp x Q'
structure Ends'.le (N N':Ends'):Prop where
 nx:∀ Γ,N.nx Γ->N'.nx Γ
 rt:∀ r Γ,N.rt r Γ->N'.rt r Γ
 bk:∀ Γ,N.bk Γ->N'.bk Γ
 ct:∀ Γ,N.ct Γ->N'.ct Γ
class MS (t:TS'):Prop where
 mono:∀ N N' Γ,N.le N'->t N Γ->t N' Γ
instance {i:Nat}:ME (zZ i):=⟨fun _ _ _ h ⟨d,e,q⟩=>⟨d,e,h _ _ q⟩⟩
instance {d:D}:ME (tC' d):=⟨fun _ _ _ h q=>h _ _ q⟩
instance {t:TO'} [MO t]:ME (zaE t):=⟨fun Γ _ _ h q=>MO.mono (t:=t) Γ _ _ (fun _ _ z=>h _ _ z) q⟩
instance {r:R2'} {a b:TE'} [MR2 r] [ME a] [ME b]:ME (za9 r a b):=⟨fun Γ _ _ h q=>ME.mono (t:=a) Γ _ _ (fun _ _ z=>ME.mono (t:=b) _ _ _ (fun _ _ z=>MR2.mono (r:=r) _ _ _ _ (fun _ z=>h _ _ z) z) z) q⟩
instance {t:TE'} [ME t]:MT (tB' t):=⟨fun Γ _ _ h q=>ME.mono (t:=t) Γ _ _ (fun _ _ ⟨b,e,z⟩=>⟨b,e,h _ _ z⟩) q⟩
instance {t u:TT'} [MT t] [MT u]:MT (zav t u):=⟨fun Γ _ _ h q=>MT.mono (t:=t) Γ _ _ (fun b _ z=>by
 cases b with
 | true=>exact MT.mono (t:=u) _ _ _ h z
 | false=>exact h _ _ z) q⟩
instance {t:TT'} [MT t]:MT (zaq t):=⟨fun Γ _ _ h q=>MT.mono (t:=t) Γ _ _ (fun b _ z=>h _ _ z) q⟩
instance:MT zbf:=⟨fun _ _ _ h q=>h _ _ q⟩
instance:MA zad:=⟨fun _ _ _ h q=>h _ _ q⟩
instance {a:TE'} {r:TA'} [ME a] [MA r]:MA (zx a r):=⟨fun Γ _ _ h q=>ME.mono (t:=a) Γ _ _ (fun _ _ z=>MA.mono (t:=r) _ _ _ (fun _ _ z=>h _ _ z) z) q⟩
instance {t:TA'} [MA t]:ME (zal t):=⟨fun Γ _ _ h q=>MA.mono (t:=t) Γ _ _ (fun _ _ ⟨a,z⟩=>⟨a,h _ _ z⟩) q⟩
instance {t:TA'} [MA t]:MO (zar t):=⟨fun Γ _ _ h q=>MA.mono (t:=t) Γ _ _ (fun _ _ ⟨a,z⟩=>⟨a,h _ _ z⟩) q⟩
instance {r:RC'} {t:TA'} [MRC r] [MA t]:ME (zbj r t):=⟨fun Γ _ _ h q=>MA.mono (t:=t) Γ _ _ (fun _ _ z=>MRC.mono (r:=r) _ _ _ (fun _ z=>h _ _ z) z) q⟩
instance {T:String} {r:RM'} {o:TE'} {t:TA'} [MRM r] [ME o] [MA t]:ME (zbn T r o t):=⟨fun Γ _ _ h q=>ME.mono (t:=o) Γ _ _ (fun _ _ ⟨a,z⟩=>⟨a,MA.mono (t:=t) _ _ _ (fun _ _ z=>MRM.mono (r:=r) _ _ _ _ (fun _ z=>h _ _ z) z) z⟩) q⟩
instance:MP zag:=⟨fun _ _ _ h q=>h _ _ q⟩
instance {t:TE'} [ME t]:MP (zbh t):=⟨fun Γ _ _ h q=>ME.mono (t:=t) Γ _ _ (fun _ _ ⟨i,e,z⟩=>⟨i,e,h _ _ z⟩) q⟩
instance {r:RS'} {e:TE'} {l u:TP'} [MRS r] [ME e] [MP l] [MP u]:ME (zbg r e l u):=⟨fun Γ _ _ h q=>ME.mono (t:=e) Γ _ _ (fun _ _ z=>MP.mono (t:=l) _ _ _ (fun _ _ z=>MP.mono (t:=u) _ _ _ (fun _ _ z=>MRS.mono (r:=r) _ _ _ _ _ (fun _ z=>h _ _ z) z) z) z) q⟩
instance {sp:Sp'} {t:TA'} [MSp sp] [MA t]:ME (zz sp t):=⟨fun Γ _ _ h q=>MA.mono (t:=t) Γ _ _ (fun _ _ z=>MSp.mono (sp:=sp) _ _ _ (fun _ z=>h _ _ z) z) q⟩
instance {i:Nat}:MG (zw i):=⟨fun _ _ _ _ h q=>h _ q⟩
theorem Ends'.le.nxt {N N':Ends'} (h:N.le N') {P P':Sts->Prop} (hp:∀ Γ,P Γ->P' Γ):Ends'.le { N with nx:=P } { N' with nx:=P' }:=⟨hp,h.rt,h.bk,h.ct⟩
instance:MS zy:=⟨fun _ _ _ h q=>h.nx _ q⟩
instance {t u:TS'} [MS t] [MS u]:MS (zaj t u):=⟨fun N N' Γ h q=>MS.mono (t:=t) _ _ _ (h.nxt fun Γ' z=>MS.mono (t:=u) N N' Γ' h z) q⟩
instance {t:TE'} [ME t]:MS (zab t):=⟨fun N N' Γ h q=>ME.mono (t:=t) _ _ _ (fun _ _ z=>h.rt _ _ z) q⟩
instance {c:TT'} {t u:TS'} [MT c] [MS t] [MS u]:MS (zaf c t u):=⟨fun N N' Γ h q=>MT.mono (t:=c) _ _ _ (fun b Γ1 z=>by
 cases b with
 | true=>exact MS.mono (t:=t) N N' Γ1 h z
 | false=>exact MS.mono (t:=u) N N' Γ1 h z) q⟩
instance {t:TE'} {g:TG'} [ME t] [MG g]:MS (zah t g):=⟨fun N N' Γ h q=>ME.mono (t:=t) _ _ _ (fun _ _ z=>MG.mono (g:=g) _ _ _ _ (fun _ z=>h.nx _ z) z) q⟩
theorem zfJ {g:TG'} {tb:TS'} [MG g] [MS tb] {N N':Ends'} (h:N.le N'):∀ (ds:List D) (Γ:Sts),zfT g tb N ds Γ->zfT g tb N' ds Γ
 | [],Γ,q=>h.nx Γ q
 | d :: ds,Γ,q=>MG.mono (g:=g) _ _ _ _ (fun Γ2 z=>MS.mono (t:=tb) { N with nx:=zfT g tb N ds,ct:=zfT g tb N ds,bk:=N.nx } { N' with nx:=zfT g tb N' ds,ct:=zfT g tb N' ds,bk:=N'.nx } _ ⟨fun Γ3 z=>zfJ h ds Γ3 z,h.rt,h.nx,fun Γ3 z=>zfJ h ds Γ3 z⟩ z) q
instance {ti:TI'} {g:TG'} {tb:TS'} [MI ti] [MG g] [MS tb]:MS (zat ti g tb):=⟨fun N N' Γ h q=>MI.mono (t:=ti) _ _ _ (fun ds Γ1 z=>zfJ h ds Γ1 z) q⟩
theorem zi0 {g:TG'} {tb:TS'} [MG g] [MS tb] {N:Ends'} (I:List D->Sts->Prop) (h0:∀ Γ,I [] Γ->N.nx Γ) (hs:∀ d ds Γ,I (d :: ds) Γ->g d Γ fun Γ2=>tb { N with nx:=I ds,ct:=I ds,bk:=N.nx } Γ2) :
  ∀ (ds:List D) (Γ:Sts),I ds Γ->zfT g tb N ds Γ
 | [],Γ,h=>h0 Γ h
 | d :: ds,Γ,h=>MG.mono (g:=g) _ _ _ _ (fun Γ2 z=>MS.mono (t:=tb) { N with nx:=I ds,ct:=I ds,bk:=N.nx } { N with nx:=zfT g tb N ds,ct:=zfT g tb N ds,bk:=N.nx } _ ⟨fun Γ3 z=>zi0 I h0 hs ds Γ3 z,fun _ _ z=>z,fun _ z=>z,fun Γ3 z=>zi0 I h0 hs ds Γ3 z⟩ z) (hs d ds Γ h)
theorem zgk {g:TG'} {tb:TS'} [MG g] [MS tb] {N:Ends'} {ds:List D} {Γ:Sts} (I:Nat->Sts->Prop) (h:I 0 Γ) (hs:∀ (i:Nat) d Γ,ds[i]?=some d->I i Γ->g d Γ fun Γ2=>tb { N with nx:=I (i+1),ct:=I (i+1),bk:=N.nx } Γ2) (h0:∀ Γ,I ds.length Γ->N.nx Γ):zfT g tb N ds Γ:=by
 refine zi0 (fun es Γ=>∃ i,es=ds.drop i/\i<=ds.length/\I i Γ) ?_ ?_ ds Γ ⟨0,rfl,yo _,h⟩
 ·rintro Γ ⟨i,e,hi,q⟩
  have:i=ds.length:=by
   have:=yp List.length e
   rw [YK] at this
   simp at this
   omega
  subst this; exact h0 Γ q
 ·rintro d es Γ ⟨i,e,hi,q⟩
  have hlt:i<ds.length:=by
   have:=yp List.length e
   rw [YK] at this
   simp at this
   omega
  rw [Yd hlt] at e
  injection e with e1 e2
  subst e1
  have go:∀ Γ',I (i+1) Γ'->∃ j,es=ds.drop j/\j<=ds.length/\I j Γ':=fun Γ' z=>⟨i+1,e2,hlt,z⟩
  exact MG.mono (g:=g) _ _ _ _ (fun Γ2 z=>MS.mono (t:=tb) { N with nx:=I (i+1),ct:=I (i+1),bk:=N.nx } _ _ ⟨go,fun _ _ z=>z,fun _ z=>z,go⟩ z) (hs i _ Γ (yC hlt) q)
theorem zhj {c:TT'} {tb:TS'} [MT c] [MS tb] {N:Ends'} {Γ:Sts} (I:Sts->Prop) (μ:Sts->Nat) (h:I Γ) (hs:∀ Γ,I Γ->c Γ fun b Γ1=>if b=true then tb { N with nx:=fun Γ2=>I Γ2/\μ Γ2<μ Γ,ct:=fun Γ2=>I Γ2/\μ Γ2<μ Γ,bk:=N.nx } Γ1 else N.nx Γ1):zk6 c tb N Γ:=by
 refine ⟨fun m Γ=>m=μ Γ/\I Γ,⟨_,rfl,h⟩,?_⟩
 rintro m Γ ⟨rfl,p⟩
 refine MT.mono (t:=c) _ _ _ (fun b Γ1 z=>?_) (hs Γ p)
 cases b with
 | true=>exact MS.mono (t:=tb) { N with nx:=fun Γ2=>I Γ2/\μ Γ2<μ Γ,ct:=fun Γ2=>I Γ2/\μ Γ2<μ Γ,bk:=N.nx } _ _ ⟨fun Γ2 ⟨a,b⟩=>⟨_,b,rfl,a⟩,fun _ _ z=>z,fun _ z=>z,fun Γ2 ⟨a,b⟩=>⟨_,b,rfl,a⟩⟩ z
 | false=>exact z
theorem zcR {g:TG'} {tc:TT'} {te:TE'} [MG g] [MT tc] [ME te] {Q:List D->Prop} {ds:List D} {Γ:Sts} (I:Nat->List D->Sts->Prop) (h:I 0 [] Γ)
  (hs:∀ (i:Nat) d acc Γ,ds[i]?=some d->I i acc Γ->g d Γ fun Γ2=>tc Γ2 fun b Γ3=>if b=true then te Γ3 fun y Γ4=>I (i+1) (acc ++ [y]) (vo Γ4) else I (i+1) acc (vo Γ3)) (h0:∀ acc Γ,I ds.length acc Γ->Q acc):zeY g tc te Q ds [] Γ:=by
 have key:∀ (n i:Nat) (acc:List D) (Γ:Sts),n=ds.length-i->i<=ds.length->I i acc Γ->zeY g tc te Q (ds.drop i) acc Γ:=by
  intro n
  induction n with
  | zero =>
   intro i acc Γ hn hi q
   have:i=ds.length:=by omega
   subst this; rw [Yp (yG _)]; exact h0 acc Γ q
  | succ n ih =>
   intro i acc Γ hn hi q
   have hlt:i<ds.length:=by omega
   rw [Yd hlt]
   refine MG.mono (g:=g) _ _ _ _ (fun Γ2 z=>MT.mono (t:=tc) _ _ _ (fun b Γ3 z=>?_) z) (hs i _ acc Γ (yC hlt) q)
   cases b with
   | true=>exact ME.mono (t:=te) _ _ _ (fun y Γ4 z=>ih (i+1) _ _ (by omega) hlt z) z
   | false=>exact ih (i+1) _ _ (by omega) hlt z
 exact key _ 0 [] Γ rfl (yo _) h
instance {g:Int->Int->D}:MR2 (zpb g):=⟨fun _ _ _ _ h ⟨i,j,a,b,q⟩=>⟨i,j,a,b,h _ q⟩⟩
instance {C:Int->Int->Prop} {g:Int->Int->D}:MR2 (rI' C g):=⟨fun _ _ _ _ h ⟨i,j,a,b,c,q⟩=>⟨i,j,a,b,c,h _ q⟩⟩
instance:MR2 ziE:=⟨fun _ _ _ _ h ⟨i,j,a,b,c,q⟩=>⟨i,j,a,b,c,h _ q⟩⟩
instance:MR2 zgK:=⟨fun _ _ _ _ h q=>by
 rcases q with ⟨i,j,a,b,q⟩ | q
 ·exact .inl ⟨i,j,a,b,h _ q⟩
 ·exact .inr (MR2.mono (r:=ziE) _ _ _ _ h q)⟩
instance {neg:Bool}:MR2 (znI neg):=⟨fun _ _ _ _ h ⟨c,l,a,b,q⟩=>⟨c,l,a,b,h _ q⟩⟩
instance {neg:Bool}:MR2 (znJ neg):=⟨fun _ _ _ _ h ⟨i,c,l,a,b,q⟩=>⟨i,c,l,a,b,h _ q⟩⟩
instance:MR2 zgH:=⟨fun _ _ _ _ h q=>by
 rcases q with q | q
 ·exact .inl (MR2.mono (r:=znI true) _ _ _ _ h q)
 ·exact .inr (MR2.mono (r:=znJ true) _ _ _ _ h q)⟩
instance:MR2 zmV:=⟨fun _ _ _ _ h ⟨i,e,q⟩=>⟨i,e,by
 rcases q with ⟨ds,d,a,b,q⟩ | ⟨ds,d,a,b,q⟩ | ⟨l,c,a,b,e,q⟩
 ·exact .inl ⟨ds,d,a,b,h _ q⟩
 ·exact .inr (.inl ⟨ds,d,a,b,h _ q⟩)
 ·exact .inr (.inr ⟨l,c,a,b,e,h _ q⟩)⟩⟩
instance:MRS zlr:=⟨fun _ _ _ _ _ h q=>by
 rcases q with ⟨l,a,b,q⟩ | ⟨l,a,q⟩
 ·refine .inl ⟨l,a,b,?_⟩
  rcases q with ⟨c,n,d,e,q⟩ | ⟨c,n,d,e,q⟩
  ·exact .inl ⟨c,n,d,e,h _ q⟩
  ·exact .inr ⟨c,n,d,e,h _ q⟩
 ·exact .inr ⟨l,a,h _ q⟩⟩
instance:MRC zfX:=⟨fun _ _ _ h ⟨d,e,q⟩=>⟨d,e,by
 rcases q with ⟨l,a,b,q⟩ | ⟨l,a,q⟩ | ⟨l,a,q⟩
 ·exact .inl ⟨l,a,b,h _ q⟩
 ·exact .inr (.inl ⟨l,a,h _ q⟩)
 ·exact .inr (.inr ⟨l,a,h _ q⟩)⟩⟩
def ziq:Sp':=fun ds Q=>∃ ns:List Int,ds=[.lst (ns.map .int)]/\ns.length<=63/\Q (.val (.bl true))
theorem zjY {K:W.Frag} {H:Hp}:∀ ns:List Int,zbC K H (ns.map V.int) (ns.map D.int)
 | []=>.nil
 | n :: ns=>.cons (.int n) (zjY ns)
theorem znp (K:W.Frag) (H:Hp) (a:Addr) (ns:List Int) (hl:ns.length<=63) (hO:zuh H) (hS:SqL K H a (ns.map V.int)):zno K ziq [.ref a] H (fun v _=>v=.bl true) (fun _ _ _=>False):=by
 refine ⟨H,[.lst (ns.map .int)],fun r=>r=.val (.bl true),⟨zaS.refl _,fun b xs q=>q⟩,.cons (Den.mkL hS (zjY ns)) .nil,⟨ns,rfl,hl,rfl⟩,?_⟩
 rintro Hi' H' v r ex ro rfl
 exact Den.blI ro
theorem zta {P:Program} {w:World} {K:W.Frag} {mg:Str->Option Value} {k:Nat} {fa:Addr} {oc:Value} {od:Option Addr} {fd:FuncData} {sl:Array (Option Value)} {ps:List Str}
  (hfa:mg "law"=some (.ref fa)) (lk:K.lookup fa=some ⟨oc,od,.func fd,sl⟩) (base:Heap) (G:Fn P w K mg base k "law" ps ziq):FnOk P w K mg base CX0 k fa fd ps (zno K ziq):=by
 obtain ⟨f,fd',F,_,_,m,oc',od',sl',lk'⟩:=G.ex; rw [hfa] at m; cases m; rw [lk] at lk'; cases lk'; exact F
theorem walk_law {l:W.OpenLaw} {k:Nat} {q:Program} {loose:List Str} {XP:(Str->Option Value)->Heap->Prop} {YP:World->Heap->Prop} {d:DefRec} {K:Params->W.Frag} {x:Str} (hn:l.most=some 63) (hdf:d.params.defaults=[]) (hr:Room k callerA)
  (hY:∀ (w:World) (h:Heap),YP w h->(K w.params).In h)
  (F:∀ (w:World) (mg:Str->Option Value) (fa:Addr) (h:Heap),(K w.params).In h->h.Ns mainGlobals mg->mg d.name=some (.ref fa) ->
   ∃ fd:FuncData,(∀ (s:Shared) (u:Value),BindsTo s fd ⟨[u],[]⟩ [(x,u)])/\∀ base:Heap,(K w.params).In base->base.Ns mainGlobals mg->FnOk l.prog w (K w.params) mg base CX0 k fa fd [x] (zno (K w.params) ziq)) :
  W.WalkO q loose XP YP l.row.toRowW d [] (fun f vs=>PySem.call f vs) :=
 L2.walk_of (n:=63) (k:=k) (x:=x) (CX:=fun _=>CX0) (sp:=fun w=>zno (K w.params) ziq) hn (by decide) hdf hr hY F (fun _ _ a ns hl hO hS=>znp _ _ a ns hl hO hS) fun _ _ _ _ _ z=>z
end PL
namespace L2
open PySem PySem.Spec PyProof.Rows
section
variable {X:Cx}
theorem zqT:OpR X (binaryOp .Add) (fun x y H Q=>∃ a b xs ys,x=.ref a/\y=.ref b/\SqT X.K H a xs/\SqT X.K H b ys/\xs.length+ys.length<=sizeLine/\(xs=[]->Q (.ref b) H)/\(xs≠[]->ys=[]->Q (.ref a) H) /\
  (xs≠[]->ys≠[]->∀ p,H p=none->Q (.ref p) (upd H p (.tup (xs ++ ys))))):=by
 intro pins s σ H x y v u Q I rx ry h; obtain ⟨a,b,xs,ys,rfl,rfl,ha,hb,hz,q0,q1,q2⟩:=h
 by_cases hx:xs=[]
 ·cases rx
  cases ry; obtain ⟨its,r1,p1,_⟩:=I.tuple ha; obtain ⟨its2,r2,p2,_⟩:=I.tuple hb
  obtain ⟨⟨cls,dd,data,sl⟩,ho,hc,n,hd⟩:=id p1
  obtain ⟨⟨cls2,dd2,data2,sl2⟩,ho2,hc2,n2,hd2⟩:=id p2
  simp only at hc hd hc2 hd2
  subst hc hd hc2 hd2
  have hi:its=[]:=r1.nil_iff.mpr hx
  refine concat_meets ⟨_,ho,rfl⟩ ⟨_,ho2,rfl⟩ noFill_tuple_add seq_tuple_add PySem.F.slot_tuple_add PySem.F.entry_tuple_add (PySem.F.args_tuple_add_2 _ _)
   (tuple_addW0 a b its.toArray its2.toArray n n2 dd dd2 sl sl2 (by simp [hi])) ⟨ho,ho2,?_⟩
  exact ⟨.ref b,H,I,rfl,q0 hx⟩
 ·exact zqR pins s σ H _ _ v u Q I rx ry ⟨a,b,xs,ys,rfl,rfl,ha,hb,hx,hz,q1 hx,q2 hx⟩
end
end L2
namespace HT
open PySem PyProof.Rows
section
variable {prog:Program} {w:World} {A:Around} {E:Value->Shared->Prop} {s:Shared}
theorem getItem_tuple_whole {t sl:Addr} {items:Array Value} {vl vu:Value} {lo hi:Option Int} {Q:Value->Shared->Prop} (ht:IsTup s.heap t items) (hs:s.heap.IsSliceOf sl vl vu .none) (pl:IsPart vl lo) (pu:IsPart vu hi)
  (hw:sIx items.size 0 lo=0/\sIx items.size items.size hi=items.size) (h:Q (.ref t) s):wpAny (model prog w) A (getItem (.ref t) (.ref sl)) Q E s:=by
 obtain ⟨os,hos,hcs,hds⟩:=id hs
 have hTs:s.TypeIs (.ref sl) "slice":=⟨os,hos,hcs⟩
 unfold getItem
 try with_reducible refine YW ?_
 first | refine yA (yE ?_) | skip
 refine yA (wpAny_sequenceKey ht.typeIs (by decide) ?_)
 refine yA (wpAny_callSpecial?_slot (name:=Str.ofString "__getitem__") ht.typeIs JC
  (YJ JC ht.typeIs entry_tuple_getitem ?_ (args_tuple_getitem _ _)))
 show wpAny _ _ (Builtin.Tuple.tupleItemsOf (.ref t) >>= _) _ _ s
 refine yA (tupleItemsOf_ ht ?_); refine yA (wpAny_typeOf hTs ?_)
 rw [yS (by decide)]
 refine yA (zcT hs pl pu ?_)
 have hyes:((((sIx items.size 0 lo:Nat):Int) == 0 && (1:Int) == 1 && (sIx items.size items.size hi-sIx items.size 0 lo) == items.size)=true):=by
  rw [hw.1,hw.2]; simp
 show wpAny _ _ (if (((sIx items.size 0 lo:Nat):Int) == 0 && (1:Int) == 1 && (sIx items.size items.size hi-sIx items.size 0 lo) == items.size)=true then _ else _) _ _ s
 rw [yS hyes]; refine yA (m:=Builtin.Tuple.tupleIsExact (.ref t)) ?_; unfold Builtin.Tuple.tupleIsExact; refine yA (wpAny_typeOf ht.typeIs ?_); refine yE ?_
 rw [yS (by decide)]
 exact yA (wpAny_rule (yE ⟨_,rfl,yE h⟩))
end
end HT
namespace L2
open PySem PySem.Spec PyProof.Rows
section
variable {X:Cx}
theorem zp6:SlR X (fun x lo hi H Q=>∃ a xs,x=.ref a/\SqT X.K H a xs/\((HT.sIx xs.length 0 lo=0/\HT.sIx xs.length xs.length hi=xs.length)->Q (.ref a) H) /\
  (¬ (HT.sIx xs.length 0 lo=0/\HT.sIx xs.length xs.length hi=xs.length)->∀ p,H p=none->Q (.ref p) (upd H p (.tup (zmB xs lo hi))))):=by
 intro pins s σ H x v vl vu lo hi sl Q I rx hs pl pu h; obtain ⟨a,xs,rfl,hx,q1,q2⟩:=h
 by_cases hw:HT.sIx xs.length 0 lo=0/\HT.sIx xs.length xs.length hi=xs.length
 ·cases rx
  obtain ⟨its,r,ht,hz⟩:=I.tuple hx
  have hlen:its.toArray.size=xs.length:=by rw [yO]; exact r.length.symm
  refine ⟨"tuple",_,PyProof.Rows.slot_tuple_getitem.lookup,ht.typeIs,?_⟩
  exact HT.getItem_tuple_whole ht hs pl pu (by rw [hlen]; exact hw) ⟨.ref a,H,I,rfl,q1 hw⟩
 ·exact zsb pins s σ H _ v vl vu lo hi sl Q I rx hs pl pu ⟨a,xs,rfl,hx,hw,q2 hw⟩
end
end L2
namespace PL
open PySem L2
section
variable {X:Cx} {K:W.Frag}
def ziD:R2':=fun x y Q=>∃ xs ys,x=.tup xs/\y=.tup ys/\xs.length+ys.length<=sizeLine/\Q (.tup (xs ++ ys))
theorem zs1:Op2 X (binaryOp .Add) ziD:=⟨_,zqT,by
 rintro Hi H x y dx dy Q Q2 s d1 d2 ⟨xs,ys,rfl,rfl,hl,q⟩ fin
 obtain ⟨a,vs,rfl,h1,h2⟩:=d1.tupI; obtain ⟨b,us,rfl,h3,h4⟩:=d2.tupI
 refine ⟨a,b,vs,us,rfl,rfl,zaN s.sub h1,zaN s.sub h3,by rw [zk h2,zk h4]; exact hl,fun e=>?_,fun _ e=>?_,fun _ _ p hp=>?_⟩
 ·subst e
  cases h2; exact fin Hi H _ _ (Ext.refl s) d2 q
 ·subst e
  cases h4; rw [YG] at q; exact fin Hi H _ _ (Ext.refl s) d1 q
 ·have e:=Ext.new s hp (.tup (vs ++ us))
  exact fin _ _ _ _ e (Den.mkT zv (paired_app (h2.mono e.hi) (h4.mono e.hi))) q⟩
theorem zuG:Sli X zhB:=⟨_,zp6,by
 rintro Hi H x dx lo hi Q Q2 s d1 ⟨ds,rfl,q⟩ fin
 obtain ⟨a,vs,rfl,h1,h2⟩:=d1.tupI; have hl:=zk h2
 refine ⟨a,vs,rfl,zaN s.sub h1,fun hw=>?_,fun _ p hp=>?_⟩
 ·have e:zcW ds lo hi=ds:=by
   unfold zcW; rw [<- hl,hw.1,hw.2,List.drop_zero,Nat.sub_zero,hl,List.take_length]
  rw [e] at q; exact fin Hi H _ _ (Ext.refl s) d1 q
 ·have e:=Ext.new s hp (.tup (zmB vs lo hi))
  exact fin _ _ _ _ e (Den.mkT zv (zmA (h2.mono e.hi))) q⟩
def eqL (f:D->D->Option Bool):List D->List D->Option Bool
 | x :: xs,y :: ys=>match f x y,eqL f xs ys with
  | some a,some b=>some (a && b)
  | _,_=>none
 | [],[]=>some true
 | _,_=>some false
def eqD:Nat->D->D->Option Bool
 | n+1,.tup xs,.tup ys=>eqL (eqD n) xs ys
 | n+1,.lst xs,.lst ys=>if xs.length=ys.length then eqL (eqD n) xs ys else some false
 | _,x,y=>eqS x y
theorem zrw {x y:V} {dx dy:D} {b:Bool} {Hi:Hp} (d1:Den K Hi x dx) (d2:Den K Hi y dy) (h:eqS dx dy=some b):zfL x=true/\zfL y=true/\eqV x y=b:=by
  have s1:=d1.scl (zep h); have s2:=d2.scl (zep (zml _ _ h).choose_spec)
  cases s1 <;> rename_i e1 <;> subst e1 <;> cases s2 <;> rename_i e2 <;> subst e2 <;> first
    | (exact yM (show (none:Option Bool)=some b from h) (fun z=>nomatch z))
    | (refine ⟨rfl,rfl,?_⟩
       have h':=Option.some.inj h
       subst h'
       first
         | rfl
         | (show ((_:Int) == _)=decide _; rw [Bool.beq_eq_decide_eq])
         | (show ((_:Bool) == _)=decide _; rw [Bool.beq_eq_decide_eq])
         | (show ((_:Str) == _)=decide _
            rw [Bool.beq_eq_decide_eq]
            exact decide_eq_decide.mpr ⟨fun z=>st_inj z,fun z=>yp st z⟩))
theorem ze3 {x:V} {dx dy:D} {b:Bool} {Hi:Hp} (d1:Den K Hi x dx) (d2:Den K Hi x dy) (h:eqS dx dy=some b):b=true:=by
 obtain ⟨f1,f2,e⟩:=zrw d1 d2 h; rw [<- e]
 cases x <;> first | rfl | (exact yM (show false=true from f1) yP) | (show ((_:_) == _)=true; exact beq_self_eq_true _)
theorem zeq {f:D->D->Option Bool} {Hi:Hp} (hf:∀ v x y b,Den K Hi v x->Den K Hi v y->f x y=some b->b=true):∀ {vs:List V} {xs ys:List D} {b:Bool},zbC K Hi vs xs->zbC K Hi vs ys->eqL f xs ys=some b->b=true
 | [],_,_,b,.nil,.nil,h=>(Option.some.inj h).symm
 | v :: vs,x :: xs,y :: ys,b,.cons r1 t1,.cons r2 t2,h=>by
  unfold eqL at h
  cases e1:f x y with
  | none=>rw [e1] at h; cases h
  | some a =>
   cases e2:eqL f xs ys with
   | none=>rw [e1,e2] at h; cases h
   | some c =>
    rw [e1,e2] at h; rw [<- Option.some.inj h,hf v x y a r1 r2 e1,zeq hf t1 t2 e2]; rfl
theorem ze4 (x y:D):eqD 0 x y=eqS x y:=by cases x <;> cases y <;> rfl
section
variable {pins:List (Addr × Obj)} {σ:St} {H Hi:Hp} {s:Shared}
theorem zjU (I:L2.Inv X pins σ H s) (sub:zaS Hi H):∀ (n:Nat) (v:V) (x y:D) (b:Bool),Den X.K Hi v x->Den X.K Hi v y->eqD n x y=some b->b=true:=by
 intro n
 induction n with
 | zero =>
  intro v x y b d1 d2 h; rw [ze4] at h; exact ze3 d1 d2 h
 | succ n ih =>
  intro v x y b d1 d2 h
  cases x with
  | tup xs =>
   cases y with
   | tup ys =>
    obtain ⟨a,vs,rfl,h1,h2⟩:=d1.tupI; obtain ⟨a',us,e,h3,h4⟩:=d2.tupI; cases e; have e:=I.tuple_inj (zaN sub h1) (zaN sub h3); subst e; exact zeq ih h2 h4 h
   | _=>exact ze3 d1 d2 h
  | lst xs =>
   cases y with
   | lst ys =>
    obtain ⟨a,vs,rfl,h1,h2⟩:=d1.lstI; obtain ⟨a',us,e,h3,h4⟩:=d2.lstI; cases e; have e:=I.list_inj (zak sub h1) (zak sub h3); subst e
    have hl:xs.length=ys.length:=by rw [<- zk h2,<- zk h4]
    unfold eqD at h; rw [yS hl] at h; exact zeq ih h2 h4 h
   | _=>exact ze3 d1 d2 h
  | _=>exact ze3 d1 d2 h
theorem zdh {f:D->D->Option Bool}:∀ {xs ys:List D} {b:Bool},eqL f xs ys=some b->∃ e:Nat->Bool,(∀ (j:Nat) x y,xs[j]?=some x->ys[j]?=some y->f x y=some (e j))/\b=((List.range (min xs.length ys.length)).all e && xs.length == ys.length)
 | [],[],b,h=>⟨fun _=>true,fun j x y h1 _=>by simp at h1,by simpa [eqL] using h.symm⟩
 | [],y :: ys,b,h=>⟨fun _=>true,fun j x y h1 _=>by simp at h1,by simpa [eqL] using h.symm⟩
 | x :: xs,[],b,h=>⟨fun _=>true,fun j x y _ h2=>by simp at h2,by simpa [eqL] using h.symm⟩
 | x :: xs,y :: ys,b,h=>by
  unfold eqL at h
  cases e1:f x y with
  | none=>rw [e1] at h; cases h
  | some a =>
   cases e2:eqL f xs ys with
   | none=>rw [e1,e2] at h; cases h
   | some c =>
    rw [e1,e2] at h; obtain ⟨e,h1,h2⟩:=zdh e2
    refine ⟨fun j=>match j with | 0=>a | j+1=>e j,fun j x' y' hx hy=>?_,?_⟩
    ·cases j with
     | zero=>simp at hx hy; subst hx; subst hy; exact e1
     | succ j=>exact h1 j x' y' (by simpa using hx) (by simpa using hy)
    ·rw [<- Option.some.inj h,h2]
     have hm:min (x :: xs).length (y :: ys).length=min xs.length ys.length+1:=by simp [Nat.succ_min_succ]
     rw [hm,List.range_succ_eq_map,List.all_cons,List.all_map]
     show (a && ((List.range (min xs.length ys.length)).all e && xs.length == ys.length))=((a && (List.range (min xs.length ys.length)).all e) && (x :: xs).length == (y :: ys).length)
     rw [Bool.and_assoc]
     congr 2
     simp
theorem ztq (I:L2.Inv X pins σ H s) (sub:zaS Hi H):∀ (n:Nat) (A:Around) (x y:V) (u v:Value) (dx dy:D) (b:Bool),A.units+n<cLine->Den X.K Hi x dx->Den X.K Hi y dy->zbo x u->zbo y v->eqD n dx dy=some b->SeqAt.EqAt A s u v b:=by
 intro n
 induction n with
 | zero =>
  intro A x y u v dx dy b hu d1 d2 rx ry h; rw [ze4] at h; obtain ⟨f1,f2,e⟩:=zrw d1 d2 h; rw [<- e]; exact zmn rx ry f1 f2
 | succ n ih =>
  intro A x y u v dx dy b hu d1 d2 rx ry h
  have zp9:eqS dx dy=some b->SeqAt.EqAt A s u v b:=fun h=>by
   obtain ⟨f1,f2,e⟩:=zrw d1 d2 h; rw [<- e]; exact zmn rx ry f1 f2
  have items:∀ {vs ws:List V} {its jts:List Value} {xs ys:List D} {e:Nat->Bool},zbC X.K Hi vs xs->zbC X.K Hi ws ys->za7 vs its->za7 ws jts->(∀ (j:Nat) x y,xs[j]?=some x->ys[j]?=some y->eqD n x y=some (e j)) ->
    ∀ j (h1:j<its.toArray.size) (h2:j<jts.toArray.size),SeqAt.EqAt A.in1 s its.toArray[j] jts.toArray[j] (e j):=fun {vs ws its jts xs ys e} r1 r2 v1 v2 he j h1 h2=>by
   have l1:j<vs.length:=by rw [v1.length]; simpa using h1
   have l2:j<ws.length:=by rw [v2.length]; simpa using h2
   obtain ⟨dx',e1,q1⟩:=zcP r1 (yC l1); obtain ⟨dy',e2,q2⟩:=zcP r2 (yC l2); obtain ⟨u1,e3,q3⟩:=v1.get (yC l1); obtain ⟨u2,e4,q4⟩:=v2.get (yC l2)
   have z1:its.toArray[j]=u1:=by
    have:=yF.mp e3
    obtain ⟨_,z⟩:=this
    simpa using z
   have z2:jts.toArray[j]=u2:=by
    have:=yF.mp e4
    obtain ⟨_,z⟩:=this
    simpa using z
   rw [z1,z2]
   exact ih A.in1 _ _ u1 u2 dx' dy' (e j) (by show A.units+1+n<cLine; omega) q1 q2 q3 q4 (he j dx' dy' e1 e2)
  cases dx with
  | tup xs =>
   cases dy with
   | tup ys =>
    obtain ⟨a,vs,rfl,h1,h2⟩:=d1.tupI; obtain ⟨c,ws,rfl,h3,h4⟩:=d2.tupI; cases rx; cases ry
    by_cases hac:a=c
    ·subst hac
     have e:=I.tuple_inj (zaN sub h1) (zaN sub h3); subst e; rw [zeq (zjU I sub n) h2 h4 h]; exact SeqAt.EqAt.same _
    ·obtain ⟨its,r1,p1,_⟩:=I.tuple (zaN sub h1)
     obtain ⟨jts,r2,p2,_⟩:=I.tuple (zaN sub h3); obtain ⟨e,he,hb⟩:=zdh h
     have lx:xs.length=its.length:=by rw [<- zk h2,r1.length]
     have ly:ys.length=jts.length:=by rw [<- zk h4,r2.length]
     have hb':b=((List.range (min its.toArray.size jts.toArray.size)).all e && its.toArray.size == jts.toArray.size):=by
      rw [hb,lx,ly]; simp
     rw [hb']
     exact SeqAt.EqAt.of_refs hac (SeqAt.RcAt.tuples (show s.heap.IsTuple a its.toArray from p1) (show s.heap.IsTuple c jts.toArray from p2) (by omega) (items h2 h4 r1 r2 he))
   | _=>exact zp9 h
  | lst xs =>
   cases dy with
   | lst ys =>
    obtain ⟨a,vs,rfl,h1,h2⟩:=d1.lstI; obtain ⟨c,ws,rfl,h3,h4⟩:=d2.lstI; cases rx; cases ry; unfold eqD at h
    by_cases hac:a=c
    ·subst hac
     have e:=I.list_inj (zak sub h1) (zak sub h3); subst e
     have hl:xs.length=ys.length:=by rw [<- zk h2,<- zk h4]
     rw [yS hl] at h; rw [zeq (zjU I sub n) h2 h4 h]; exact SeqAt.EqAt.same _
    ·obtain ⟨its,r1,p1,_⟩:=I.list (zak sub h1)
     obtain ⟨jts,r2,p2,_⟩:=I.list (zak sub h3)
     have lx:xs.length=its.length:=by rw [<- zk h2,r1.length]
     have ly:ys.length=jts.length:=by rw [<- zk h4,r2.length]
     by_cases hl:xs.length=ys.length
     ·rw [yS hl] at h
      obtain ⟨e,he,hb⟩:=zdh h
      have hs:its.toArray.size=jts.toArray.size:=by simp; omega
      have hb':b=((List.range its.toArray.size).all e):=by
       rw [hb,lx,ly]
       have z:(its.length == jts.length)=true:=by simp; omega
       have z2:min its.length jts.length=its.length:=by omega
       rw [z,z2,Bool.and_true]; simp
      rw [hb']
      exact SeqAt.EqAt.of_refs hac (SeqAt.RcAt.lists p1.isList p2.isList hs (by omega) (items h2 h4 r1 r2 he))
     ·rw [yQ hl] at h
      cases h
      exact SeqAt.EqAt.of_refs hac (SeqAt.RcAt.lists_lengths p1.isList p2.isList (by simp; omega) (by omega))
   | _=>exact zp9 h
  | _=>exact zp9 h
end
section
variable {pins:List (Addr × Obj)} {σ:St} {H Hi:Hp} {s:Shared}
theorem zjR (I:L2.Inv X pins σ H s) (sub:zaS Hi H) {n:Nat} {A:Around} (hu:A.units+1+n<cLine) {vs ws:List V} {its jts:List Value} {xs ys:List D} {e:Nat->Bool} (r1:zbC X.K Hi vs xs) (r2:zbC X.K Hi ws ys) (v1:za7 vs its) (v2:za7 ws jts) (he:∀ (j:Nat) x y,xs[j]?=some x->ys[j]?=some y->eqD n x y=some (e j)) :
  ∀ j (h1:j<its.toArray.size) (h2:j<jts.toArray.size),SeqAt.EqAt A.in1 s its.toArray[j] jts.toArray[j] (e j):=fun j h1 h2=>by
 have l1:j<vs.length:=by rw [v1.length]; simpa using h1
 have l2:j<ws.length:=by rw [v2.length]; simpa using h2
 obtain ⟨dx',e1,q1⟩:=zcP r1 (yC l1); obtain ⟨dy',e2,q2⟩:=zcP r2 (yC l2); obtain ⟨u1,e3,q3⟩:=v1.get (yC l1); obtain ⟨u2,e4,q4⟩:=v2.get (yC l2)
 have z1:its.toArray[j]=u1:=by
  obtain ⟨_,z⟩:=yF.mp e3
  simpa using z
 have z2:jts.toArray[j]=u2:=by
  obtain ⟨_,z⟩:=yF.mp e4
  simpa using z
 rw [z1,z2]
 exact ztq I sub n A.in1 _ _ u1 u2 dx' dy' (e j) (by show A.units+1+n<cLine; omega) q1 q2 q3 q4 (he j dx' dy' e1 e2)
theorem zvP (I:L2.Inv X pins σ H s) (sub:zaS Hi H) {n:Nat} {A:Around} {x y:V} {u v:Value} {dx dy:D} {b:Bool} (hu:A.units+n<cLine) (d1:Den X.K Hi x dx) (d2:Den X.K Hi y dy) (rx:zbo x u) (ry:zbo y v) (h:eqD n dx dy=some b) (hn:eqS dx dy=none) :
  SeqAt.RcAt A s u v b/\SeqAt.RcNeAt A s u v (!b):=by
 cases n with
 | zero=>rw [ze4,hn] at h; cases h
 | succ n =>
  cases dx with
  | tup xs =>
   cases dy with
   | tup ys =>
    obtain ⟨a,vs,rfl,h1,h2⟩:=d1.tupI; obtain ⟨c,ws,rfl,h3,h4⟩:=d2.tupI; cases rx; cases ry; obtain ⟨its,r1,p1,_⟩:=I.tuple (zaN sub h1); obtain ⟨jts,r2,p2,_⟩:=I.tuple (zaN sub h3); obtain ⟨e,he,hb⟩:=zdh h
    have lx:xs.length=its.length:=by rw [<- zk h2,r1.length]
    have ly:ys.length=jts.length:=by rw [<- zk h4,r2.length]
    have hb':b=((List.range (min its.toArray.size jts.toArray.size)).all e && its.toArray.size == jts.toArray.size):=by
     rw [hb,lx,ly]; simp
    have hi:=zjR (A:=A) I sub (by omega) h2 h4 r1 r2 he
    rw [hb']
    exact ⟨SeqAt.RcAt.tuples (show s.heap.IsTuple a its.toArray from p1) (show s.heap.IsTuple c jts.toArray from p2) (by omega) hi,SeqAt.RcNeAt.tuples (show s.heap.IsTuple a its.toArray from p1) (show s.heap.IsTuple c jts.toArray from p2) (by omega) hi⟩
   | _=>exact yM (hn.symm.trans h) (fun z=>nomatch z)
  | lst xs =>
   cases dy with
   | lst ys =>
    obtain ⟨a,vs,rfl,h1,h2⟩:=d1.lstI; obtain ⟨c,ws,rfl,h3,h4⟩:=d2.lstI; cases rx; cases ry; unfold eqD at h; obtain ⟨its,r1,p1,_⟩:=I.list (zak sub h1); obtain ⟨jts,r2,p2,_⟩:=I.list (zak sub h3)
    have lx:xs.length=its.length:=by rw [<- zk h2,r1.length]
    have ly:ys.length=jts.length:=by rw [<- zk h4,r2.length]
    by_cases hl:xs.length=ys.length
    ·rw [yS hl] at h
     obtain ⟨e,he,hb⟩:=zdh h
     have hs:its.toArray.size=jts.toArray.size:=by simp; omega
     have hb':b=((List.range its.toArray.size).all e):=by
      rw [hb,lx,ly]
      have z:(its.length == jts.length)=true:=by simp; omega
      have z2:min its.length jts.length=its.length:=by omega
      rw [z,z2,Bool.and_true]; simp
     have hi:=zjR (A:=A) I sub (by omega) h2 h4 r1 r2 he
     rw [hb']
     exact ⟨SeqAt.RcAt.lists p1.isList p2.isList hs (by omega) hi,SeqAt.RcNeAt.lists p1.isList p2.isList hs (by omega) hi⟩
    ·rw [yQ hl] at h
     cases h
     exact ⟨SeqAt.RcAt.lists_lengths p1.isList p2.isList (by simp; omega) (by omega),SeqAt.RcNeAt.lists_lengths p1.isList p2.isList (by simp; omega) (by omega)⟩
   | _=>exact yM (hn.symm.trans h) (fun z=>nomatch z)
  | _=>exact yM (hn.symm.trans h) (fun z=>nomatch z)
end
def znK:R2':=fun x y Q=>∃ b,eqD 100 x y=some b/\Q (.bl b)
def zrN:R2':=fun x y Q=>∃ b,eqD 100 x y=some b/\Q (.bl (!b))
theorem zjT {n:Nat} {x y:D} {b c:Bool} (h:eqD n x y=some b) (e:eqS x y=some c):b=c:=by
 cases n with
 | zero=>rw [ze4,e] at h; exact (Option.some.inj h).symm
 | succ n =>
  have z:eqD (n+1) x y=eqS x y:=by
   cases x <;> first | rfl | (cases y <;> first | rfl | (exact yM (show (none:Option Bool)=some c from e) (fun z=>nomatch z)))
  rw [z,e] at h; exact (Option.some.inj h).symm
theorem zek (hu:X.A.units+100<cLine):Op2 X (compareOp .Eq) znK:=by
 refine ⟨fun x y H Q=>∃ Hi dx dy b,zaS Hi H/\Den X.K Hi x dx/\Den X.K Hi y dy/\eqD 100 dx dy=some b/\Q (.bl b) H,?_,?_⟩
 ·intro pins s σ H x y v u Q I rx ry h
  obtain ⟨Hi,dx,dy,b,sub,d1,d2,e,q⟩:=h
  cases hn:eqS dx dy with
  | some c =>
   obtain ⟨h1,h2⟩:=zpD d1 d2 hn; refine zu6 pins s σ H x y v u Q I rx ry ⟨h1,?_⟩; rw [h2,<- zjT e hn]; exact q
  | none=>exact (zvP I sub hu d1 d2 rx ry e hn).1 X.prog X.w X.xe _ ⟨.bl b,H,I,rfl,q⟩
 ·rintro Hi H x y dx dy Q Q2 s d1 d2 ⟨b,e,q⟩ fin
  exact ⟨Hi,dx,dy,b,s.sub,d1,d2,e,fin Hi H _ _ (Ext.refl s) (.bl b) q⟩
theorem zqW (hu:X.A.units+100<cLine):Op2 X (compareOp .NotEq) zrN:=by
 refine ⟨fun x y H Q=>∃ Hi dx dy b,zaS Hi H/\Den X.K Hi x dx/\Den X.K Hi y dy/\eqD 100 dx dy=some b/\Q (.bl (!b)) H,?_,?_⟩
 ·intro pins s σ H x y v u Q I rx ry h
  obtain ⟨Hi,dx,dy,b,sub,d1,d2,e,q⟩:=h
  cases hn:eqS dx dy with
  | some c =>
   obtain ⟨h1,h2⟩:=zpD d1 d2 hn; refine zu2 pins s σ H x y v u Q I rx ry ⟨h1,?_⟩; rw [h2,<- zjT e hn]; exact q
  | none=>exact (zvP I sub hu d1 d2 rx ry e hn).2 X.prog X.w X.xe _ ⟨.bl (!b),H,I,rfl,q⟩
 ·rintro Hi H x y dx dy Q Q2 s d1 d2 ⟨b,e,q⟩ fin
  exact ⟨Hi,dx,dy,b,s.sub,d1,d2,e,fin Hi H _ _ (Ext.refl s) (.bl (!b)) q⟩
instance:MR2 znK:=⟨fun _ _ _ _ h ⟨b,e,q⟩=>⟨b,e,h _ q⟩⟩
@[simp] theorem zvt (n:Nat) (i j:Int):eqD n (.int i) (.int j)=some (decide (i=j)):=by cases n <;> rfl
@[simp] theorem zrx (n:Nat) (i j:List Nat):eqD n (.str i) (.str j)=some (decide (i=j)):=by cases n <;> rfl
@[simp] theorem zt9 {Q:D->Prop} (i j:Int):znK (.int i) (.int j) Q↔Q (.bl (decide (i=j))):=by simp [znK]
@[simp] theorem zt7 {Q:D->Prop} (i j:List Nat):znK (.str i) (.str j) Q↔Q (.bl (decide (i=j))):=by simp [znK]
@[simp] theorem znC {Q:D->Prop} (i j:List Nat):zrN (.str i) (.str j) Q↔Q (.bl (!decide (i=j))):=by simp [zrN]
def plc (p:List (List Nat)):D:=.tup (p.map .str)
theorem zjS (f:D->D->Option Bool) (hf:∀ i j:List Nat,f (.str i) (.str j)=some (decide (i=j))):∀ p q:List (List Nat),eqL f (p.map .str) (q.map .str)=some (decide (p=q))
 | [],[]=>rfl
 | [],_ :: _=>by simp [eqL]
 | _ :: _,[]=>by simp [eqL]
 | a :: p,b :: q=>by
  simp only [yZ,eqL,hf,zjS f hf p q]
  by_cases h1:a=b <;> by_cases h2:p=q <;> simp [h1,h2]
theorem zmm (n:Nat) (p q:List (List Nat)):eqD (n+1) (plc p) (plc q)=some (decide (p=q)):=zjS _ (fun i j=>zrx n i j) p q
@[simp] theorem zt8 {Q:D->Prop} (p q:List (List Nat)):znK (plc p) (plc q) Q↔Q (.bl (decide (p=q))):=by
 unfold znK; rw [zmm]; simp
@[simp] theorem ztW {Q:D->Prop} (p q:List (List Nat)):zrN (plc p) (plc q) Q↔Q (.bl (!decide (p=q))):=by
 unfold zrN; rw [zmm]; simp
end
section
variable {K:W.Frag} {n:Nat} {W:Wd} {Hi Hi' H H':Hp} {Γ:Sts} {σ:St} {a:Addr} {o:OD}
theorem zil {i:Nat} (h:i<n) (e:adr n W σ i=some a):σ[i]?=some (some (.ref a)):=by
 unfold adr at e; rw [yS h] at e; exact zge e
end
section
variable {X:Cx}
def zau (i:Nat) (te:TE'):TS':=fun N Γ=>(∃ ds0,Γ[i]?=some (.own (.lst ds0)))/\te Γ fun d Γ1=>∃ ds,Γ1[i]?=some (.own (.lst ds))/\ds.length<sizeLine/\N.nx (Γ1.set i (.own (.lst (ds ++ [d]))))
theorem zeF (i:Nat) {x:Str} {e:Expr} {te:TE'} {pos p apos cpos:Pos} (he:PE' X e te) (hN:X.N[i]?=some x:=by rfl) (hv:Vis X.env.scope x:=by first | exact Or.inl rfl | exact Or.inr (Or.inl rfl) | exact Or.inr (Or.inr rfl)) (hd:(x == ("__debug__":Str))=false:=by decide)
  (hcd:(x == ("__classdict__":Str))=false:=by decide) (hst:zeS e=false:=by rfl)
  (hbase:attributeBase (.Name x p) "append" X.env (eval (.Name x p) X.env)=eval (.Name x p) X.env:=by rfl) (hline:(apos.endLine == cpos.line)=true:=by rfl)
  (hs:swapsWith (.Call (.Attribute (.Name x p) "append" apos) [e] [] cpos) none pos.line X.env=pure false:=by rfl) :
  PS' X (.Expr (.Call (.Attribute (.Name x p) "append" apos) [e] [] cpos) pos) (zau i te):=by
 have pl:zc7 [e]=true:=by unfold zc7; rw [hst]; rfl
 have hfew:((backTo cpos (starEach [e] X.env)).all (fun x=>!x.1) && (backToKw cpos (keywordEach [] X.env)).all (fun x=>x.1.isSome)
   && decide ([e].length+([]:List Keyword).length+(if ([]:List Keyword).isEmpty then 0 else 1)<30))=true:=by
  rw [zby hst]; rfl
 have base:=zlB (zqN PySem.F.plainAttrs_list PySem.F.slot_list_append PySem.F.type_list_append (zel (X:=X)) (zc8 (i:=i) (pos:=p) hN hv hd hcd) (zeH he.h zgg (zby hst)) hbase hfew hline (zby hst) rfl) hs; refine ⟨PS.weak base ?_⟩
 rintro N2 σ H ⟨W,Hi,Γ,N,g,⟨⟨ds0,e0⟩,q⟩,l⟩
 have hi:i<X.N.length:=(yF.mp hN).1
 obtain ⟨a,h1,h2,h3,vs0,h4,h5⟩:=g.own i _ e0; refine ⟨.ref a,zil hi h1,.inl ⟨rfl,vs0,SqL.of h4⟩,W,Hi,Γ,_,g,q,?_⟩
 rintro v H1 ⟨Hi1,d,Γ1,s1,g1,den,ds,e1,hl,q1⟩
 obtain ⟨a',k1,k2,k3,vs,k4,k5⟩:=g1.own i _ e1; rw [h1] at k1; cases k1
 refine ⟨a,vs,v,rfl,rfl,k4,by rw [zk k5]; exact hl,?_⟩
 exact l.nx σ _ Hi1 _ s1 (g1.put (o:=.lst (ds ++ [d])) e1 h1 ⟨vs ++ [v],zv,paired_app k5 (.cons den .nil)⟩) q1
instance {i:Nat} {te:TE'} [ME te]:MS (zau i te):=⟨fun N N' Γ h ⟨a,q⟩=>⟨a,ME.mono (t:=te) _ _ _ (fun _ _ ⟨ds,e,l,z⟩=>⟨ds,e,l,h.nx _ z⟩) q⟩⟩
end
inductive Imm:D->Prop where
 | non:Imm .non
 | bl (b:Bool):Imm (.bl b)
 | int (i:Int):Imm (.int i)
 | str (l:List Nat):Imm (.str l)
 | ty (n:String):Imm (.ty n)
 | cls (C:Addr):Imm (.cls C)
 | tup {ds:List D} (h:∀ d,d ∈ ds->Imm d):Imm (.tup ds)
theorem Imm.plc (p:List (List Nat)):Imm (plc p):=.tup fun d hd=>by
 obtain ⟨l,_,rfl⟩:=yT.mp hd; exact .str l
theorem Imm.den {K:W.Frag} {H H':Hp} {v:V} {d:D} (im:Imm d) (h:Den K H v d) (e:∀ a xs,(H a=some (.tup xs)->H' a=some (.tup xs))/\∀ o,H a=some (.frz o (.tup xs))->H' a=some (.frz o (.tup xs))):Den K H' v d:=by
 induction h with
 | non=>exact .non
 | bl b=>exact .bl b
 | int i=>exact .int i
 | str l=>exact .str l
 | ty n=>exact .ty n
 | cls C=>exact .cls C
 | tup h l r ih =>
  cases im with
  | tup hi =>
   exact .tup ((e _ _).1 h) l fun j v d h1 h2=>ih j v d h1 h2 (hi d (yb h2))
 | _=>cases im
def zbm:Slot->Slot
 | .own o=>.val o.toD
 | .val d=>.val d
 | .bk d _ xs=>.val (d xs.toD)
 | _=>.emp
section
variable {K:W.Frag} {n:Nat} {W:Wd} {Hi Hi' H H':Hp} {Γ:Sts} {σ:St} {a:Addr} {o:OD}
def zeO (n:Nat) (W:Wd) (Γ:Sts) (σ:St) (b:Addr):Prop:=(∃ (i:Nat) (o:OD),i<n/\Γ[i]?=some (.own o)/\adr n W σ i=some b)\/∃ (i:Nat) (d:D->D) (xs:OD),Γ[i]?=some (.bk d b xs)
open Classical in
noncomputable def zcj (n:Nat) (W:Wd) (Γ:Sts) (σ:St) (Hi H:Hp):Hp:=fun b=>if zeO n W Γ σ b then H b else Hi b
open Classical in
noncomputable def zdl (n:Nat) (W:Wd) (Γ:Sts) (σ:St) (Hb:Hp):Hp:=fun b=>if zeO n W Γ σ b then none else Hb b
theorem zeO.hi (g:Good K n W Hi Γ σ H) {b:Addr} (h:zeO n W Γ σ b):Hi b=none/\∃ u,H b=some u/\(∀ xs,u≠.tup xs)/\∀ o xs,u≠.frz o xs:=by
 have key:∃ o,Hi b=none/\zcC K Hi H b o:=by
  rcases h with ⟨i,o,hi,e,ad⟩ | ⟨i,d,xs,e⟩
  ·obtain ⟨a,h1,h2,h3,h4⟩:=g.own i o e
   rw [ad] at h1; cases h1; exact ⟨o,h2,h4⟩
  ·exact ⟨xs,(g.bk i d b xs e).hi,(g.bk i d b xs e).at_⟩
 obtain ⟨o,h2,h4⟩:=key; refine ⟨h2,?_⟩
 cases o with
 | lst ds=>obtain ⟨vs,q,_⟩:=h4; exact ⟨_,q,⟨fun _ z=>(by cases z),fun _ _ z=>(by cases z)⟩⟩
 | dic ds=>obtain ⟨kvs,q,_⟩:=h4; exact ⟨_,q,⟨fun _ z=>(by cases z),fun _ _ z=>(by cases z)⟩⟩
 | dit ds=>obtain ⟨kvs,ep,q,_⟩:=h4; exact ⟨_,q,⟨fun _ z=>(by cases z),fun _ _ z=>(by cases z)⟩⟩
 | obj C ds=>obtain ⟨dx,fs,q,_⟩:=h4; exact ⟨_,q,⟨fun _ z=>(by cases z),fun _ _ z=>(by cases z)⟩⟩
def zae (n:Nat) (Γ:Sts):Sts:=(Γ.take n).map zbm
theorem Good.look (g:Good K n W Hi Γ σ H):zaS Hi (zcj n W Γ σ Hi H)/\Good K n ⟨H,zcj n W Γ σ Hi H,[]⟩ (zcj n W Γ σ Hi H) (zae n Γ) σ H:=by
 have s1:zaS Hi (zcj n W Γ σ Hi H):=fun b u e=>by
  unfold zcj
  rw [yQ (fun z=>by rw [(zeO.hi g z).1] at e; cases e)]
  exact e
 have inv:∀ (i:Nat) (sl:Slot),(zae n Γ)[i]?=some sl->∃ s0,Γ[i]?=some s0/\i<n/\sl=zbm s0:=fun i sl e=>by
  unfold zae at e; rw [yL] at e
  cases hj:(Γ.take n)[i]? with
  | none=>rw [hj] at e; cases e
  | some s0 =>
   rw [hj] at e; rw [List.getElem?_take] at hj; split at hj
   ·exact ⟨s0,hj,by assumption,(Option.some.inj e).symm⟩
   ·cases hj
 refine ⟨s1,g.len,⟨fun b u e=>?_,fun b xs e=>s1 _ _ (g.fz.tups b xs e)⟩,fun b u e _=>e,fun b u e=>⟨u,e⟩,fun b u e=>rfl,fun i d e=>?_,fun i o e=>?_,fun i j o o' a e=>?_,fun i d b xs e=>?_⟩
 ·unfold zcj at e
  split at e
  ·exact e
  ·exact g.sub b u e
 ·obtain ⟨s0,hj,hi,hs⟩:=inv i _ e
  cases s0 with
  | val d' =>
   cases hs; obtain ⟨v,h1,h2⟩:=g.val i d hj; exact ⟨v,h1,h2.mono s1⟩
  | own o =>
   cases hs; obtain ⟨a,h1,h2,h3,h4⟩:=g.own i o hj; refine ⟨.ref a,zil hi h1,?_⟩
   have hO:zeO n W Γ σ a:=.inl ⟨i,o,hi,hj,h1⟩
   have hl:zcj n W Γ σ Hi H a=H a:=by unfold zcj; rw [yS hO]
   cases o with
   | lst ds=>obtain ⟨vs,q,r⟩:=h4; exact Den.mkL (SqL.of (hl.trans q)) (r.mono s1)
   | dic ds=>obtain ⟨kvs,q,r⟩:=h4; exact Den.mkDK (.inl (hl.trans q)) (r.mono s1)
   | dit ds=>obtain ⟨kvs,ep,q,r⟩:=h4; exact Den.mkDT (hl.trans q) (r.mono s1)
   | obj C ds=>obtain ⟨dx,fs,q,r⟩:=h4; exact Den.mkO (hl.trans q) (r.mono s1)
  | emp=>cases hs
  | bk d' b xs =>
   cases hs
   obtain ⟨⟨v,h1,h2⟩,hol,_,_,h4,_⟩:=g.bk i d' b xs hj
   have hl:zcj n W Γ σ Hi H b=H b:=by unfold zcj; rw [yS (.inr ⟨i,d',xs,hj⟩)]
   refine ⟨v,h1,hol b _ v xs ?_ (h2.mono s1)⟩
   cases xs with
   | lst ds=>obtain ⟨vs,q,r⟩:=h4; exact Den.mkL (SqL.of (hl.trans q)) (r.mono s1)
   | dic ds=>obtain ⟨kvs,q,r⟩:=h4; exact Den.mkDK (.inl (hl.trans q)) (r.mono s1)
   | dit ds=>obtain ⟨kvs,ep,q,r⟩:=h4; exact Den.mkDT (hl.trans q) (r.mono s1)
   | obj C ds=>obtain ⟨dx,fs,q,r⟩:=h4; exact Den.mkO (hl.trans q) (r.mono s1)
 all_goals
  obtain ⟨s0,hj,hi,hs⟩:=inv i _ e
  cases s0 <;> cases hs
theorem Good.unlook (g:Good K n W Hi Γ σ H) {Hb:Hp} {Γ':Sts} (sb:zaS (zcj n W Γ σ Hi H) Hb) (g':Good K n ⟨H,zcj n W Γ σ Hi H,[]⟩ Hb Γ' σ H') :
  Ext Hi H (zdl n W Γ σ Hb) H'/\Good K n W (zdl n W Γ σ Hb) Γ σ H'/\∀ v d,Imm d->Den K Hb v d->Den K (zdl n W Γ σ Hb) v d:=by
 have kp:∀ b u,H b=some u->H' b=some u:=fun b u e=>g'.keep b u e (by simp)
 have s1:zaS Hi (zdl n W Γ σ Hb):=fun b u e=>by
  have no:¬ zeO n W Γ σ b:=fun z=>by rw [(zeO.hi g z).1] at e; cases e
  unfold zdl; rw [yQ no]; refine sb b u ?_; unfold zcj; rw [yQ no]; exact e
 have ex:Ext Hi H (zdl n W Γ σ Hb) H':=by
  refine ⟨s1,kp,⟨fun b u e=>?_,fun b xs e=>?_⟩,fun b u e=>?_⟩
  ·unfold zdl at e
   split at e
   ·cases e
   ·exact g'.sub b u e
  ·have z:=g'.fz.tups b xs e
   have no:¬ zeO n W Γ σ b:=fun z=>by
    obtain ⟨_,w,hw,w1,_⟩:=zeO.hi g z; rw [kp b w hw] at e; cases e; exact w1 xs rfl
   unfold zdl; rw [yQ no]; exact z
  ·unfold zdl
   split
   ·rename_i z
    exact (zeO.hi g z).1.symm
   ·rename_i z
    rw [g'.fro b u e]
    show zcj n W Γ σ Hi H b=Hi b
    unfold zcj; rw [yQ z]
 refine ⟨ex,g.ext ex,fun v d im den=>im.den den fun b xs=>?_⟩
 have no:∀ u,Hb b=some u->((∃ xs,u=.tup xs)\/∃ o xs,u=.frz o xs)->¬ zeO n W Γ σ b:=fun u e hu z=>by
  obtain ⟨_,w,hw,w1,w2⟩:=zeO.hi g z; have e2:=g'.sub b u e; rw [kp b w hw] at e2; cases e2
  rcases hu with ⟨xs,hu⟩ | ⟨o,xs,hu⟩
  ·exact w1 xs hu
  ·exact w2 o xs hu
 constructor
 ·intro e
  unfold zdl; rw [yQ (no _ e (.inl ⟨_,rfl⟩))]; exact e
 ·intro o e
  unfold zdl; rw [yQ (no _ e (.inr ⟨_,_,rfl⟩))]; exact e
end
section
variable {X:Cx}
def zas (n:Nat) (t:TE'):TE':=fun Γ Q=>t (zae n Γ) fun d _=>Imm d/\Q d Γ
def zD (n:Nat) (t:TT'):TT':=fun Γ Q=>t (zae n Γ) fun b _=>Q b Γ
theorem zqH {e:Expr} {t:TE'} (h:PE' X e t):PE' X e (zas X.N.length t):=by
 refine ⟨PE.weak h.h ?_⟩
 rintro σ H Q ⟨W,Hi,Γ,Q',g,q,fin⟩
 obtain ⟨s1,g1⟩:=g.look; refine ⟨_,_,_,_,g1,q,?_⟩
 rintro v H' ⟨Hb,d,Γ',sb,g',den,im,q'⟩
 obtain ⟨s2,g2,hd⟩:=g.unlook sb g'; exact fin v H' ⟨_,d,Γ,s2.hi,g2,hd v d im den,q'⟩
theorem zlw {e:Expr} {t:TT'} (h:PT' X e t):PT' X e (zD X.N.length t):=by
 refine ⟨PT.weak h.h ?_⟩
 rintro σ H Q ⟨W,Hi,Γ,Q',g,q,fin⟩
 obtain ⟨s1,g1⟩:=g.look; refine ⟨_,_,_,_,g1,q,?_⟩; intro b H' Hb Γ' sb g' q'; obtain ⟨s2,g2,hd⟩:=g.unlook sb g'; exact fin b H' _ Γ s2.hi g2 q'
instance {n:Nat} {t:TE'} [ME t]:ME (zas n t):=⟨fun Γ _ _ h q=>ME.mono (t:=t) _ _ _ (fun _ _ ⟨a,z⟩=>⟨a,h _ _ z⟩) q⟩
instance {n:Nat} {t:TT'} [MT t]:MT (zD n t):=⟨fun Γ _ _ h q=>MT.mono (t:=t) _ _ _ (fun _ _ z=>h _ _ z) q⟩
def zap (i:Nat):TE':=fun Γ Q=>∃ ds d,Γ[i]?=some (.own (.lst (ds ++ [d])))/\Q d (Γ.set i (.own (.lst ds)))
theorem zqD (i:Nat) {x:Str} {p apos cpos:Pos} (hN:X.N[i]?=some x:=by rfl) (hv:Vis X.env.scope x:=by first | exact Or.inl rfl | exact Or.inr (Or.inl rfl) | exact Or.inr (Or.inr rfl)) (hd:(x == ("__debug__":Str))=false:=by decide)
  (hcd:(x == ("__classdict__":Str))=false:=by decide)
  (hbase:attributeBase (.Name x p) "pop" X.env (eval (.Name x p) X.env)=eval (.Name x p) X.env:=by rfl) (hline:(apos.endLine == cpos.line)=true:=by rfl) :
  PE' X (.Call (.Attribute (.Name x p) "pop" apos) [] [] cpos) (zap i):=by
 refine ⟨PE.weak (zsK PySem.F.plainAttrs_list PySem.F.slot_list_pop PySem.F.type_list_pop (zs7 (X:=X)) (zc8 (i:=i) (pos:=p) hN hv hd hcd) hbase hline) ?_⟩
 rintro σ H Q ⟨W,Hi,Γ,Q',g,⟨ds,d,e0,q⟩,fin⟩
 have hi:i<X.N.length:=(yF.mp hN).1
 obtain ⟨a,h1,h2,h3,vs0,h4,h5⟩:=g.own i _ e0; have hl:=zk h5; rw [yH] at hl
 have hl':vs0.length=ds.length+1:=by simpa using hl
 obtain ⟨v,e1,den⟩:=za6 (i:=ds.length) (b:=d) h5 (by simp)
 refine ⟨.ref a,zil hi h1,.inl ⟨rfl,vs0,SqL.of h4⟩,a,vs0,v,rfl,rfl,h4,by rw [hl']; exact e1,?_⟩
 have dr:zbC X.K Hi vs0.dropLast ds:=by
  have z:=zdX ds.length h5; rw [List.take_left' rfl] at z; rw [List.dropLast_eq_take,hl']; exact z
 exact fin v _ ⟨Hi,d,_,zaS.refl _,g.put (o:=.lst ds) e0 h1 ⟨_,zv,dr⟩,den,q⟩
instance {i:Nat}:ME (zap i):=⟨fun Γ _ _ h ⟨ds,d,e,q⟩=>⟨ds,d,e,h _ _ q⟩⟩
end
end PL
namespace L2
open PySem PySem.Spec PyProof.Rows
section
variable {P:Program} {w:World} {H:Hp} {h:Heap} {a:Addr} {kvs:List (List Key × V)} {ep:Nat}
theorem zeN (ok:HOk P w H h) (e:H a=some (.dE kvs ep)):kvs.length<=sizeLine/\(a == sysModules)=false /\
  ∃ xs,KT H kvs xs/\h.DictOfH (tupleKind (zbA P w)) a xs/\∃ o es,h.get? a=some o/\o.ExactDict/\o.data=.dict es ep/\es.toList=xs.map (entryOfKey (tupleKind (zbA P w))):=by
 obtain ⟨z,y,xs,r,o,es,h1,h2,h3,h4,h5⟩:=(show zbM P w H h a (.dE kvs ep) from ok a _ e)
 refine ⟨z,y,xs,r,⟨o,es,ep,h1,h2,h3,h4,fun x hx=>?_,h5⟩,o,es,h1,h2,h3,h4⟩
 obtain ⟨j,hj⟩:=List.getElem?_of_mem hx
 have hl:j<kvs.length:=by
  rw [Paired.length r]; exact (yF.mp hj).1
 have q:=PL.paired_get j r (yC hl) hj
 exact zeR ok (by rw [<- q.1]; exact q.2.1)
end
def zm5 (H:Hp) (a:Addr) (y:V) (r:Option V):Prop:=∃ kvs ep k b,H a=some (.dE kvs ep)/\y=.ref b/\H b=some (.tup (k.map kV))/\r=zhm kvs k
section
variable {X:Cx} {pins:List (Addr × Obj)} {σ:St} {H:Hp} {s:Shared} {a:Addr} {y v:V} {u r:Value} {o:Option V} {A:Around} {E:Value->Shared->Prop}
theorem zoN (I:Inv X pins σ H s) (g:zm5 H a y o):s.TypeIs (.ref a) "dict":=by
 obtain ⟨kvs,ep,k,b,e,_⟩:=g; obtain ⟨_,_,xs,_,dd,_⟩:=zeN I.hok e; exact dd.typeIs
theorem zmp {Q:Value->Shared->Prop} (hu:A.units+1<cLine) (I:Inv X pins σ H s) (g:zm5 H a y (some v)) (ry:zbo y u) (h:∀ w' s',Inv X pins σ H s'->zbo v w'->Q w' s') :
  wpAny (model X.prog X.w) A (getItem (.ref a) u) Q E s:=by
 obtain ⟨kvs,ep,k,b,e,ey,eb,l⟩:=g; subst ey
 cases (show u=Value.ref b from ry)
 obtain ⟨z,hd,xs,rel,dd,_⟩:=zeN I.hok e
 obtain ⟨w',hw,rw'⟩:=zmQ.some_of (v:=v) (o:=(atKey xs k).map (·.2)) (by rw [l]; exact rel.val k)
 obtain ⟨p,hp,hp2⟩:=Option.map_eq_some_iff.mp hw; refine wpAny_getItem_heap (tupleKind_room_in1 hu) (zeR I.hok eb) dd hp ?_; rw [hp2]; exact h w' _ (I.tok _) rw'
theorem zwG {Q:Value->Shared->Prop} (hu:A.units+1<cLine) (I:Inv X pins σ H s) (g:zm5 H a y o) (ry:zbo y u) (h:∀ s',Inv X pins σ H s'->Q (.bool o.isSome) s') :
  wpAny (model X.prog X.w) A (compareOp .In u (.ref a)) Q E s:=by
 obtain ⟨kvs,ep,k,b,e,ey,eb,l⟩:=g; subst ey
 cases (show u=Value.ref b from ry)
 obtain ⟨z,hd,xs,rel,dd,_⟩:=zeN I.hok e; refine wpAny_in_heap (tupleKind_room_in1 hu) (zeR I.hok eb) hd dd ?_; have q:=(rel.val k).isSome_eq; rw [Option.isSome_map] at q; rw [<- q,<- l]; exact h _ (I.tok _)
theorem zry {Q:Value->Shared->Prop} (hu:A.units+1<cLine) (I:Inv X pins σ H s) (g:zm5 H a y o) (ry:zbo y u) (h:∀ s',Inv X pins σ H s'->Q (.bool (!o.isSome)) s') :
  wpAny (model X.prog X.w) A (compareOp .NotIn u (.ref a)) Q E s:=by
 obtain ⟨kvs,ep,k,b,e,ey,eb,l⟩:=g; subst ey
 cases (show u=Value.ref b from ry)
 obtain ⟨z,hd,xs,rel,dd,_⟩:=zeN I.hok e; refine wpAny_notIn_heap (tupleKind_room_in1 hu) (zeR I.hok eb) hd dd ?_; have q:=(rel.val k).isSome_eq; rw [Option.isSome_map] at q; rw [<- q,<- l]; exact h _ (I.tok _)
theorem zmo {kvs:List (List Key × V)} {ep:Nat} {k:List Key} {b:Addr} {Q:Unit->Shared->Prop} (hu:A.units+1<cLine) (I:Inv X pins σ H s) (e:H a=some (.dE kvs ep)) (eb:H b=some (.tup (k.map kV))) (l:kvs.length<sizeLine) (rv:zbo v r)
  (h:∀ ep' s',Inv X pins σ (upd H a (.dE (zlv kvs k v) ep')) s'->Q () s'):wpAny (model X.prog X.w) A (setItem (.ref a) (.ref b) r) Q E s:=by
 obtain ⟨z,hd,xs,rel,dd,_⟩:=zeN I.hok e
 have hz:xs.length<=sizeLine:=by rw [<- Paired.length rel]; exact z
 have hl:(zlv kvs k v).length<=sizeLine:=by have:=ziV kvs k v; omega
 refine wpAny_setItem_heap (hsz:=hz) (tupleKind_room_in1 hu) (zeR I.hok eb) dd fun h' dd' hs=>?_
 obtain ⟨q,es,ep',hq,h2,h3,h4,_,h5⟩:=dd'
 refine h ep' _ (zi4 I (by rw [e]; exact True.intro) hs ⟨q,hq⟩ ⟨hl,hd,_,(rel.put k eb rv).keeps fun c ys ec=>?_,q,es,hq,h2,h3,h4,h5⟩)
 rw [zI (zq2 ec e (fun z=>nomatch z))]
 exact ec
end
section
variable {X:Cx}
theorem zri (hu:X.A.units+1<cLine):IxR X (fun x y H Q=>∃ a v,x=.ref a/\zm5 H a y (some v)/\Q v H):=by
 intro value slice pins s σ H x y v u Q I rx ry h hs; obtain ⟨a,w,rfl,g,q⟩:=h; cases rx
 exact tail_any (zoN I g) PySem.F.slot_dict_getitem.lookup (zmp hu I g ry fun w' s3 I3 rw'=>⟨w,H,I3,rw',q⟩) hs
theorem zsU (hu:X.A.units+1<cLine):OpR X (compareOp .In) (fun x y H Q=>∃ a o,y=.ref a/\zm5 H a x o/\Q (.bl o.isSome) H):=by
 intro pins s σ H x y v u Q I rx ry h; obtain ⟨a,o,rfl,g,q⟩:=h; cases ry
 exact zwG hu I g rx fun s' I'=>⟨.bl _,H,I',rfl,q⟩
theorem zlP (hu:X.A.units+1<cLine):OpR X (compareOp .NotIn) (fun x y H Q=>∃ a o,y=.ref a/\zm5 H a x o/\Q (.bl (!o.isSome)) H):=by
 intro pins s σ H x y v u Q I rx ry h; obtain ⟨a,o,rfl,g,q⟩:=h; cases ry
 exact zry hu I g rx fun s' I'=>⟨.bl _,H,I',rfl,q⟩
def zuI (td ty tv:TE):TS:=fun D σ H=>tv σ H fun v H1=>td σ H1 fun x H2=>ty σ H2 fun y H3=>∃ a kvs ep k b,x=.ref a/\H3 a=some (.dE kvs ep)/\y=.ref b/\H3 b=some (.tup (k.map kV))/\kvs.length<sizeLine/\∀ ep',D.nx σ (upd H3 a (.dE (zlv kvs k v) ep'))
theorem zqo {o i value:Expr} {pos pos':Pos} {td ty tv:TE} (hu:X.A.units+1<cLine) (ho:PE X o td) (hi:PE X i ty) (hv:PE X value tv) (hs:swapsWith value (some (.Subscript o i pos')) pos.line X.env=pure false) :
  PS X (.Assign [.Subscript o i pos'] value pos) (zuI td ty tv):=by
 intro pins s σ H D I h
 refine wpAny_Assign_Subscript (thn (hv pins s σ H _ I h) fun r s1 ⟨v,H1,I1,rv,q1⟩=>thn (ho pins s1 σ H1 _ I1 q1) fun u s2 ⟨x,H2,I2,rx,q2⟩=>thn (hi pins s2 σ H2 _ I2 q2) fun iv s3 ⟨y,H3,I3,ry,a,kvs,ep,k,b,ex,e,ey,eb,l,q3⟩=>?_) hs
 subst ex ey
 obtain rfl:u=Value.ref a:=rx
 obtain rfl:iv=Value.ref b:=ry
 exact zmo hu I3 e eb l rv fun ep' s4 I4=>⟨σ,_,I4,q3 ep'⟩
theorem zjZ {P:Program} {w:World} {H:Hp} (h:Heap) (hb:sysModules<h.objs.size):zbM P w H (h.push { cls:=.type "dict",data:=.dict #[] }) h.objs.size (.dE [] 0) :=
 ⟨yo _,beq_eq_false_iff_ne.mpr (Ne.symm (yd hb)),[],.nil,_,#[],yK _ rfl,⟨rfl,rfl,rfl⟩,rfl,rfl,List.nodup_nil⟩
def zuB:TE:=fun _ H Q=>∀ p,H p=none->Q (.ref p) (upd H p (.dE [] 0))
theorem zqJ {pos:Pos}:PE X (.Dict [] [] pos) zuB:=fun pins s σ H Q I h =>
 wpAny_Dict_empty ⟨.ref s.heap.objs.size,_,I.laid (a:=s.heap.objs.size) (o:=.dE [] 0) (t':=s.toks) (fun _ _ q=>yB _ q) (yG _) (zjZ s.heap I.big),rfl,h _ (I.hok.fresh (yG _))⟩
theorem zhr (d:Addr) (k v:Value):storeAll d [(k,v)]=(dictSet d k v >>= fun _=>pure PUnit.unit):=by
 unfold storeAll; rw [List.forIn_cons]; simp only [bind_assoc,pure_bind,List.forIn_nil]
def zpZ (tk tv:TE):TE:=fun σ H Q=>∀ p,H p=none->tk σ (upd H p (.dE [] 0)) fun x H1=>tv σ H1 fun y H2=>H2 p=some (.dE [] 0)/\∃ b ks,x=.ref b/\H2 b=some (.tup (ks.map kV))/\∀ ep',Q (.ref p) (upd H2 p (.dE [(ks,y)] ep'))
theorem zmq (hu:X.A.units+1<cLine) {pins:List (Addr × Obj)} {σ:St} {H2:Hp} {s2:Shared} {p b:Addr} {ks:List Key} {y:V} {u2:Value} {Q:Value->Shared->Prop} (I2:Inv X pins σ H2 s2) (e:H2 p=some (.dE [] 0)) (eb:H2 b=some (.tup (ks.map kV))) (r2:zbo y u2)
  (h:∀ ep' s3,Inv X pins σ (upd H2 p (.dE [(ks,y)] ep')) s3->Q (.ref p) s3):wpAny (model X.prog X.w) X.A (storeAll p [(Value.ref b,u2)]) (fun _ s3=>Q (.ref p) s3) X.xe s2:=by
 rw [zhr]; obtain ⟨z,hd,xs,rel,dd,_⟩:=zeN I2.hok e
 obtain rfl:xs=[]:=by
  have:=Paired.length rel
  exact JF this.symm
 refine yA (wpAny_dictSet_heap (hsz:=yo _) (knd:=tupleKind (zbA X.prog X.w)) (show X.A.units<cLine by omega) (zeR I2.hok eb) dd fun h' dd' hs=>?_)
 obtain ⟨q,es,ep',hq,h2,h3,h4,_,h5⟩:=dd'
 have hk:KT H2 (zlv [] ks y) (storedH [] ks b u2):=KT.put (kvs:=[]) (xs:=[]) .nil ks eb r2
 have hp:zlv ([]:List (List Key × V)) ks y=[(ks,y)]:=rfl
 rw [hp] at hk
 have ok:zbM X.prog X.w (upd H2 p (.dE [(ks,y)] ep')) h' p (.dE [(ks,y)] ep'):=by
  refine ⟨?_,hd,_,hk.keeps fun c ys ec=>?_,q,es,hq,h2,h3,h4,h5⟩
  ·rw [sizeLine_eq]; exact Nat.le_of_ble_eq_true rfl
  ·rw [zI (zq2 ec e (fun z=>nomatch z))]
   exact ec
 exact yE (h ep' _ (zi4 I2 (by rw [e]; exact True.intro) hs ⟨q,hq⟩ ok))
theorem zlK (hu:X.A.units+1<cLine) {k v:Expr} {tk tv:TE} {pos:Pos} (hk:PE X k tk) (hv:PE X v tv):PE X (.Dict [some k] [v] pos) (zpZ tk tv):=by
 intro pins s σ H Q I q; have hn:=I.hok.fresh (yG s.heap.objs.size)
 have I1:=I.laid (a:=s.heap.objs.size) (o:=.dE [] 0) (h':=s.heap.push { cls:=.type "dict",data:=.dict #[] }) (t':=s.toks) (fun _ _ q=>yB _ q) (yG _) (zjZ s.heap I.big)
 refine wpAny_Dict_any rfl rfl (fun z=>nomatch z) (Nat.le_of_ble_eq_true rfl) ?_
 refine pairTrees_cons_walk (thn (hk pins _ σ _ _ I1 (q _ hn)) fun u1 s1 ⟨x,H1,J1,rx,q1⟩=>thn (hv pins s1 σ H1 _ J1 q1) fun u2 s2 ⟨y,H2,I2,ry,e,b,ks,ex,eb,q2⟩=>pairTrees_nil_walk ?_)
 subst ex
 obtain rfl:u1=Value.ref b:=rx
 exact zmq hu I2 e eb ry fun ep' s3 I3=>⟨.ref s.heap.objs.size,_,I3,rfl,q2 ep'⟩
end
end L2
namespace PL
open PySem L2
section
variable {K:W.Frag} {H Hi:Hp}
theorem zrB {v:V}:∀ {k:Key},Den K H v (keyD k)->v=kV k
 | .inl i,h=>h.intI
 | .inr x,h=>h.strI
theorem zjX:∀ {vs:List V} {ks:List Key},zbC K H vs (ks.map keyD)->vs=ks.map kV
 | [],[],_=>rfl
 | [],_ :: _,h=>nomatch h
 | _ :: _,[],h=>nomatch h
 | v :: vs,k :: ks,.cons r t=>by rw [yZ,<- zrB r,<- zjX t]
theorem zoE {a b:Key} (h:keyD a=keyD b):a=b:=by
 cases a with
 | inl i=>cases b with
  | inl j=>injection h with h; rw [h]
  | inr y=>cases h
 | inr x=>cases b with
  | inl j=>cases h
  | inr y =>
   injection h with h
   obtain ⟨⟨x⟩⟩:=x
   obtain ⟨⟨y⟩⟩:=y
   exact yp (fun l=>Sum.inr (Str.mk ⟨l⟩)) h
theorem zfC:∀ {a b:List Key},a.map keyD=b.map keyD->a=b
 | [],[],_=>rfl
 | [],_ :: _,h=>nomatch h
 | _ :: _,[],h=>nomatch h
 | x :: a,y :: b,h=>by
  injection h with h1 h2
  rw [zoE h1,zfC h2]
theorem zer {v:V} {ks:List Key} (h:Den K Hi v (.tup (ks.map keyD))):∃ b,v=.ref b/\Hi b=some (.tup (ks.map kV)):=by
 obtain ⟨a,vs,rfl,h1,h2⟩:=h.tupJ; rw [zjX h2] at h1; exact ⟨a,rfl,h1⟩
open Classical in
noncomputable def zcl (ds:List (D × D)) (k:D):Option D:=(ds.find? fun p=>decide (p.1=k)).map (·.2)
open Classical in
noncomputable def zpF (ds:List (D × D)) (k v:D):List (D × D):=if (zcl ds k).isSome=true then ds.map (fun p=>if p.1=k then (p.1,v) else p) else ds ++ [(k,v)]
theorem zmw {p:D × D} {r:List (D × D)} {k:D} (e:p.1=k):zcl (p :: r) k=some p.2:=by simp [zcl,YF,e]
theorem zmx {p:D × D} {r:List (D × D)} {k:D} (e:¬ p.1=k):zcl (p :: r) k=zcl r k:=by simp [zcl,YF,e]
inductive OptD (K:W.Frag) (H:Hp):Option V->Option D->Prop where
 | none:OptD K H none none
 | some {v:V} {d:D} (h:Den K H v d):OptD K H (some v) (some d)
theorem ztp {kvs:List (List Key × V)} {ds:List (D × D)} (r:zkX K H kvs ds) (ks:List Key):OptD K H (zhm kvs ks) (zcl ds (.tup (ks.map keyD))):=by
 induction r with
 | nil=>exact .none
 | @cons p q ps qs h t ih =>
  by_cases e:p.1=ks
  ·rw [zgo e,zmw (h.1.trans (by rw [e]))]
   exact .some h.2
  ·rw [zgp e,zmx (fun z=>e (zfC (by
    have:=h.1.symm.trans z
    injection this)))]
   exact ih
theorem OptD.isSome {o:Option V} {d:Option D} (h:OptD K H o d):o.isSome=d.isSome:=by cases h <;> rfl
open Classical in
theorem zuJ {ks:List Key} {v:V} {d:D} (h:Den K H v d) {kvs:List (List Key × V)} {ds:List (D × D)} (r:zkX K H kvs ds):zkX K H (kvs.map fun kv=>if kv.1=ks then (kv.1,v) else kv) (ds.map fun p=>if p.1=.tup (ks.map keyD) then (p.1,d) else p):=by
 induction r with
 | nil=>exact .nil
 | @cons p q ps qs hh t ih =>
  rw [yZ,yZ]; refine .cons ?_ ih
  by_cases e:p.1=ks
  ·rw [yS e,yS (hh.1.trans (by rw [e]))]
   exact ⟨hh.1,h⟩
  ·rw [yQ e,yQ (fun z=>e (zfC (by
    have:=hh.1.symm.trans z
    injection this)))]
   exact hh
theorem zwx {kvs:List (List Key × V)} {ds:List (D × D)} (r:zkX K H kvs ds) (ks:List Key) {v:V} {d:D} (h:Den K H v d):zkX K H (zlv kvs ks v) (zpF ds (.tup (ks.map keyD)) d):=by
 unfold zlv zpF; rw [zgq,(ztp r ks).isSome]; split
 ·exact zuJ h r
 ·exact paired_app r (.cons ⟨rfl,h⟩ .nil)
end
section
variable {X:Cx}
def ziA:R2':=fun x y Q=>∃ (ds:List (D × D)) (ks:List Key) (v:D),x=.dit ds/\y=.tup (ks.map keyD)/\zcl ds y=some v/\Q v
def zpa (neg:Bool):R2':=fun x y Q=>∃ (ks:List Key) (ds:List (D × D)),x=.tup (ks.map keyD)/\y=.dit ds/\Q (.bl (if neg then !(zcl ds x).isSome else (zcl ds x).isSome))
theorem zrz {K:W.Frag} {Hi H:Hp} {x y:V} {ds:List (D × D)} {ks:List Key} (s:Fz Hi H) (d1:Den K Hi x (.dit ds)) (d2:Den K Hi y (.tup (ks.map keyD))):∃ a o,x=.ref a/\zm5 H a y o/\OptD K Hi o (zcl ds (.tup (ks.map keyD))):=by
 obtain ⟨a,kvs,ep,rfl,h1,h2⟩:=d1.ditI; obtain ⟨b,rfl,h3⟩:=zer d2; exact ⟨a,_,rfl,⟨kvs,ep,ks,b,s.sub _ _ h1,rfl,s.sub _ _ h3,rfl⟩,ztp h2 ks⟩
theorem zvl (hu:X.A.units+1<cLine):Ixs X ziA:=⟨_,zri hu,by
 rintro Hi H x y dx dy Q Q2 s d1 d2 ⟨ds,ks,v,rfl,rfl,e,q⟩ fin
 obtain ⟨a,o,rfl,g,r⟩:=zrz s d1 d2; rw [e] at r
 cases r with
 | some h=>exact ⟨a,_,rfl,g,fin Hi H _ _ (Ext.refl s) h q⟩⟩
theorem zvc (hu:X.A.units+1<cLine):Op2 X (compareOp .In) (zpa false):=⟨_,zsU hu,by
 rintro Hi H x y dx dy Q Q2 s d1 d2 ⟨ks,ds,rfl,rfl,q⟩ fin
 obtain ⟨a,o,rfl,g,r⟩:=zrz s d2 d1; refine ⟨a,o,rfl,g,?_⟩; rw [r.isSome]; exact fin Hi H _ _ (Ext.refl s) (.bl _) q⟩
theorem zn9 (hu:X.A.units+1<cLine):Op2 X (compareOp .NotIn) (zpa true):=⟨_,zlP hu,by
 rintro Hi H x y dx dy Q Q2 s d1 d2 ⟨ks,ds,rfl,rfl,q⟩ fin
 obtain ⟨a,o,rfl,g,r⟩:=zrz s d2 d1; refine ⟨a,o,rfl,g,?_⟩; rw [r.isSome]; exact fin Hi H _ _ (Ext.refl s) (.bl _) q⟩
def zE (i:Nat) (tk tv:TE'):TS':=fun N Γ=>tv Γ fun v Γ1=>(∃ ds0,Γ1[i]?=some (.own (.dit ds0)))/\tk Γ1 fun k Γ2=>∃ (ds:List (D × D)) (ks:List Key),Γ2[i]?=some (.own (.dit ds))/\k=.tup (ks.map keyD)/\ds.length<sizeLine/\N.nx (Γ2.set i (.own (.dit (zpF ds k v))))
theorem znQ (hu:X.A.units+1<cLine) (i:Nat) {x:Str} {k value:Expr} {tk tv:TE'} {p pos pos':Pos} (hk:PE' X k tk) (hv:PE' X value tv) (hN:X.N[i]?=some x:=by rfl) (hvi:Vis X.env.scope x:=by first | exact Or.inl rfl | exact Or.inr (Or.inl rfl) | exact Or.inr (Or.inr rfl)) (hd:(x == ("__debug__":Str))=false:=by decide)
  (hcd:(x == ("__classdict__":Str))=false:=by decide) (hs:swapsWith value (some (.Subscript (.Name x p) k pos')) pos.line X.env=pure false:=by rfl) :
  PS' X (.Assign [.Subscript (.Name x p) k pos'] value pos) (zE i tk tv):=by
 refine ⟨PS.weak (zqo hu (zc8 (i:=i) (pos:=p) hN hvi hd hcd) hk.h hv.h hs) ?_⟩
 rintro N2 σ H ⟨W,Hi,Γ,N,g,q,l⟩
 have hi:i<X.N.length:=(yF.mp hN).1
 refine ⟨W,Hi,Γ,_,g,q,?_⟩
 rintro v H1 ⟨Hi1,d,Γ1,s1,g1,den,⟨ds0,e0⟩,q1⟩
 obtain ⟨a,h1,h2,h3,kvs0,ep0,h4,h5⟩:=g1.own i _ e0; refine ⟨.ref a,zil hi h1,W,Hi1,Γ1,_,g1,q1,?_⟩
 rintro y H2 ⟨Hi2,dk,Γ2,s2,g2,den2,ds,ks,e2,rfl,hl,q2⟩
 obtain ⟨a',k1,k2,k3,kvs,ep,k4,k5⟩:=g2.own i _ e2; rw [h1] at k1; cases k1; obtain ⟨b,rfl,hb⟩:=zer den2
 refine ⟨a,kvs,ep,ks,b,rfl,k4,rfl,g2.sub _ _ hb,by rw [zk k5]; exact hl,fun ep'=>?_⟩
 exact l.nx σ _ Hi2 _ (s1.trans s2) (g2.put (o:=.dit (zpF ds (.tup (ks.map keyD)) d)) e2 h1 ⟨_,_,zv,zwx k5 ks (den.mono s2)⟩) q2
instance {i:Nat} {tk tv:TE'} [ME tk] [ME tv]:MS (zE i tk tv):=⟨fun N N' Γ h q=>ME.mono (t:=tv) _ _ _ (fun _ _ ⟨a,z⟩=>⟨a,ME.mono (t:=tk) _ _ _ (fun _ _ ⟨ds,ks,e1,e2,e3,w⟩=>⟨ds,ks,e1,e2,e3,h.nx _ w⟩) z⟩) q⟩
theorem Good.putN {K:W.Frag} {n:Nat} {W:Wd} {Hi H:Hp} {Γ:Sts} {σ:St} {p:Addr} {u:HO} (g:Good K n W Hi Γ σ H) (h0:Hi p=none) (h1:W.H₀ p=none) (ne:Free n W Γ σ p) (hu:∀ xs,u≠.tup xs):Good K n W Hi Γ σ (upd H p u):=by
 refine ⟨g.len,⟨fun b w q=>?_,fun b xs q=>?_⟩,fun b w q nf=>?_,fun b w q=>?_,g.fro,g.val,fun j o e=>?_,g.apart,fun j d b xs e=>?_⟩
 ·rw [zI (fun z=>by rw [z,h0] at q; cases q)]
  exact g.sub b w q
 ·by_cases hb:b=p
  ·subst hb
   rw [zv] at q; exact yM (Option.some.inj q) (hu xs)
  ·rw [zI hb] at q
   exact g.fz.tups b xs q
 ·rw [zI (fun z=>by rw [z,h1] at q; cases q)]
  exact g.keep b w q nf
 ·rw [zI (fun z=>by rw [z,h1] at q; cases q)]
  exact g.there b w q
 ·obtain ⟨b,q1,q2,q3,q4⟩:=g.own j o e
  have hb:b≠p:=fun z=>ne.own j o e (by rw [<- z]; exact q1)
  exact ⟨b,q1,q2,q3,q4.mono (zaS.refl _) fun w hw=>by rw [zI hb]; exact hw⟩
 ·obtain ⟨p0,p1,p2,p3,p4,p5,p6⟩:=g.bk j d b xs e
  have hb:b≠p:=fun z=>ne.bk j _ _ (by rw [<- z]; exact e)
  exact ⟨p0,p1,p2,p3,p4.mono (zaS.refl _) fun w hw=>by rw [zI hb]; exact hw,p5,p6⟩
def zN (n:Nat) (tk tv:TE'):TO':=fun Γ Q=>tk (zae n Γ) fun k _=>Imm k/\tv (zae n Γ) fun v _=>Imm v/\(∃ ks:List Key,k=.tup (ks.map keyD))/\Q (.dit [(k,v)]) Γ
theorem znU (hu:X.A.units+1<cLine) {k v:Expr} {tk tv:TE'} {pos:Pos} (hk:PE' X k tk) (hv:PE' X v tv):PO' X (.Dict [some k] [v] pos) (zN X.N.length tk tv):=by
 refine ⟨PE.weak (zlK hu hk.h hv.h) ?_⟩
 rintro σ H Q ⟨W,Hi,Γ,Q',g,h,fin⟩
 intro p hp; have new:=New.mk' (u:=.dE [] 0) (o:=.dit []) g hp ⟨[],0,zv,.nil⟩
 have e0:Ext Hi H Hi (upd H p (.dE [] 0)):=Ext.newO g.fz hp _ (fun _ z=>by cases z)
 have g0:=g.ext e0; obtain ⟨s1,g1⟩:=g0.look; refine ⟨_,_,_,_,g1,h,?_⟩
 rintro x H1 ⟨Hb,dk,Γ',sb,g',den,im,h'⟩
 obtain ⟨x1,y1,hd1⟩:=g0.unlook sb g'; have den1:=hd1 x dk im den; obtain ⟨s2,g2⟩:=y1.look; refine ⟨_,_,_,_,g2,h',?_⟩
 rintro y H2 ⟨Hc,dv,Γ'',sc,g'',den2,im2,⟨ks,rfl⟩,q⟩
 obtain ⟨x2,y2,hd2⟩:=y1.unlook sc g''; have den3:=hd2 y dv im2 den2
 have ep:H2 p=some (.dE [] 0):=x2.h _ _ (x1.h _ _ zv)
 have hi0:_=_:=(x2.fro p _ (x1.h _ _ zv)).trans (x1.fro p _ zv)
 obtain ⟨b,rfl,hb⟩:=zer den1
 refine ⟨ep,b,ks,rfl,x2.h _ _ (y1.sub _ _ hb),fun ep'=>?_⟩
 refine fin p _ _ Γ (.dit [(.tup (ks.map keyD),dv)]) (x1.hi.trans x2.hi) (y2.putN (hi0.trans new.hi) new.h0 new.ne (fun _ z=>by cases z)) ⟨hi0.trans new.hi,new.h0,new.ne,⟨[(ks,y)],ep',zv,.cons ⟨rfl,den3⟩ .nil⟩⟩ q
end
end PL
namespace PySem
section
variable {prog:Program} {w:World} {A:Around} {E:Value->Shared->Prop} {s:Shared} {dd kk:Addr} {ob:Obj} {ens:Array DictEntry} {tick nn:Nat}
theorem zeM (hob:s.heap.get? dd=some ob) (hex:ob.ExactDict):s.TypeIs (.ref dd) "dict":=⟨ob,hob,hex.1⟩
theorem zhU {Q:Value->Shared->Prop} (hsys:(dd == sysModules)=false) (hob:s.heap.get? dd=some ob) (hex:ob.ExactDict) (hdt:ob.data=.dict ens tick)
  (fin:Q (.ref s.heap.objs.size) { s with heap:=s.heap.push { cls:=.type "dict_keyiterator",data:=.fields #[.ref dd,.int 0 0,.int ens.size 0,.int tick 0] } }) :
  wpAny (model prog w) A (pyIter (.ref dd)) Q E s:=by
 have ty:=zeM hob hex; refine wpAny_pyIter_slot ty F.slot_dict_iter (YJ F.slot_dict_iter ty F.entry_dict_iter ?_ (F.args_dict_iter_1 _))
 unfold Builtin.«dict.__iter__» Builtin.Dict.dictSlotNone
 refine yA (yA (wpAny_notOrdered_dict ty ?_))
 show wpAny _ _ (pure (Value.ref dd)) _ _ s
 refine yE (show wpAny _ _ (Builtin.Dict.showsAll dd >>= _) _ _ s from ?_)
 unfold Builtin.Dict.showsAll
 rw [yQ (by rw [hsys]; exact yP)]
 refine yA (yE (yA (wpAny_dictEntries hob hdt (yA (wpAny_dictEpoch hob hdt ?_))))); refine yA (yj (yE ⟨_,rfl,"dict_keyiterator",_,⟨_,yK _ rfl,rfl⟩,F.slot_dict_keyiterator_next.lookup,?_⟩))
 simpa [rawInt] using fin
theorem ziY {ii:Nat} {Q:Option Value->Shared->Prop} (st:s.heap.IsKeyIter kk dd ii ens.size tick) (hob:s.heap.get? dd=some ob) (hdt:ob.data=.dict ens tick) (lt:ii<ens.size)
  (fin:∀ h2,h2.IsKeyIter kk dd (ii+1) ens.size tick->Heap.SameBut kk s.heap h2->Q (some ens[ii].key) { s with heap:=h2 }):wpAny (model prog w) A (pyNext (.ref kk)) Q E s:=by
 obtain ⟨ki,hki,hkc,hkd⟩:=id st; have ty:=st.typeIs; unfold pyNext; refine yA (Yq (wpAny_callSpecial?_slot (name:=Str.ofString "__next__") ty F.slot_dict_keyiterator_next (YJ F.slot_dict_keyiterator_next ty F.entry_dict_keyiterator_next ?_ (F.args_dict_keyiterator_next_1 _)))); refine yA (yE (yA (yA ?_)))
 first
  | refine yA (JE ty (yE (yA (wpAny_fieldsOf hki hkd ?_))))
  | refine yA (wpAny_typeNameOf_keyiter ty (yE (yA (wpAny_fieldsOf hki hkd ?_))))
 simp only [show Builtin.Dict_items.ownsTuple "dict_keyiterator"=false by decide,YU,if_false]
 show wpAny _ _ (if (Value.ref dd == Value.none)=true then _ else _) _ _ s
 rw [yQ (show ¬ ((Value.ref dd == Value.none)=true) from yP)]
 refine yA (yE (yA (wpAny_dictEntries hob hdt ?_)))
 rw [yQ (by simp)]
 refine yA (yE (yA (wpAny_dictEpoch hob hdt ?_)))
 rw [yQ (by simp)]
 refine yE ?_
 simp only [show ¬ ((ii:Int)<0) from by omega,if_false,JM,yn lt]
 refine yA ?_
 first
  | refine yA (JE ty (yE (yA (wpAny_isOneOf_keyiter ty ?_))))
  | refine yA (wpAny_typeNameOf_keyiter ty (yE (yA (wpAny_isOneOf_keyiter ty ?_))))
 show wpAny _ _ (setField (.ref kk) 1 (rawInt ((ii:Int)+1)) >>= _) _ _ s
 have st2:(s.heap.update kk (Obj.mapFields (·.setIfInBounds 1 (rawInt ((ii:Int)+1))))).IsKeyIter kk dd (ii+1) ens.size tick :=
  ⟨_,YR _ hki (Obj.isFreed_of_fields (Yt hkd _)),(Obj.cls_mapFields ..).trans hkc,by rw [Yt hkd]; simp [rawInt]⟩
 refine yA (YX hki hkd (by simp) (yA (YW ?_)))
 refine yA (wpAny_isOneOf_keyiter (s:={ s with heap:=s.heap.update kk (Obj.mapFields (·.setIfInBounds 1 (rawInt ((ii:Int)+1)))) }) st2.typeIs ?_)
 show wpAny _ _ (pure ens[ii].key) _ _ _
 exact yE (yE ⟨_,rfl,yE (fin _ st2 (Heap.SameBut.update ..))⟩)
theorem zkH {ii:Nat} {Q:Option Value->Shared->Prop} (calm:A.handled=none) (st:s.heap.IsKeyIter kk dd ii ens.size tick) (hob:s.heap.get? dd=some ob) (hdt:ob.data=.dict ens tick) (ge:ens.size<=ii)
  (fin:∀ h2,Heap.ExtBut kk s.heap h2->Q none { s with heap:=h2 }):wpAny (model prog w) A (pyNext (.ref kk)) Q E s:=by
 obtain ⟨ki,hki,hkc,hkd⟩:=id st; have ty:=st.typeIs; unfold pyNext; refine yA (Yq (wpAny_callSpecial?_slot (name:=Str.ofString "__next__") ty F.slot_dict_keyiterator_next (YJ F.slot_dict_keyiterator_next ty F.entry_dict_keyiterator_next ?_ (F.args_dict_keyiterator_next_1 _)))); refine yA (yE (yA (yA ?_)))
 first
  | refine yA (JE ty (yE (yA (wpAny_fieldsOf hki hkd ?_))))
  | refine yA (wpAny_typeNameOf_keyiter ty (yE (yA (wpAny_fieldsOf hki hkd ?_))))
 simp only [show Builtin.Dict_items.ownsTuple "dict_keyiterator"=false by decide,YU,if_false]
 show wpAny _ _ (if (Value.ref dd == Value.none)=true then _ else _) _ _ s
 rw [yQ (show ¬ ((Value.ref dd == Value.none)=true) from yP)]
 refine yA (yE (yA (wpAny_dictEntries hob hdt ?_)))
 rw [yQ (by simp)]
 refine yA (yE (yA (wpAny_dictEpoch hob hdt ?_)))
 rw [yQ (by simp)]
 refine yE ?_
 simp only [show ¬ ((ii:Int)<0) from by omega,if_false,JM,Array.getElem?_eq_none ge]
 refine yA ?_
 first
  | refine yA (JE ty (yE ?_))
  | refine yA (wpAny_typeNameOf_keyiter ty (yE ?_))
 show wpAny _ _ (setField (.ref kk) 0 .none >>= _) _ _ s
 refine yA (YX hki hkd (by simp) (show wpAny _ _ (newExc (.type "StopIteration") [] >>= _) _ _ _ from yA ?_))
 simp only [newExc,newTuple]
 apply yA
 refine yj ?_ (by size_fits)
 refine yA (m:=firstArgMember _ _) (Yg (a:=Value.none) (by first | rfl | (simp only [firstArgMember]; rfl)) (yj ?_ (by size_fits)))
 simp only [raiseNew]; refine yA (wpAny_handled ?_)
 rw [show A.in1.handled=none from calm]
 refine (yA (yE (wpAny_throw ?_))); refine yA (wpAny_isInstance (T:="StopIteration") (b:=true) ⟨_,yK _ rfl,rfl⟩ isSubtype_stop (yE (fin _ ?_))); exact ((Heap.SameBut.update ..).extBut.push _).push _
end
end PySem
namespace L2
open PySem PySem.Spec PyProof.Rows
def Ite (a:Addr) (kvs:List (List Key × V)) (ep:Nat):It :=
 ⟨fun i H=>H a=some (.dE kvs ep)/\i<kvs.length,fun i H x H'=>H'=H/\∃ k y b,kvs[i]?=some (k,y)/\x=.ref b/\H b=some (.tup (k.map kV)),fun i H=>H a=some (.dE kvs ep)/\kvs.length<=i⟩
theorem zk3 {P:Program} {w:World} {K:W.Frag} {tg:Expr} (a it:Addr) (kvs:List (List Key × V)) (ep:Nat):Turn P w K tg (Ite a kvs ep) [it] it (fun i h=>h.IsKeyIter it a i kvs.length ep) where
 mem:=by simp
 obj:=fun i h st b hb=>by
  have e:b=it:=by simpa using hb
  subst e; obtain ⟨o,e,c,d⟩:=st
  exact ⟨o,e,fun v z=>by rw [d] at z; cases z⟩
 keep:=fun i h h' st k=>st.at fun o e=>k it (by simp) o e
 item:=by
  intro X hP hw hK hc i pins s σ H E I hf st hg
  subst hP hw hK
  obtain ⟨hq,hi⟩:=hg; obtain ⟨z,hd,xs,rel,_,o,es,ho,hx,hdat,he⟩:=zeN I.hok hq
  obtain ⟨f0,f1,f2,f3,f4,f5⟩:=hf it (by simp)
  have hl:kvs.length=xs.length:=Paired.length rel
  have hs:es.size=kvs.length:=by
   have:=yp List.length he
   rw [yD,YI] at this; rw [this,hl]
  have hi':i<es.size:=by rw [hs]; exact hi
  have hix:i<xs.length:=by rw [<- hl]; exact hi
  have q:=PL.paired_get i rel (yC hi) (yC hix)
  have hk:es[i].key=.ref xs[i].2.1:=by
   have e1:es.toList[i]?=(xs.map (entryOfKey (tupleKind (zbA X.prog X.w))))[i]?:=by rw [he]
   rw [yL,yC hix,JJ,yn hi'] at e1; rw [Option.some.inj e1]; rfl
  rw [<- hs] at st
  refine ziY st ho hdat hi' fun h' st' sb=>?_
  have I1:Inv X pins σ H { s with heap:=h' }:=I.turned (t':=s.toks) (fun b o hb e=>(sb.2 b hb).trans e) f0 f1 f3 f4 f5
  rw [hs] at st'; obtain ⟨o2,e,c,d⟩:=id st'; rw [hk]
  exact ⟨_,rfl,zhW (s:={ s with heap:=h' }) e c d (by decide) ⟨.ref xs[i].2.1,H,I1,rfl,⟨rfl,kvs[i].1,kvs[i].2,_,yC hi,rfl,q.2.1⟩,st',fun b hb=>(hf b hb).1⟩⟩
 done:=by
  intro X hP hw hK hc i pins s σ H E I hf st hg
  subst hP hw hK
  obtain ⟨hq,hi⟩:=hg; obtain ⟨z,hd,xs,rel,_,o,es,ho,hx,hdat,he⟩:=zeN I.hok hq
  obtain ⟨f0,f1,f2,f3,f4,f5⟩:=hf it (by simp)
  have hl:kvs.length=xs.length:=Paired.length rel
  have hs:es.size=kvs.length:=by
   have:=yp List.length he
   rw [yD,YI] at this; rw [this,hl]
  rw [<- hs] at st
  exact zkH (I.ok.hd hc) st ho hdat (by omega) fun h' eb=>⟨rfl,I.turned (t':=s.toks) (fun b o hb e=>eb b o hb e) f0 f1 f3 f4 f5⟩
 self:=fun _ _ _ _ _ st h=>wpAny_pyIter_keyiter st h
section
variable {X:Cx} {tg:Expr}
def zvo (tl:TE):TI:=fun σ H R=>tl σ H fun x H1=>∃ a kvs ep,x=.ref a/\H1 a=some (.dE kvs ep)/\R (Ite a kvs ep) H1
theorem zqz {l:Expr} {tl:TE} (hl:PE X l tl):PI X tg l (zvo tl):=by
 intro pins s σ H R I h
 refine thn (hl pins s σ H _ I h) fun v s1 ⟨x,H1,I1,r1,a,kvs,ep,e,hq,q⟩=>?_
 subst e; cases r1; obtain ⟨z,hd,xs,rel,_,o,es,ho,hx,hdat,he⟩:=zeN I1.hok hq
 have hs:es.size=kvs.length:=by
  have:=yp List.length he
  rw [yD,YI] at this; rw [this,Paired.length rel]
 refine zhU hd ho hx hdat ?_
 refine ⟨s1.heap.objs.size,[s1.heap.objs.size],_,_,H1,rfl,I1.kept (t':=s1.toks) fun b o e=>yB _ e,zk3 a _ kvs ep,⟨_,yK _ rfl,rfl,by rw [hs]; rfl⟩,fun b hb=>?_,q⟩
 have e:b=s1.heap.objs.size:=by simpa using hb
 subst e; exact I1.fpOk (yG _) (I1.hok.fresh (yG _))
end
end L2
namespace PL
open PySem L2
theorem zrg {K:W.Frag} {Hi:Hp}:∀ k:Key,Den K Hi (kV k) (keyD k)
 | .inl i=>.int i
 | .inr x=>by
  have e:kV (.inr x)=.str (st x.cps.toList):=by
   show V.str x=_
   rfl
  rw [e]; exact .str _
theorem zpw {K:W.Frag} {Hi:Hp}:∀ ks:List Key,zbC K Hi (ks.map kV) (ks.map keyD)
 | []=>.nil
 | k :: ks=>.cons (zrg k) (zpw ks)
theorem zoH {K:W.Frag} {Hi:Hp} {a:Addr} {kvs:List (List Key × V)} {ep:Nat} {ds:List (D × D)} (h:Hi a=some (.dE kvs ep)) (r:zkX K Hi kvs ds):ItD K Hi (Ite a kvs ep) (ds.map (·.1)):=by
 intro Hi' H' s1 s2
 have hq:H' a=some (.dE kvs ep):=(s1.trans s2.sub) _ _ h
 have hl:=zk r
 refine ⟨fun i d e=>?_,hq,by rw [yD,hl]; exact yG _⟩
 rw [yL] at e
 cases hc:ds[i]? with
 | none=>rw [hc] at e; cases e
 | some q =>
  rw [hc] at e; cases e; obtain ⟨p,e1,e2⟩:=za6 r hc; refine ⟨⟨hq,(yF.mp e1).1⟩,?_⟩
  rintro x H'' ⟨rfl,k,y,b,ek,rfl,hb⟩
  rw [e1] at ek; cases ek; refine ⟨Hi',Ext.refl s2,?_⟩
  show Den K Hi' (.ref b) q.1
  rw [e2.1]; exact Den.mkT (s2.tups _ _ hb) (zpw _)
def zU (t:TE'):TI':=fun Γ Q=>t Γ fun d Γ1=>∃ ds,d=.dit ds/\Q (ds.map (·.1)) Γ1
theorem znX {X:Cx} {l tg:Expr} {t:TE'} (hl:PE' X l t):PI' X tg l (zU t):=by
 refine ⟨PI.weak (zqz hl.h) ?_⟩
 rintro σ H R ⟨W,Hi,Γ,Q',g,h,fin⟩
 refine ⟨W,Hi,Γ,_,g,h,?_⟩
 rintro v H1 ⟨Hi1,d,Γ1,s1,g1,den,ds,rfl,q⟩
 obtain ⟨a,kvs,ep,rfl,h1,h2⟩:=den.ditI; exact ⟨a,kvs,ep,rfl,g1.sub _ _ h1,fin _ H1 Hi1 Γ1 _ s1 g1 (zoH h1 h2) q⟩
end PL
namespace PySem
section
variable {prog:Program} {w:World} {A:Around} {E:Value->Shared->Prop} {s:Shared} {dd kk:Addr} {ob:Obj} {ens:Array DictEntry} {tick nn:Nat}
theorem zsi {Q:Value->Shared->Prop} (hsys:(dd == sysModules)=false) (hob:s.heap.get? dd=some ob) (hex:ob.ExactDict) (hdt:ob.data=.dict ens tick) (fin:Q (.int ens.size s.toks) { s with toks:=s.toks+1 }) :
  wpAny (model prog w) A (call (.builtin "dict.__len__") [.ref dd]) Q E s:=by
 have ty:=zeM hob hex; refine YJ F.slot_dict_len ty F.entry_dict_len ?_ (F.args_dict_len_1 _)
 show wpAny _ _ (dictSize dd >>= _) _ _ s
 unfold dictSize
 refine yA (yA (wpAny_dictEntries hob hdt (yE (show wpAny _ _ (Builtin.Dict.pendingCount dd >>= _) _ _ s from yA (wpAny_pendingCount_other hsys ?_)))))
 refine wpAny_ret_mkInt ?_
 have z:((ens.size:Int)+((0:Nat):Int))=ens.size:=by omega
 first
  | exact fin
  | (rw [z]; exact fin)
  | (refine ⟨_,rfl,?_⟩; simpa using fin)
theorem zvg {Q:Value->Shared->Prop} (hsys:(dd == sysModules)=false) (hob:s.heap.get? dd=some ob) (hex:ob.ExactDict) (hdt:ob.data=.dict ens tick) (few:ens.size<=sizeLine) (fin:Q (.int ens.size (s.toks+1)) { s with toks:=s.toks+1+1 }) :
  wpAny (model prog w) A (call (.builtin "len") [.ref dd]) Q E s :=
 PyProof.Rows.call_len_slot (n:=ens.size) (zeM hob hex) F.slot_dict_len (fun Q' hq=>zsi hsys hob hex hdt hq) (by omega) (by rw [sizeLine_eq] at few; omega) fin
end
end PySem
namespace L2
open PySem PySem.Spec PyProof.Rows
section
variable {X:Cx}
def zwO:Value->V
 | .ref b=>.ref b
 | _=>.non
theorem Inv.keys {pins:List (Addr × Obj)} {σ:St} {H:Hp} {s:Shared} {a:Addr} {kvs:List (List Key × V)} {ep:Nat} (I:Inv X pins σ H s) (e:H a=some (.dE kvs ep)):kvs.length<=sizeLine/\(a == sysModules)=false/\∃ (o:Obj) (es:Array DictEntry),s.heap.get? a=some o/\o.ExactDict/\o.data=.dict es ep/\es.size=kvs.length /\
  ∀ (i:Nat) k y,kvs[i]?=some (k,y)->∃ b x,es[i]?=some x/\x.key=.ref b/\H b=some (.tup (k.map kV)):=by
 obtain ⟨z,hd,xs,rel,_,o,es,ho,hx,hdat,he⟩:=zeN I.hok e
 have hl:kvs.length=xs.length:=Paired.length rel
 have hs:es.size=kvs.length:=by
  have:=yp List.length he
  rw [yD,YI] at this; rw [this,hl]
 refine ⟨z,hd,o,es,ho,hx,hdat,hs,fun i k y hk=>?_⟩
 have hi:i<kvs.length:=(yF.mp hk).1
 have hix:i<xs.length:=by rw [<- hl]; exact hi
 have hi':i<es.size:=by rw [hs]; exact hi
 have q:=PL.paired_get i rel hk (yC hix); refine ⟨xs[i].2.1,es[i],yn hi',?_,q.2.1⟩
 have e1:es.toList[i]?=(xs.map (entryOfKey (tupleKind (zbA X.prog X.w))))[i]?:=by rw [he]
 rw [yL,yC hix,JJ,yn hi'] at e1; rw [Option.some.inj e1]; rfl
theorem zmF:zdn X (.builtin "len") (fun xs H Q=>∃ a kvs ep,xs=[.ref a]/\H a=some (.dE kvs ep)/\Q (.int kvs.length) H):=by
 intro pins s σ H xs us Q I r h; obtain ⟨a,kvs,ep,rfl,e,q⟩:=h; obtain ⟨u,rfl,rx⟩:=zcX r; cases rx; obtain ⟨z,hd,o,es,ho,hx,hdat,hs,_⟩:=I.keys e
 refine zvg hd ho hx hdat (by rw [hs]; exact z) ?_
 rw [hs]; exact ⟨.int kvs.length,H,I.tok _,⟨_,rfl⟩,q⟩
end
end L2
namespace PL
open PySem L2
section
variable {X:Cx}
abbrev zwK:=List D->(OD->Prop)->Prop
def zaL (r:zwK) (t:TA'):TO':=fun Γ Q=>t Γ fun ds Γ1=>r ds fun o=>Q o Γ1
variable {x:Str} {p pos:Pos} {e:Expr} {es:List Expr} {t:TA'} {id T:String}
def ziz:RC':=fun ds Q=>∃ es,ds=[.dit es]/\Q (.int es.length)
theorem ztA:Cal X (.builtin "len") ziz:=⟨_,zmF,by
 rintro Hi H vs ds Q Q2 s dl ⟨es,rfl,q⟩ fin
 obtain ⟨v,rfl,den⟩:=zdi dl; obtain ⟨a,kvs,ep,rfl,h1,h2⟩:=den.ditI; refine ⟨a,kvs,ep,rfl,s.sub _ _ h1,?_⟩; rw [zk h2]; exact fin Hi H _ _ (Ext.refl s) (.int _) q⟩
instance:MRC ziz:=⟨fun _ _ _ h ⟨es,a,q⟩=>⟨es,a,h _ q⟩⟩
end
end PL
namespace PySem
section
variable {prog:Program} {w:World} {A:Around} {E:Value->Shared->Prop} {s:Shared} {S tt:Addr} {ob:Obj} {mine items:Array Value} {n c₀:Nat} {T:String}
end
end PySem
namespace L2
open PySem PySem.Spec PyProof.Rows
section
variable {X:Cx}
theorem zqS:OpR X (binaryOp .Add) (fun x y H Q=>∃ a b xs ys,x=.ref a/\y=.ref b/\SqL X.K H a xs/\SqL X.K H b ys/\xs.length+ys.length<=sizeLine/\∀ p,H p=none->Q (.ref p) (upd H p (.lst (xs ++ ys)))):=by
 intro pins s σ H x y v u Q I rx ry h; obtain ⟨a,b,xs,ys,rfl,rfl,ha,hb,hz,q⟩:=h; cases rx; cases ry; obtain ⟨its,r1,p1,_⟩:=I.list ha; obtain ⟨its2,r2,p2,_⟩:=I.list hb
 obtain ⟨⟨cls,dd,data,sl⟩,ho,hc,n,hd⟩:=id p1.isList
 obtain ⟨⟨cls2,dd2,data2,sl2⟩,ho2,hc2,n2,hd2⟩:=id p2.isList
 simp only at hc hd hc2 hd2
 subst hc hd hc2 hd2
 have ea:its.toArray ++ its2.toArray=(its ++ its2).toArray:=by simp
 refine concat_meets ⟨_,ho,rfl⟩ ⟨_,ho2,rfl⟩ noFill_list_add seq_list_add PySem.F.slot_list_add PySem.F.entry_list_add (PySem.F.args_list_add_2 _ _)
  (list_addW a b its.toArray its2.toArray n n2 dd dd2 sl sl2 (by rw [yO,yO,<- r1.length,<- r2.length]; exact hz)) ⟨ho,ho2,?_⟩
 rw [ea]
 exact ⟨.ref _,_,I.lnew (t':=s.toks) (r1.append r2) (by rw [yH]; exact hz),rfl,q _ I.fresh⟩
end
end L2
namespace PL
open PySem L2
section
variable {X:Cx}
abbrev ztH:=D->D->(OD->Prop)->Prop
def ztK (K:W.Frag) (r:R2) (r':ztH):Prop:=∀ (Hi H:Hp) (x y:V) (dx dy:D) (Q:OD->Prop) (Q2:VK),Fz Hi H->Den K Hi x dx->Den K Hi y dy->r' dx dy Q ->
 (∀ Hi1 H1 p u o,Ext Hi H Hi1 H1->H1 p=none->(∀ xs,u≠.tup xs)->zcC K Hi1 (upd H1 p u) p o->Q o->Q2 (.ref p) (upd H1 p u))->r x y H Q2
structure Op2O (X:Cx) (f:Value->Value->Sem Value) (r':ztH):Prop where
 ex:∃ r,OpR X f r/\ztK X.K r r'
def zaC (r:ztH) (ta tb:TE'):TO':=fun Γ Q=>ta Γ fun x Γ1=>tb Γ1 fun y Γ2=>r x y fun o=>Q o Γ2
theorem zdG {a b:Expr} {op:Operator} {r':ztH} {ta tb:TE'} {pos:Pos} (h:Op2O X (binaryOp op) r') (ha:PE' X a ta) (hb:PE' X b tb):PO' X (.BinOp a op b pos) (zaC r' ta tb):=by
 obtain ⟨r,ho,l⟩:=h.ex; refine ⟨PE.weak (zqE ho ha.h hb.h) ?_⟩
 rintro σ H Q ⟨W,Hi,Γ,Q',g,h,fin⟩
 refine ⟨W,Hi,Γ,_,g,h,?_⟩
 rintro x H1 ⟨Hi1,dx,Γ1,s1,g1,den1,h1⟩
 refine ⟨W,Hi1,Γ1,_,g1,h1,?_⟩
 rintro y H2 ⟨Hi2,dy,Γ2,s2,g2,den2,h2⟩
 refine l Hi2 H2 x y dx dy _ _ g2.fz (den1.mono s2) den2 h2 ?_; intro Hi3 H3 p u o e hp hu own q; have g3:=g2.ext e; exact fin p _ Hi3 Γ2 o (s1.trans (s2.trans e.hi)) (g3.ext (Ext.newO g3.fz hp u hu)) (New.mk' g3 hp own) q
def zkn:ztH:=fun x y Q=>∃ xs ys,x=.lst xs/\y=.lst ys/\xs.length+ys.length<=sizeLine/\Q (.lst (xs ++ ys))
theorem zdH:Op2O X (binaryOp .Add) zkn:=⟨_,zqS,by
 rintro Hi H x y dx dy Q Q2 s d1 d2 ⟨xs,ys,rfl,rfl,hl,q⟩ fin
 obtain ⟨a,vs,rfl,h1,h2⟩:=d1.lstI; obtain ⟨b,us,rfl,h3,h4⟩:=d2.lstI
 exact ⟨a,b,vs,us,rfl,rfl,zak s.sub h1,zak s.sub h3,by rw [zk h2,zk h4]; exact hl,fun p hp=>fin Hi H p _ (.lst (xs ++ ys)) (Ext.refl s) hp (fun _ z=>by cases z) ⟨_,zv,paired_app h2 h4⟩ q⟩⟩
end
end PL
namespace L2
open PySem PySem.Spec PyProof.Rows
section
variable {X:Cx}
end
end L2
namespace PL
open PySem L2
section
variable {X:Cx}
end
end PL
namespace PySem
open PyProof.Rows
namespace F
theorem zhG:Manifest.owners.lookup (String.ofList ['d','e','s','r','e','v','e','r'].reverse)=some Manifest.sig_reversed:=by kernel_rfl
theorem slot_rvd_next:Slot "reversed" "__next__" "reversed.__next__" :=
 .of (owner:="reversed") (n:="__next__") (by rw [typeLookup_type,builtinLookup_eq_fast]; kernel_rfl) (by decide +kernel) (by decide +kernel) (by decide +kernel) (by first | exact .inl (by decide +kernel) | exact .inr (by decide +kernel)) (by rw [isSubtype_type]; kernel_rfl)
theorem entry_rvd_next:entryFor table "reversed.__next__"=some Builtin.«reversed.__next__»:=entryFor_of_tree (by kernel_rfl)
theorem args_rvd_next (a:Value):argsOk "reversed.__next__" ⟨[a],[]⟩:=by
 unfold argsOk; rw [signature?_of (id:="reversed.__next__") (n:=['_','_','t','x','e','n','_','_']) (o:=['d','e','s','r','e','v','e','r']) (by kernel_rfl) zhG]; kernel_rfl
theorem slot_rvd_iter:Slot "reversed" "__iter__" "reversed.__iter__" :=
 .of (owner:="reversed") (n:="__iter__") (by rw [typeLookup_type,builtinLookup_eq_fast]; kernel_rfl) (by decide +kernel) (by decide +kernel) (by decide +kernel) (by first | exact .inl (by decide +kernel) | exact .inr (by decide +kernel)) (by rw [isSubtype_type]; kernel_rfl)
theorem args_rvd_iter (a:Value):argsOk "reversed.__iter__" ⟨[a],[]⟩:=by
 unfold argsOk; rw [signature?_of (id:="reversed.__iter__") (n:=['_','_','r','e','t','i','_','_']) (o:=['d','e','s','r','e','v','e','r']) (by kernel_rfl) zhG]; kernel_rfl
theorem noRev_tuple:typeLookup (.type "tuple") "__reversed__"=pure none:=by rw [typeLookup_type,builtinLookup_eq_fast]; kernel_rfl
theorem entry_rvd_iter:entryFor table "reversed.__iter__"=some Builtin.«dict_keyiterator.__iter__» :=
 entryFor_alias (id':="dict_keyiterator.__iter__") (by kernel_rfl) (by first | rfl | decide +kernel | (unfold String.splitOn; simp +decide [String.splitOnAux])) (by decide +kernel) (by kernel_rfl)
end F
section
variable {prog:Program} {w:World} {A:Around} {E:Value->Shared->Prop} {s:Shared} {tt rr:Addr} {items:Array Value}
def zfm (t:Addr) (i:Int):Obj:={ cls:=.type "reversed",data:=.fields #[.ref t,rawInt i] }
def Heap.IsRvd (h:Heap) (r t:Addr) (i:Int):Prop:=h.get? r=some (zfm t i)
theorem Heap.IsRvd.typeIs {i:Int} (x:s.heap.IsRvd rr tt i):s.TypeIs (.ref rr) "reversed":=⟨_,x,rfl⟩
theorem znu {i:Nat} {v:Value} {Q:Option Value->Shared->Prop} (st:s.heap.IsRvd rr tt (i:Int)) (ht:IsTup s.heap tt items) (hz:items.size<=sizeLine) (hx:items[i]?=some v)
  (fin:∀ h2 tk,h2.IsRvd rr tt ((i:Int)-1)->Heap.SameBut rr s.heap h2->Q (some v) { s with heap:=h2,toks:=tk }):wpAny (model prog w) A (pyNext (.ref rr)) Q E s:=by
 have ty:=st.typeIs; unfold pyNext; refine yA (Yq (wpAny_callSpecial?_slot (name:=Str.ofString "__next__") ty F.slot_rvd_next (YJ F.slot_rvd_next ty F.entry_rvd_next ?_ (F.args_rvd_next _))))
 unfold Builtin.«reversed.__next__»
 refine yA (Yg (a:=(Value.ref rr,[])) rfl ?_)
 try dsimp only
 refine yA (yw st rfl (x:=.ref tt) rfl ?_); refine yA (yw st rfl (x:=rawInt (i:Int)) rfl ?_)
 show wpAny _ _ (if (i:Int)<0 then _ else _) _ _ s
 rw [yQ (by omega)]
 have tyT:s.TypeIs (.ref tt) "tuple":=ht.typeIs
 refine yA (wpAny_specialOf tyT PyProof.Rows.slot_tuple_getitem.lookup ?_)
 show wpAny _ _ (if false=true then _ else _) _ _ s
 rw [yQ (by decide)]
 have hi:i<items.size:=by
  rcases Nat.lt_or_ge i items.size with h | h
  ·exact h
  ·rw [Array.getElem?_eq_none h] at hx; cases hx
 have hn:(items.size:Int)<2 ^ 63:=by rw [sizeLine_eq] at hz; omega
 refine yA (wpAny_mkInt ?_)
 refine yA (Yq (PyProof.Rows.getItem_tuple (s:={ s with toks:=s.toks+1 }) (j:=i) ht (by omega) (by omega) (by rw [seqIndex_of (by omega) (by omega)]; simp) hx ?_))
 refine yA (yw (s:={ s with toks:=s.toks+1 }) st rfl (x:=rawInt (i:Int)) rfl ?_)
 refine yA (YX (s:={ s with toks:=s.toks+1 }) st rfl (by simp) ?_)
 refine yE ⟨v,rfl,yE (fin _ _ ?_ (Heap.SameBut.update ..))⟩
 show (s.heap.update rr (Obj.mapFields (·.setIfInBounds 1 (rawInt ((i:Int)-1))))).get? rr=some (zfm tt ((i:Int)-1))
 rw [YR _ st (Obj.isFreed_of_fields (Yt rfl _))]; simp [zfm,Obj.mapFields]
theorem zqb {Q:Option Value->Shared->Prop} (calm:A.handled=none) (st:s.heap.IsRvd rr tt (-1)) (fin:∀ h2,Heap.ExtBut rr s.heap h2->Q none { s with heap:=h2 }):wpAny (model prog w) A (pyNext (.ref rr)) Q E s:=by
 have ty:=st.typeIs; unfold pyNext; refine yA (Yq (wpAny_callSpecial?_slot (name:=Str.ofString "__next__") ty F.slot_rvd_next (YJ F.slot_rvd_next ty F.entry_rvd_next ?_ (F.args_rvd_next _))))
 unfold Builtin.«reversed.__next__»
 refine yA (Yg (a:=(Value.ref rr,[])) rfl ?_)
 try dsimp only
 refine yA (yw st rfl (x:=.ref tt) rfl (yA (yw st rfl (x:=rawInt (-1)) rfl ?_)))
 show wpAny _ _ (if (-1:Int)<0 then _ else _) _ _ s
 rw [yS (by decide)]
 refine yA (wpAny_rule ?_)
 show wpAny _ _ ((setField (.ref rr) 1 (rawInt (-1)) >>= fun _=>setField (.ref rr) 0 .none) >>= _) _ _ _
 refine yA (yA (YX st rfl (by simp) ?_))
 have g2:=YR (Obj.mapFields (·.setIfInBounds 1 (rawInt (-1)))) st (Obj.isFreed_of_fields (Yt rfl _))
 refine YX (s:={ s with heap:=s.heap.update rr (Obj.mapFields (·.setIfInBounds 1 (rawInt (-1)))) }) g2 (Yt rfl _) (by simp) ?_
 first
  | show wpAny _ _ (newExc (.type "StopIteration") [] >>= _) _ _ _
  | (refine yA ?_; show wpAny _ _ (newExc (.type "StopIteration") [] >>= _) _ _ _)
 refine yA ?_; simp only [newExc,newTuple]
 apply yA
 refine yj ?_ (by size_fits)
 refine yA (m:=firstArgMember _ _) (Yg (a:=Value.none) (by first | rfl | (simp only [firstArgMember]; rfl)) (yj ?_ (by size_fits)))
 simp only [raiseNew]; refine yA (wpAny_handled ?_)
 rw [show A.in1.handled=none from calm]
 refine (yA (yE (wpAny_throw ?_))); refine yA (wpAny_isInstance (T:="StopIteration") (b:=true) ⟨_,yK _ rfl,rfl⟩ isSubtype_stop (yE (fin _ ?_))); intro b o hb e; refine yB _ (yB _ ?_); exact (YA _ _ (Ne.symm hb)).trans ((YA _ _ (Ne.symm hb)).trans e)
theorem zjm {i:Int} {Q:Value->Shared->Prop} (st:s.heap.IsRvd rr tt i) (h:Q (.ref rr) s):wpAny (model prog w) A (pyIter (.ref rr)) Q E s:=by
 refine wpAny_pyIter_slot st.typeIs F.slot_rvd_iter (YJ F.slot_rvd_iter st.typeIs F.entry_rvd_iter ?_ (F.args_rvd_iter _))
 show wpAny _ _ (ret (.ref rr)) _ _ s
 exact yE ⟨_,rfl,"reversed",_,st.typeIs,F.slot_rvd_next.lookup,h⟩
theorem zkN:TypeCalled "reversed" "reversed.__new__" "object.__init__":=by
 refine ⟨by decide +kernel,by decide +kernel,⟨_,_,F.mro_reversed⟩,F.made_reversed,by decide +kernel,by rw [isSubtype_type]; kernel_rfl,?_⟩
 exact .of (owner:="object") (n:="__init__") (by rw [typeLookup_type,builtinLookup_eq_fast]; kernel_rfl) (by decide +kernel) (by decide +kernel) (by decide +kernel) (by first | exact .inl (by decide +kernel) | exact .inr (by decide +kernel)) (by rw [isSubtype_type]; kernel_rfl)
theorem zkP (a b:Value):argsOk "object.__init__" ⟨[a,b],[]⟩:=by
 unfold argsOk; rw [signature?_of (id:="object.__init__") (n:=['_','_','t','i','n','i','_','_']) (o:=['t','c','e','j','b','o']) (by kernel_rfl) F.owner_object]; kernel_rfl
theorem zqa:MeetsIn prog w (Builtin.«reversed.__new__» ⟨[.type "reversed",.ref tt],[]⟩) (fun _ R s=>∃ items,IsTup s.heap tt items/\items.size<=sizeLine/\∀ tk,R (.ok (.ret (.ref s.heap.objs.size))) { s with heap:=s.heap.push (zfm tt ((items.size:Int)-1)),toks:=tk }) :=
 .of_wp fun A R s ⟨items,ht,hz,h⟩=>by
  unfold Builtin.«reversed.__new__»
  refine yA (Yg (newClass_reversed _) ?_)
  try dsimp only
  refine yA (Yg (a:=()) (by first | rfl | kernel_rfl) ?_)
  refine yA (Yg (a:=()) (by first | rfl | kernel_rfl) ?_)
  try dsimp only
  refine yA (wpAny_specialOf ht.typeIs F.noRev_tuple ?_)
  try dsimp only
  have noD:isSubtype (.type "tuple") (.type "dict")=pure false:=by rw [isSubtype_type]; kernel_rfl
  have hn:(items.size:Int)<2 ^ 63:=by rw [sizeLine_eq] at hz; omega
  refine yA (yA (wpAny_isInstance (T:="tuple") (b:=false) ht.typeIs noD ?_))
  rw [yQ (by decide)]
  refine yA (wpAny_specialOf ht.typeIs slot_tuple_getitem.lookup ?_)
  try dsimp only
  rw [yS (by decide +kernel)]
  refine yE ?_
  rw [yQ (by decide)]
  refine yA (len_tuple ht hn ?_); refine yA (m:=asInt? _) (yE ?_)
  try dsimp only
  show wpAny _ _ (newObj (.type "reversed") (.fields #[.ref tt,rawInt ((items.size:Int)-1)]) >>= _) _ _ _
  refine yA (yj ?_); exact yE ⟨_,rfl,h _⟩
theorem zoR {Q:Value->Shared->Prop} (ht:IsTup s.heap tt items) (hz:items.size<=sizeLine) (fin:∀ tk,Q (.ref s.heap.objs.size) { s with heap:=s.heap.push (zfm tt ((items.size:Int)-1)),toks:=tk }):wpAny (model prog w) A (call (.type "reversed") [.ref tt]) Q E s :=
 callType_newIn zkN (by decide) (F.typeCall_reversed_1 _) (F.newCall_reversed_1 _) (fun obj=>zkP obj _) F.entry_reversed_new zqa ⟨items,ht,hz,fun tk=>⟨⟨_,yK _ rfl,rfl⟩,fin tk⟩⟩
end
end PySem
namespace L2
open PySem PySem.Spec PyProof.Rows
def Itv (K:W.Frag) (a:Addr) (vs:List V):It :=
 ⟨fun i H=>SqT K H a vs/\i<vs.length,fun i H x H'=>H'=H/\vs[vs.length-1-i]?=some x,fun i H=>SqT K H a vs/\vs.length<=i⟩
theorem znf {P:Program} {w:World} {K:W.Frag} {tg:Expr} (a it:Addr) (vs:List V):Turn P w K tg (Itv K a vs) [it] it (fun i h=>i<=vs.length/\h.IsRvd it a ((vs.length:Int)-1-(i:Int))) where
 mem:=by simp
 obj:=fun i h st b hb=>by
  have e:b=it:=by simpa using hb
  subst e
  exact ⟨_,st.2,fun v z=>by cases z⟩
 keep:=fun i h h' st k=>⟨st.1,k it (by simp) _ st.2⟩
 item:=by
  intro X hP hw hK hc i pins s σ H E I hf st hg
  subst hP hw hK
  obtain ⟨hq,hi⟩:=hg; obtain ⟨its,rv,p,hz⟩:=I.tuple hq
  obtain ⟨f0,f1,f2,f3,f4,f5⟩:=hf it (by simp)
  have hl:=rv.length
  have hx:vs[vs.length-1-i]?=some (vs[vs.length-1-i]'(by omega)):=yC (by omega)
  obtain ⟨u,hu,ru⟩:=rv.get hx; have st2:=st.2
  rw [show (vs.length:Int)-1-(i:Int)=((vs.length-1-i:Nat):Int) by omega] at st2
  refine znu st2 p (by rw [yO,<- hl]; exact hz) (v:=u) (by simpa using hu) fun h' tk st' sb=>?_
  have I1:Inv X pins σ H { s with heap:=h',toks:=tk }:=I.turned (t':=tk) (fun b o hb e=>(sb.2 b hb).trans e) f0 f1 f3 f4 f5
  have st3:h'.IsRvd it a ((vs.length:Int)-1-((i+1:Nat):Int)):=by
   rw [show (vs.length:Int)-1-((i+1:Nat):Int)=((vs.length-1-i:Nat):Int)-1 by omega]
   exact st'
  exact ⟨u,rfl,zhW (s:={ s with heap:=h',toks:=tk }) (n:="reversed") st3 rfl rfl (by decide) ⟨_,H,I1,ru,⟨rfl,hx⟩,⟨by omega,st3⟩,fun b hb=>(hf b hb).1⟩⟩
 done:=by
  intro X hP hw hK hc i pins s σ H E I hf st hg
  subst hP hw hK
  obtain ⟨hq,hi⟩:=hg
  obtain ⟨f0,f1,f2,f3,f4,f5⟩:=hf it (by simp)
  have st2:=st.2
  rw [show (vs.length:Int)-1-(i:Int)=-1 by have:=st.1; omega] at st2
  exact zqb (I.ok.hd hc) st2 fun h' eb=>⟨rfl,I.turned (t':=s.toks) (fun b o hb e=>eb b o hb e) f0 f1 f3 f4 f5⟩
 self:=fun _ _ _ _ _ st h=>zjm st.2 h
section
variable {X:Cx} {tg:Expr}
def zwB (K:W.Frag) (ta:TA):TI:=fun σ H R=>ta σ H fun xs H1=>∃ a vs,xs=[.ref a]/\SqT K H1 a vs/\R (Itv K a vs) H1
theorem zsC {a:Expr} {ta:TA} {p pos:Pos} (hg:Gl X "reversed") (hm:X.mg "reversed"=none) (ha:PA X [a] ta) (hs:starEach [a] X.env=[(false,eval a X.env)]:=by rfl):PI X tg (.Call (.Name "reversed" p) [a] [] pos) (zwB X.K ta):=by
 intro pins s σ H R I h
 refine Call_ (zcA I hg hm boot_reversed (yq (thn (ha pos pins s σ H _ I h) fun us s1 ⟨vs,H1,I1,r1,q1⟩=>?_) hs rfl))
 obtain ⟨b,xs,e,hq,q⟩:=q1; subst e; obtain ⟨u,rfl,rx⟩:=zcX r1; cases rx; obtain ⟨its,rv,p,hz⟩:=I1.tuple hq; have hl:=rv.length
 refine zoR p (by rw [yO,<- hl]; exact hz) fun tk=>?_
 have st:(s1.heap.push (zfm b ((its.toArray.size:Int)-1))).IsRvd s1.heap.objs.size b ((xs.length:Int)-1-((0:Nat):Int)):=by
  have e:(xs.length:Int)-1-((0:Nat):Int)=(its.toArray.size:Int)-1:=by rw [yO,<- hl]; omega
  rw [e]; exact yK _ rfl
 refine zjm (s:={ s1 with heap:=s1.heap.push (zfm b ((its.toArray.size:Int)-1)),toks:=tk }) st ?_
 refine ⟨s1.heap.objs.size,[s1.heap.objs.size],_,_,H1,rfl,I1.kept (t':=tk) fun b o e=>yB _ e,znf b _ xs,⟨yo _,st⟩,fun c hc=>?_,q⟩
 have e:c=s1.heap.objs.size:=by simpa using hc
 subst e; exact I1.fpOk (yG _) (I1.hok.fresh (yG _))
end
end L2
namespace PL
open PySem L2
theorem zrm {K:W.Frag} {Hi:Hp} {a:Addr} {vs:List V} {ds:List D} (h:Hi a=some (.tup vs)) (r:zbC K Hi vs ds):ItD K Hi (Itv K a vs) ds.reverse:=by
 intro Hi' H' s1 s2
 have hq:SqT K H' a vs:=SqT.of ((s1.trans s2.sub) _ _ h)
 have hl:=zk r
 refine ⟨fun i d e=>?_,hq,by rw [ym,hl]; exact yG _⟩
 have hi:i<ds.length:=by
  have:=(yF.mp e).1
  rwa [ym] at this
 refine ⟨⟨hq,by omega⟩,?_⟩
 rintro x H'' ⟨rfl,hx⟩
 rw [Yw hi] at e; refine ⟨Hi',Ext.refl s2,(paired_get _ r hx ?_).mono s1⟩; rw [hl]; exact e
def zrq (t:TA'):TI':=fun Γ Q=>t Γ fun ds Γ1=>∃ es,ds=[.tup es]/\Q es.reverse Γ1
theorem zqx {X:Cx} {tg a:Expr} {t:TA'} {p pos:Pos} (hg:Gl X "reversed") (hm:X.mg "reversed"=none) (ha:PA' X [a] t) (hs:starEach [a] X.env=[(false,eval a X.env)]:=by rfl):PI' X tg (.Call (.Name "reversed" p) [a] [] pos) (zrq t):=by
 refine ⟨PI.weak (zsC hg hm ha.pa hs) ?_⟩
 rintro σ H R ⟨W,Hi,Γ,Q',g,h,fin⟩
 refine ⟨W,Hi,Γ,_,g,h,?_⟩
 rintro vs H1 Hi1 Γ1 ds s1 g1 dl ⟨es,rfl,q⟩
 obtain ⟨v,rfl,den⟩:=zdi dl; obtain ⟨a,us,rfl,h1,h2⟩:=den.tupJ; exact ⟨a,us,rfl,SqT.of (g1.sub _ _ h1),fin _ H1 Hi1 Γ1 _ s1 g1 (zrm h1 h2) q⟩
instance {t:TA'} [MA t]:MI (zrq t):=⟨fun Γ _ _ h q=>MA.mono (t:=t) _ _ _ (fun _ _ ⟨es,e,z⟩=>⟨es,e,h _ _ z⟩) q⟩
end PL
namespace X1
open PySem
def Ex (h:Heap) (e:Addr) (cl:Value) (dd:Option Addr) (vs:Array Value):Prop:=∃ sl,h.get? e=some ⟨cl,dd,.fields vs,sl⟩
def Ent (h:Heap) (T:Addr) (fl:Value):Prop:=∃ c d ts sl,h.get? T=some ⟨c,d,.fields ts,sl⟩/\ts[3]?=some fl
def Hd (h:Heap) (e:Addr) (vs:Array Value) (fl:Value) (R:Addr->Prop):Prop:=(vs[1]?=some .none/\fl=.none)\/∃ T,vs[1]?=some (.ref T)/\T≠e/\R T/\Ent h T fl
structure Kp (R:Addr->Prop) (fr:List Addr) (h h':Heap):Prop where
 keep:∀ b o,h.get? b=some o->¬ R b->b ∉ fr->h'.get? b=some o
 slot:∀ b o,h.get? b=some o->¬ R b->b ∈ fr->∃ sl,h'.get? b=some { o with slots:=sl }
 size:h.objs.size<=h'.objs.size
theorem zf8 {h:Heap} {a:Addr} {c:Value} {d:Option Addr} {vs:Array Value} {sl:Array (Option Value)} {f:Array Value->Array Value} (e:h.get? a=some ⟨c,d,.fields vs,sl⟩):(h.update a (Obj.mapFields f)).get? a=some ⟨c,d,.fields (f vs),sl⟩ :=
 YR _ e rfl
section
variable {M:Model} {A:Around} {E:Value->Shared->Prop} {s:Shared} {base:Heap} {env:Env} {outer:List Env} {L e:Addr} {cl fl:Value} {dd:Option Addr} {vs:Array Value} {R:Addr->Prop}
theorem zh2 {head:Value} {b:Bool} {Q:Unit->Shared->Prop} (hfr:A.frames=some (env :: outer)) (hl:s.heap.FunFrames base (env :: outer)) (hf:env.frame=some L) (he:Ex s.heap e cl dd vs) (hs:1<vs.size) (hR:R e)
  (q:∀ h' T vs',Ex h' e cl dd vs'->vs'[0]?=vs[0]?->vs'[1]?=some (.ref T)->T≠e->s.heap.objs.size<=T->Ent h' T (rawInt L)->Kp R ((env :: outer).filterMap (·.frame)) s.heap h'->Q () { s with heap:=h' }) :
  wpAny M A (do setField (.ref e) 1 (<- EntryCells.newEntry head (<- frameOf env) .none (rawInt L) .none (<- entryPlaceOf L b))) Q E s:=by
 obtain ⟨sl,he⟩:=he
 have hnf:e ∉ (env :: outer).filterMap (·.frame):=fun hm=>by
  obtain ⟨_,o,ho,nf⟩:=hl.mem hm; rw [he] at ho; cases ho; exact nf vs rfl
 refine yA (wpAny_frameOf_fun hfr hl hf fun h1 hs1=>?_)
 refine yA (wpAny_entryPlaceOf fun pl hpl=>?_)
 unfold EntryCells.newEntry newFields; refine yA (yj ?_ (hpl.sizeOk5 _ _ _ _ _))
 have he1:h1.get? e=some ⟨cl,dd,.fields vs,sl⟩:=(hs1.2.1 e hnf).trans he
 have hT:h1.objs.size≠e:=Yf (yN he1)
 have hsz:h1.objs.size=s.heap.objs.size:=hs1.1
 refine YX (yB _ he1) rfl hs (q _ h1.objs.size _ ⟨sl,zf8 (yB _ he1)⟩ (by rw [Array.getElem?_setIfInBounds_ne (by decide)]) (by simp [hs]) hT (Nat.le_of_eq hsz.symm) ?_ ?_)
 ·refine ⟨_,_,_,_,(YA _ _ (Ne.symm hT)).trans (yK h1 rfl),?_⟩
  rcases hpl with rfl | ⟨_,_,_,_,_,_,_,rfl⟩ <;> simp
 ·refine ⟨fun c o ec n m=>?_,fun c o ec n m=>?_,?_⟩
  ·have hc:c≠e:=fun z=>n (by rw [z]; exact hR)
   rw [YA _ _ (Ne.symm hc)]; exact yB _ ((hs1.2.1 c m).trans ec)
  ·have hc:c≠e:=fun z=>n (by rw [z]; exact hR)
   obtain ⟨sl',hs'⟩:=hs1.2.2 c o ec; refine ⟨sl',?_⟩; rw [YA _ _ (Ne.symm hc)]; exact yB _ hs'
  ·rw [Heap.size_after_update,YT,hsz]
   exact Nat.le_succ _
theorem note {Q:Unit->Shared->Prop} (hfr:A.frames=some (env :: outer)) (hl:s.heap.FunFrames base (env :: outer)) (hf:env.frame=some L) (he:Ex s.heap e cl dd vs) (hs:1<vs.size) (hd:Hd s.heap e vs .none R) (hR:R e)
  (q:∀ h' T vs',Ex h' e cl dd vs'->vs'[0]?=vs[0]?->vs'[1]?=some (.ref T)->T≠e->s.heap.objs.size<=T->Ent h' T (rawInt L)->Kp R ((env :: outer).filterMap (·.frame)) s.heap h'->Q () { s with heap:=h' }) :
  wpAny M A (noteFrame (.ref e) env) Q E s:=by
 unfold noteFrame; simp only [hf]; obtain ⟨sl,he'⟩:=id he
 rcases hd with ⟨h1,_⟩ | ⟨T,h1,hne,hRT,c,d,ts,sT,hT,h3⟩
 ·refine yA (yw he' rfl h1 ?_)
  rw [yQ (by decide)]
  exact zh2 hfr hl hf he hs hR q
 ·refine yA (yw he' rfl h1 ?_)
  rw [yS (show (Value.ref T != Value.none)=true from by simp)]
  refine yA (yw hT rfl h3 ?_)
  rw [yQ (show ¬ ((Value.none == rawInt L)=true) from by simp [rawInt])]
  refine yA (YX hT rfl (Yu.mp h3).1 ?_)
  have oth:∀ b,b≠T->(s.heap.update T (Obj.mapFields (·.setIfInBounds 3 Value.none))).get? b=s.heap.get? b:=fun b hb=>YA _ _ (Ne.symm hb)
  have nR:∀ b o,s.heap.get? b=some o->(∀ vs,o.data≠.fields vs)->b≠T:=fun b o hb hn z=>by
   rw [z,hT] at hb; cases hb; exact hn ts rfl
  refine zh2 (s:={ s with heap:=_ }) hfr (hl.of_keeps fun b o hb hn=>⟨o,(oth b (nR b o hb hn)).trans hb,rfl⟩) hf ⟨sl,(oth e (Ne.symm hne)).trans he'⟩ hs hR fun h' T' vs' x1 x2 x3 x4 x5 x6 x7=>?_
  have hfree:s.heap.objs.size<=T':=by
   have y:=x5
   rwa [Heap.size_after_update] at y
  refine q h' T' vs' x1 x2 x3 x4 hfree x6 ⟨fun b o eb n m=>?_,fun b o eb n m=>?_,?_⟩
  ·have hb:b≠T:=fun z=>n (by rw [z]; exact hRT)
   exact x7.keep b o ((oth b hb).trans eb) n m
  ·have hb:b≠T:=fun z=>n (by rw [z]; exact hRT)
   exact x7.slot b o ((oth b hb).trans eb) n m
  ·have:=x7.size
   rwa [Heap.size_after_update] at this
theorem flight {T:Addr} {Q:Unit->Shared->Prop} (he:Ex s.heap e cl dd vs) (h1:vs[1]?=some (.ref T)) (hne:T≠e) (hT:Ent s.heap T fl) (hRT:R T) (q:∀ h',Ex h' e cl dd vs->Ent h' T .none->(∀ b,b≠T->h'.get? b=s.heap.get? b)->h'.objs.size=s.heap.objs.size->Q () { s with heap:=h' }) :
  wpAny M A (setFlight (.ref e) none) Q E s:=by
 obtain ⟨sl,he'⟩:=he; obtain ⟨c,d,ts,sT,hT,h3⟩:=hT; unfold setFlight; refine yA (yw he' rfl h1 ?_)
 rw [yS (show (Value.ref T != Value.none)=true from by simp)]
 have hsz:3<ts.size:=(Yu.mp h3).1
 have oth:∀ b,b≠T->(s.heap.update T (Obj.mapFields (·.setIfInBounds 3 ((none:Option Addr).elim Value.none fun f=>rawInt f)))).get? b=s.heap.get? b:=fun b hb=>YA _ _ (Ne.symm hb)
 exact YX hT rfl hsz (q _ ⟨sl,(oth e (Ne.symm hne)).trans he'⟩ ⟨c,d,_,sT,zf8 hT,by simp [hsz]⟩ oth (Heap.size_after_update ..))
theorem leave {Q:Unit->Shared->Prop} (hfr:A.frames=some (env :: outer)) (hl:s.heap.FunFrames base (env :: outer)) (hf:env.frame=some L) (he:Ex s.heap e cl dd vs) (hs:1<vs.size) (hd:Hd s.heap e vs .none R) (hR:R e)
  (q:∀ h' T vs',Ex h' e cl dd vs'->vs'[0]?=vs[0]?->1<vs'.size->vs'[1]?=some (.ref T)->T≠e->s.heap.objs.size<=T->Ent h' T .none->Kp R ((env :: outer).filterMap (·.frame)) s.heap h'->Q () { s with heap:=h' }) :
  wpAny M A (leaving env (.ref e)) Q E s:=by
 unfold leaving
 refine yA (note hfr hl hf he hs hd hR fun h1 T vs' x1 x2 x3 x4 x5 x6 x7=>?_)
 refine flight (s:={ s with heap:=h1 }) (R:=fun b=>R b\/b=T) x1 x3 x4 x6 (.inr rfl) fun h2 y1 y2 y3 y4=>?_
 refine q h2 T vs' y1 x2 (Yu.mp x3).1 x3 x4 x5 y2 ⟨fun b o eb n m=>?_,fun b o eb n m=>?_,?_⟩
 ·rw [y3 b (fun z=>yM (yW (yN eb) (by rw [z]; exact x5)) (YS _))]
  exact x7.keep b o eb n m
 ·rw [y3 b (fun z=>yM (yW (yN eb) (by rw [z]; exact x5)) (YS _))]
  exact x7.slot b o eb n m
 ·rw [y4]
  exact x7.size
end
structure XC (h:Heap) (C N:Addr) (bm:List Value) (nid:String):Prop where
 ex:∃ nm q bs hd sn sub ab col dd k0 k1 k2 k3 k5,h.get? C=some (excClassObj nm q C N bs bm hd sn sub ab col dd k0 k1 k2 k3 k5 nid)
theorem XC.kp {h h':Heap} {C N:Addr} {bm:List Value} {nid:String} (x:XC h C N bm nid) (k:∀ b o,h.get? b=some o->h'.get? b=some o):XC h' C N bm nid:=by
 obtain ⟨nm,q,bs,hd,sn,sub,ab,col,dd,k0,k1,k2,k3,k5,e⟩:=x.ex; exact ⟨nm,q,bs,hd,sn,sub,ab,col,dd,k0,k1,k2,k3,k5,k _ _ e⟩
abbrev zuK (C t:Addr):Obj:={ cls:=.ref C,data:=.fields #[.ref t,.none,.none,.none,.bool false,.none] }
abbrev ztN (vs:List Value):Obj:={ cls:=.type "tuple",data:=.seq vs.toArray }
abbrev zkz (h:Heap) (C:Addr) (vs:List Value):Heap:=(h.push (ztN vs)).push (zuK C h.objs.size)
theorem zcz {h:Heap} {C:Addr} {vs:List Value}:∀ b o,h.get? b=some o->(zkz h C vs).get? b=some o:=fun _ _ e=>yB _ (yB _ e)
theorem zol {h:Heap} {C:Addr} {vs:List Value}:(zkz h C vs).get? (h.objs.size+1)=some (zuK C h.objs.size):=by
 have:=yK (h.push (ztN vs)) (o:=zuK C h.objs.size) rfl
 rwa [YT] at this
section
variable {prog:Program} {w:World} {A:Around} {E:Value->Shared->Prop} {h:Heap} {g:Array GenState} {d:Drawn} {t:Nat} {os:OsState} {C N fI:Addr} {oI:Obj} {bm bmB:List Value} {B nid iid:String} {mN:Str->Option Value} {zba:List Value}
end
section
variable {M:Model} {A:Around} {E:Value->Shared->Prop} {env:Env} {s:Shared} {C N:Addr} {bm:List Value} {nid:String}
theorem raise_at {x:Sem Value} {Q:Flow->Shared->Prop} (hb:bm.contains (.type "BaseException")=true) (hh:A.handled=none)
  (h:wpAny M A x (fun v s1=>∃ e dd vs sl,v=.ref e/\XC s1.heap C N bm nid/\s1.heap.get? e=some ⟨.ref C,dd,.fields vs,sl⟩/\vs[1]?=some .none/\E (.ref e) s1) E s):wpAny M A (raiseStmt env (some x) none) Q E s:=by
 have hcB:(Value.ref C :: bm).contains (.type "BaseException")=true:=by rw [List.contains_cons,hb,Bool.or_true]
 unfold raiseStmt
 refine yA (yx h (fun v s1 h1=>?_) fun _ _ z=>z)
 obtain ⟨e,dd,vs,sl,rfl,X,he,hv,hE⟩:=h1; obtain ⟨nm,q,bs,hd,sn,sub,ab,col,dd',k0,k1,k2,k3,k5,hC⟩:=X.ex; obtain ⟨hp,g,d,tk,os⟩:=s1
 repeat (first | with_reducible refine wpAny_loadPart_at he ?_ | with_reducible refine wpAny_loadPart_at hC ?_ | (with_reducible refine wpAny_isSubtype_exc hC ?_; rw [hcB]) | wp_step)
 rw [hv]; refine yE ?_
 rw [yQ (by decide)]
 exact yE (wpAny_raiseNew_none hh hE)
end
end X1
namespace X1
open PySem PySem.W
section
variable {prog:Program} {w:World} {A:Around} {E:Value->Shared->Prop} {s:Shared} {K:Frag} {x C:Addr} {ox:Obj} {od:Option Obj} {name:Str}
structure XGet (K:Frag) (C:Addr):Prop where
 ga:findIn K (.ref C) "__getattribute__"=some (some (.builtin "BaseException.__getattribute__"))
 gr:findIn K (.ref C) "__getattr__"=some none
 sub:mroIn K C (.type "BaseException")=some true
theorem zpR {tk:Tok} {fill expr:Bool} {v:Value} {Q:Value->Shared->Prop} (X:K.In s.heap) (I:InstAt s.heap x ox C od) (T:XGet K C) (h:∀ R:Result->Shared->Prop,R (.ok (.ret v)) s->codeAny (model prog w) A (.call (.builtin "BaseException.__getattribute__") ⟨[.ref x,.str name tk],[]⟩) R s)
  (hh:handedIn v=true) (q:Q v s):wpAny (model prog w) A (getAttrBy (.ref x) (.str name tk) fill expr) Q E s:=by
 obtain ⟨hh',g,d,t,os⟩:=s; have L0:=I.type (M:=model prog w); have L1:=looks_findIn (M:=model prog w) X T.ga; have L2:=looks_findIn (M:=model prog w) X T.gr; unfold getAttrBy; refine YW (yA (L0.at (yA (L1.at ?_))))
 show wpAny _ _ (if (onTheHeap (.ref C) && Value.builtin "BaseException.__getattribute__" == Value.builtin "object.__getattribute__")=true then _ else _) _ _ _
 rw [yQ (by
  have z:(Value.builtin "BaseException.__getattribute__" == Value.builtin "object.__getattribute__")=false:=by decide +kernel
  rw [z,Bool.and_false]; exact yP)]
 unfold getAttrByItsOwn hookBefore; refine yA (L2.at ?_); refine yA (Yq (YW ?_)); unfold callGetattribute
 rw [yQ (by cases expr <;> decide)]
 unfold boundAndCalled; rw [F.excAttr_ValueError.ga.bind]; refine yA (yE (wpAny_call (h _ ?_)))
 show wpAny _ _ (handedOut v) _ _ _
 rw [handedOut_of hh]; exact yE q
theorem zj7 {tk:Tok} {R:Result->Shared->Prop} (X:K.In s.heap) (I:InstAt s.heap x ox C od) (T:XGet K C) (hf:findObj K C od "__class__"=some (.bind (.builtin "getset_descriptor.__get__") (.builtin "object.__class__"))) (hm:mroIn K C (.type "object")=some true)
  (h:R (.ok (.ret (.ref C))) s):codeAny (model prog w) A (.call (.builtin "BaseException.__getattribute__") ⟨[.ref x,.str "__class__" tk],[]⟩) R s:=by
 obtain ⟨hh',g,d,t,os⟩:=s; have L0:=I.type (M:=model prog w); have L1:=looks_find (M:=model prog w) X I hf
 have LI:Looks (model prog w) hh' (isInstance (.ref x) (.type "BaseException")) true:=L0.andThen (looks_mroIn X T.sub)
 have hk:builtinKind "BaseException.__getattribute__"=some .slot:=by decide +kernel
 have hsp:splitId "BaseException.__getattribute__"=some ("BaseException","__getattribute__"):=by decide +kernel
 refine codeAny_call_builtin F.excAttr_ValueError.ga.plain F.entry_bexc_ga (@check_slot (model prog w) _ _ _ "BaseException.__getattribute__" "BaseException" "__getattribute__" (.ref x) [.str "__class__" tk] [] _ hk hsp LI (F.args_bexc_ga (.ref x) (.str "__class__" tk)) ?_); refine yA (yE (yA (yE (yA (L0.at (yA (L1.at ?_)))))))
 show wpAny _ _ (Builtin.ObjectAttr.bindTo (.builtin "getset_descriptor.__get__") (.builtin "object.__class__") (.ref x) (.ref C)) _ _ _
 show wpAny _ _ (do let r <- holding [Value.builtin "object.__class__"] (call (.builtin "getset_descriptor.__get__") [.builtin "object.__class__",.ref x,.ref C]); ret r) _ _ _
 exact yA (YW (wpAny_call (class_get (ox:=ox) (od:=od) X I hm (yE h))))
theorem xget_class? {Q:Option Value->Shared->Prop} (X:K.In s.heap) (I:InstAt s.heap x ox C od) (T:XGet K C) (hf:findObj K C od "__class__"=some (.bind (.builtin "getset_descriptor.__get__") (.builtin "object.__class__"))) (hm:mroIn K C (.type "object")=some true)
  (h:Q (some (.ref C)) { s with toks:=s.toks+1 }):wpAny (model prog w) A (getAttr? (.ref x) "__class__") Q E s:=by
 unfold getAttr? getAttrBy?
 refine yA (wpAny_mkText (yA (Yq ?_)))
 exact zpR (s:={ s with toks:=s.toks+1 }) X I T (fun R hR=>zj7 (s:={ s with toks:=s.toks+1 }) X I T hf hm hR) rfl (yE h)
end
structure XIs (K:Frag) (C:Addr):Prop extends XGet K C where
 cl:(clsIn K C).isSome=true
 ha:findIn K (.ref C) "__class__"=some (some (.builtin "object.__class__"))
 hn:specialIn K (.builtin "object.__class__") "__get__"=some (some (.builtin "getset_descriptor.__get__"))
 tk:takesIn K (.builtin "object.__class__")=some true
 ob:mroIn K C (.type "object")=some true
theorem zi1 {K:Frag} {C:Addr} {a g:Value} {od:Option Obj} {name:Str} (hc:(clsIn K C).isSome=true) (ha:findIn K (.ref C) name=some (some a)) (hg:specialIn K a "__get__"=some (some g)) (ht:takesIn K a=some true):findObj K C od name=some (.bind g a):=by
 obtain ⟨cd,e⟩:=Option.isSome_iff_exists.mp hc; unfold findObj; rw [e,Option.bind_some,ha]; simp [hg,ht]
theorem kitx_exc {K:Frag} {x C:Addr} (T:XIs K C):KitX K (.ref x) (.ref C) (fun h=>∃ ox od,InstAt h x ox C od) where
 ty:=fun _ _ _ ⟨_,_,I⟩=>I.type
 it:=fun _ _ X _=>by
  have hcD:=T.cl; unfold clsIn at hcD; split at hcD
  ·rename_i c' d' cd' sl' ho
   intro A' Q' E' s' k q; unfold isType loadHead; exact yA (wpAny_loadPart (k _ _ (X _ _ ho)) (yE q))
  ·cases hcD
 ne:=fun h tp dd its n sl X htp=>by
  have hcD:=T.cl
  refine Bool.eq_false_iff.mpr fun q=>?_
  have e:C=tp:=Value.ref.inj (beq_iff_eq.mp q)
  subst e; unfold clsIn at hcD; split at hcD
  ·rename_i c' d' cd' sl' ho
   have z:=(X _ _ ho).symm.trans htp; cases z
  ·cases hcD
 ca:=fun X ⟨_,_,I⟩ k=>xget_class? X I T.toXGet (zi1 T.cl T.ha T.hn T.tk) T.ob k
end X1
namespace L2
open PySem PySem.Spec PyProof.Rows
structure InsT (K:W.Frag) (C:Addr):Prop where
 cl:Cls K C
 ha:W.findIn K (.ref C) "__class__"=some (some (.builtin "object.__class__"))
 hn:W.specialIn K (.builtin "object.__class__") "__get__"=some (some (.builtin "getset_descriptor.__get__"))
 htk:W.takesIn K (.builtin "object.__class__")=some true
 hm:W.mroIn K C (.type "object")=some true
def TyA (K:W.Frag) (H:Hp) (x:V) (t:Value):Prop:=(∃ n,t=.type n/\ztL K H x n)\/(∃ a C dx fs,x=.ref a/\H a=some (.ins C dx fs)/\t=.ref C/\InsT K C)\/∃ a C dd,x=.ref a/\H a=some (.ext (XAt a C dd))/\(∀ dx,dd=some dx->∃ fs,H dx=some (.xd fs))/\t=.ref C/\X1.XIs K C
def ztz:V->Option Value
 | .ty n=>some (.type n)
 | .ref C=>some (.ref C)
 | _=>none
theorem zj2 {c:V} {u v:Value} (r:zbo c u) (h:ztz c=some v):u=v:=by
 cases c with
 | ty n=>cases h; exact r
 | ref C=>cases h; exact r
 | _=>cases h
theorem zd0 {K:W.Frag} {C D':Addr} {b:Bool} (hd:W.hasDictIn K D'=true) (ht:W.typeIn K (.ref D')=some (.type "type")) (hm:W.mroIn K C (.ref D')=some b) (hne:b=true\/(Value.ref C == Value.ref D')=false):W.kitOne K (.ref C) (.ref D')=some b:=by
 have hc:(W.clsIn K D').isSome=true:=by
  obtain ⟨cd,e,_⟩:=W.any_some hd; rw [e]; rfl
 have hk:W.kitCls K (.ref C) (.ref D')=some b:=by
  show (if ((W.clsIn K D').isSome && W.typeIn K (.ref D') == some (.type "type"))=true then W.subIn K (.ref C) (.ref D') else none)=some b
  rw [hc,ht,yS (by simp)]
  exact hm
 unfold W.kitOne
 by_cases e:(Value.ref C == Value.ref D')=true
 ·rw [yS e]
  rcases hne with h | h
  ·rw [h]
  ·rw [h] at e
   cases e
 ·rw [yQ e]
  exact hk
section
variable {X:Cx}
theorem zk0 {pins:List (Addr × Obj)} {σ:St} {H:Hp} {s:Shared} {x:V} {u t:Value} (I:Inv X pins σ H s) (r1:zbo x u) (ty:TyA X.K H x t):∃ Hh,W.KitX X.K u t Hh/\Hh s.heap/\u≠.builtin "__main__.__loader__#opaque":=by
 rcases ty with ⟨n,rfl,ty⟩ | ⟨a,C,dx,fs,rfl,ea,rfl,T⟩ | ⟨a,C,dd,rfl,ea,hdd,rfl,T⟩
 ·cases x with
  | non=>cases (show n=_ from ty); cases (show u=Value.none from r1); exact ⟨_,W.kitx_none,True.intro,fun z=>nomatch z⟩
  | bl y=>cases (show n=_ from ty); cases (show u=Value.bool y from r1); exact ⟨_,W.kitx_bool,True.intro,fun z=>nomatch z⟩
  | int i=>cases (show n=_ from ty); obtain ⟨tk,z⟩:=(show ∃ t,u=Value.int i t from r1); cases z; exact ⟨_,W.kitx_int,True.intro,fun z=>nomatch z⟩
  | str y=>cases (show n=_ from ty); obtain ⟨tk,z⟩:=(show ∃ t,u=Value.str y t from r1); cases z; exact ⟨_,W.kitx_str,True.intro,fun z=>nomatch z⟩
  | ref a =>
   cases (show u=Value.ref a from r1)
   rcases ty with ⟨rfl,xs,hq⟩ | ⟨rfl,xs,hq⟩ | ⟨rfl,hq⟩
   ·obtain ⟨its,_,p,_⟩:=I.list hq
    obtain ⟨o,n,e1,c1,_⟩:=p
    exact ⟨_,W.kitx_list,⟨o,e1,c1⟩,fun z=>nomatch z⟩
   ·obtain ⟨its,_,p,_⟩:=I.tuple hq
    obtain ⟨o,h1,h2,_⟩:=p
    exact ⟨_,W.kitx_tuple,⟨o,h1,h2⟩,fun z=>nomatch z⟩
   ·have z:∃ o,s.heap.get? a=some o/\o.ExactDict:=by
     rcases hq with ⟨kvs,hq⟩ | ⟨kvs,hq⟩
     ·obtain ⟨_,_,_,_,o,_,_,e,ex,_⟩:=hq.ok I.hok
      exact ⟨o,e,ex⟩
     ·obtain ⟨_,_,_,_,o,_,_,e,ex,_⟩:=hq.ok I.hok
      exact ⟨o,e,ex⟩
    obtain ⟨o,h1,h2⟩:=z
    exact ⟨_,W.kitx_dict,⟨o,h1,h2.1⟩,fun z=>nomatch z⟩
  | _=>exact False.elim ty
 ·cases (show u=Value.ref a from r1)
  obtain ⟨mA,O,_⟩:=zrp I.hok ea; obtain ⟨od,J,_⟩:=O.look
  exact ⟨_,W.kitx_own (T.cl.get _) T.cl.hd T.ha T.hn T.htk T.hm,J,fun z=>nomatch z⟩
 ·cases (show u=Value.ref a from r1)
  obtain ⟨⟨vs,sl,hx⟩,_⟩:=(show zbM X.prog X.w H s.heap a (.ext (XAt a C dd)) from I.hok a _ ea)
  refine ⟨_,X1.kitx_exc T,?_,fun z=>nomatch z⟩
  cases dd with
  | none=>exact ⟨_,none,hx,rfl,rfl,True.intro⟩
  | some dx =>
   obtain ⟨fs,hf⟩:=hdd dx rfl
   obtain ⟨mA,⟨o,es,ep,ho,_⟩,_⟩:=(show zbM X.prog X.w H s.heap dx (.xd fs) from I.hok dx _ hf)
   exact ⟨_,some o,hx,rfl,rfl,ho⟩
theorem zmH:zdn X (.builtin "isinstance") (fun xs H Q=>∃ x t cv c b,xs=[x,cv]/\ztz cv=some c/\TyA X.K H x t/\W.kitOne X.K t c=some b/\Q (.bl b) H):=by
 intro pins s σ H xs us Q I r h; obtain ⟨x,t,cv,c,b,rfl,hc,ty,e,q⟩:=h; obtain ⟨u,w',rfl,r1,r2⟩:=znc r
 cases zj2 r2 hc
 obtain ⟨Hh,kx,hp,ne⟩:=zk0 I r1 ty
 exact W.kia_one kx I.kIn hp e ne fun tk=>⟨.bl b,H,I.tok _,rfl,q⟩
theorem zmG:zdn X (.builtin "isinstance") (fun xs H Q=>∃ x t a cvs cs b,xs=[x,.ref a]/\H a=some (.tup cvs)/\cvs.map ztz=cs.map some/\TyA X.K H x t/\W.kitAny X.K t cs=some b/\Q (.bl b) H):=by
 intro pins s σ H xs us Q I r h; obtain ⟨x,t,a,cvs,cs,b,rfl,ha,hc,ty,e,q⟩:=h; obtain ⟨u,w',rfl,r1,r2⟩:=znc r
 cases (show w'=Value.ref a from r2)
 obtain ⟨Hh,kx,hp,ne⟩:=zk0 I r1 ty
 obtain ⟨hz,its,rv,o,h1,h2,n,h3⟩:=(show zbM X.prog X.w H s.heap a (.tup cvs) from I.hok a _ ha)
 have ei:its=cs:=by
  clear hz h1 h3 e ha
  revert cs its
  induction cvs with
  | nil =>
   intro cs hc its rv; cases rv
   cases cs with
   | nil=>rfl
   | cons c cs=>simp at hc
  | cons c cvs ih =>
   intro cs hc its rv
   cases rv with
   | cons r0 rr =>
    cases cs with
    | nil=>simp at hc
    | cons c' cs =>
     simp only [yZ,List.cons.injEq] at hc; rw [ih cs hc.2 _ rr,zj2 r0 hc.1]
 subst ei; obtain ⟨cl,dd,dt,sl⟩:=o
 dsimp only at h2 h3
 subst h2 h3
 exact W.kia_tup kx I.kIn hp h1 e ne fun tk=>⟨.bl b,H,I.tok _,rfl,q⟩
end
end L2
namespace PL
open PySem L2
section
variable {X:Cx} {pos:Pos}
theorem zdb {x:Str} {C:Addr} (hm:X.mg x=some (.ref C)) (hg:Gl X x:=by rfl) (hd:(x == ("__debug__":Str))=false:=by decide):PE' X (.Name x pos) (tC' (.cls C)):=zqI (v:=.ref C) hm rfl (fun _=>.cls C) hg hd
def zrS:D->Option Value
 | .ty n=>some (.type n)
 | .cls C=>some (.ref C)
 | _=>none
theorem zmD {K:W.Frag} {H:Hp} {v:V} {d:D} {c:Value} (h:Den K H v d) (e:zrS d=some c):ztz v=some c:=by
 cases h with
 | ty n=>exact e
 | cls C=>exact e
 | _=>cases e
def TyD (K:W.Frag) (d:D) (t:Value):Prop:=(∃ n,t=.type n/\ziX d=some n)\/(∃ C fs,d=.obj C fs/\t=.ref C/\InsT K C)\/∃ C fs,d=.exc C fs/\t=.ref C/\X1.XIs K C
theorem TyD.ok {K:W.Frag} {Hi H:Hp} {x:V} {d:D} {t:Value} (s:zaS Hi H) (den:Den K Hi x d) (h:TyD K d t):TyA K H x t:=by
 rcases h with ⟨n,rfl,h⟩ | ⟨C,fs,rfl,rfl,T⟩ | ⟨C,fs,rfl,rfl,T⟩
 ·exact .inl ⟨n,rfl,zoC s den h⟩
 ·obtain ⟨a,dx,fvs,rfl,ha,_⟩:=den.objI
  exact .inr (.inl ⟨a,C,dx,fvs,rfl,s _ _ ha,rfl,T⟩)
 ·obtain ⟨a,dd,rfl,ha,xd⟩:=den.excI
  refine .inr (.inr ⟨a,C,dd,rfl,s _ _ ha,fun dx e=>?_,rfl,T⟩)
  rcases xd with ⟨e',_⟩ | ⟨dx',fs',e',hf,_⟩
  ·rw [e'] at e; cases e
  ·rw [e'] at e
   cases e; exact ⟨fs',s _ _ hf⟩
def zfY (K:W.Frag):RC':=fun ds Q=>∃ d t cd c b,ds=[d,cd]/\zrS cd=some c/\TyD K d t/\W.kitOne K t c=some b/\Q (.bl b)
theorem ztC:Cal X (.builtin "isinstance") (zfY X.K):=⟨_,zmH,by
 rintro Hi H vs ds Q Q2 s dl ⟨d,t,cd,c,b,rfl,hc,ty,e,q⟩ fin
 obtain ⟨v,w,rfl,d1,d2⟩:=zi3 dl; exact ⟨v,t,w,c,b,rfl,zmD d2 hc,ty.ok s.sub d1,e,fin Hi H _ _ (Ext.refl s) (.bl _) q⟩⟩
def zqf (K:W.Frag):RC':=fun ds Q=>∃ d t cds cs b,ds=[d,.tup cds]/\cds.map zrS=cs.map some/\TyD K d t/\W.kitAny K t cs=some b/\Q (.bl b)
theorem zj3 {K:W.Frag} {H:Hp}:∀ {vs:List V} {ds:List D} {cs:List Value},zbC K H vs ds->ds.map zrS=cs.map some->vs.map ztz=cs.map some
 | _,_,cs,.nil,h=>h
 | _,_,[],.cons r t,h=>by simp at h
 | _,_,c :: cs,.cons r t,h=>by
  simp only [yZ,List.cons.injEq] at h ⊢; exact ⟨zmD r h.1,zj3 t h.2⟩
theorem ztB:Cal X (.builtin "isinstance") (zqf X.K):=⟨_,zmG,by
 rintro Hi H vs ds Q Q2 s dl ⟨d,t,cds,cs,b,rfl,hc,ty,e,q⟩ fin
 obtain ⟨v,w,rfl,d1,d2⟩:=zi3 dl; obtain ⟨a,cvs,rfl,ha,dc⟩:=d2.tupJ; exact ⟨v,t,a,cvs,cs,b,rfl,s.sub _ _ ha,zj3 dc hc,ty.ok s.sub d1,e,fin Hi H _ _ (Ext.refl s) (.bl _) q⟩⟩
end
end PL
namespace L2
open PySem PySem.Spec PyProof.Rows
section
variable {X:Cx} {pins:List (Addr × Obj)} {σ:St} {H:Hp} {s:Shared} {a:Addr} {y d:V} {u r:Value} {o:Option V} {A:Around} {E:Value->Shared->Prop}
theorem zts {Q:Value->Shared->Prop} (hu:A.units+1<cLine) (I:Inv X pins σ H s) (g:zm5 H a y o) (ry:zbo y u) (rd:zbo d r) (h:∀ w' s',Inv X pins σ H s'->zbo (o.getD d) w'->Q w' s') :
  wpAny (model X.prog X.w) A (call (.builtin "dict.get") [.ref a,u,r]) Q E s:=by
 obtain ⟨kvs,ep,k,b,e,ey,eb,l⟩:=g; subst ey
 cases (show u=Value.ref b from ry)
 obtain ⟨z,hd,xs,rel,dd,_⟩:=zeN I.hok e; refine call_meetsIn PySem.F.slot_dict_get dd.typeIs PySem.F.entry_dict_get (PySem.F.args_dict_get_3 _ _ _) (meetsH_dict_get_default (tupleKind (zbA X.prog X.w)) a b hd r) ⟨tupleKind_room_in1 hu,k,xs,zeR I.hok eb,dd,h _ _ (I.tok _) ?_⟩; rw [l]; exact (rel.val k).getD rd
theorem zpx (I:Inv X pins σ H s) {kvs:List (List Key × V)} {ep:Nat} (e:H a=some (.dE kvs ep)) :
  s.TypeIs (.ref a) "dict"/\(∀ b,Value.ref a=.ref b->∃ ob,s.heap.get? b=some ob/\ob.dict=none):=by
 obtain ⟨_,hd,xs,_,dd,_⟩:=zeN I.hok e
 refine ⟨dd.typeIs,fun b q=>?_⟩
 cases q; obtain ⟨ob,_,_,h1,h2,_⟩:=dd; exact ⟨ob,h1,h2.2.1⟩
end
def zk8 (td ty tx:TE):TE:=fun σ H Q=>td σ H fun x H1=>∃ a kvs ep,x=.ref a/\H1 a=some (.dE kvs ep)/\ty σ H1 fun y H2=>tx σ H2 fun z H3=>∃ o,zm5 H3 a y o/\Q (o.getD z) H3
section
variable {X:Cx} {o e f:Expr} {apos cpos:Pos} {td ty tx:TE}
theorem zn3 (hu:X.A.units+1<cLine) (ho:PE X o td) (he:PE X e ty) (hf:PE X f tx) (m:M2 X o "get" apos e f cpos):PE X (.Call (.Attribute o "get" apos) [e,f] [] cpos) (zk8 td ty tx):=by
 intro pins s σ H Q I h
 refine wpAny_Call_method m.base m.few m.line PySem.F.plainAttrs_dict PySem.F.slot_dict_get PySem.F.type_dict_get (thn (ho pins s σ H _ I h) fun u s1 ⟨x,H1,I1,rx,a,kvs,ep,ex,d,q1⟩=>?_)
 subst ex
 obtain rfl:u=Value.ref a:=rx
 obtain ⟨t1,t2⟩:=zpx I1 d; refine ⟨t1,t2,?_⟩; rw [m.trees]
 refine Calls.callWith_builtin rfl (Calls.evalArgs_plain (YO (thn (he pins s1 σ H1 _ I1 q1) fun iv s2 ⟨y,H2,I2,ry,q2⟩ =>
  YO (thn (hf pins s2 σ H2 _ I2 q2) fun fv s3 ⟨z,H3,I3,rz,ov,g,q3⟩=>Yl ?_))))
 exact zts hu I3 g ry rz fun w' s4 I4 rw'=>⟨_,H3,I4,rw',q3⟩
end
theorem zkf {a b c:Int} (ha:-(2 ^ 60)<=a) (ha':a<2 ^ 60) (hb:-(2 ^ 60)<=b) (hb':b<2 ^ 60) (hc:-(2 ^ 30)<c) (hc':c<2 ^ 30):Builtin.Range.small a b c=true:=by
 have h1:=PyProof.Rows.rangeSize_toNat a b c; have h2:=PyProof.Rows.rangeSize_toNat_le a b c; unfold Builtin.Range.small; simp only [Builtin.Range.rangeFitsLong,yX,Bool.or_eq_true,yk,beq_iff_eq]
 refine ⟨⟨⟨⟨by omega,by omega⟩,by omega⟩,by omega⟩,.inr ?_⟩
 split <;> (simp [Builtin.Range.rangeFitsLong]; omega)
def zui (lo c:Int) (n:Nat):It:=⟨fun i _=>i<n,fun i H x H'=>H'=H/\x=.int (lo+(i:Nat) * c),fun i _=>n<=i⟩
theorem zin {P:Program} {w:World} {K:W.Frag} {tg:Expr} (it:Addr) (lo c:Int) (n:Nat):Turn P w K tg (zui lo c n) [it] it (fun i h=>IsRangeIter h it (lo+(i:Nat) * c) ((n:Int)-(i:Nat)) c) where
 mem:=by simp
 obj:=fun i h st b hb=>by
  have e:b=it:=by simpa using hb
  subst e
  exact ⟨_,st,fun v z=>by
   have z':Data.fields _=Data.cell v:=z
   cases z'⟩
 keep:=fun i h h' st k=>k it (by simp) _ st
 item:=by
  intro X hP hw hK hc i pins s σ H E I hf st hg
  subst hP hw hK
  obtain ⟨f0,f1,f2,f3,f4,f5⟩:=hf it (by simp)
  have W:=Walks.range (prog:=X.prog) (w:=X.w) (I.ok.hd hc) it lo c n
  refine W.item i s _ _ hg st fun v h' tk hv st' kk=>?_
  obtain ⟨t,rfl⟩:=hv
  have I1:Inv X pins σ H { s with heap:=h',toks:=tk }:=I.turned (fun b o hb e=>kk b o (by simpa using hb) e) f0 f1 f3 f4 f5
  exact ⟨_,rfl,zhW (s:={ s with heap:=h',toks:=tk }) (n:="range_iterator") st' rfl rfl (by decide) ⟨.int (lo+(i:Nat) * c),H,I1,⟨t,rfl⟩,⟨rfl,rfl⟩,st',fun b hb=>(hf b hb).1⟩⟩
 done:=by
  intro X hP hw hK hc i pins s σ H E I hf st hg
  subst hP hw hK
  obtain ⟨f0,f1,f2,f3,f4,f5⟩:=hf it (by simp)
  exact wpAny_pyNext_range_end (I.ok.hd hc) st (by have:n<=i:=hg; omega) fun h' eb=>⟨rfl,I.turned (t':=s.toks) (fun b o hb e=>eb b o hb e) f0 f1 f3 f4 f5⟩
 self:=fun _ _ _ _ _ st h=>wpAny_pyIter_rangeiter st h
section
variable {X:Cx} {tg:Expr}
theorem zlo {pins:List (Addr × Obj)} {σ:St} {H:Hp} {s:Shared} {R:It->Hp->Prop} {E:Value->Shared->Prop} {lo hi c:Int} {t u v:Tok} {tk:Nat} (I:Inv X pins σ H s) (h1:-(2 ^ 60)<=lo) (h2:lo<2 ^ 60) (h3:-(2 ^ 60)<=hi) (h4:hi<2 ^ 60) (h5:-(2 ^ 30)<c) (h6:c<2 ^ 30)
  (q:R (zui lo c (Builtin.Range.rangeSize lo hi c).toNat) H):wpAny (model X.prog X.w) X.A (pyIter (.ref s.heap.objs.size)) (PIE X pins σ tg R) E { s with heap:=s.heap.push { cls:=.type "range",data:=.fields #[.int lo t,.int hi u,.int c v] },toks:=tk }:=by
 refine wpAny_pyIter_range (IsRange.new ..) (zkf h1 h2 h3 h4 h5 h6) ?_
 have I1:Inv X pins σ H { s with heap:=s.heap.push { cls:=.type "range",data:=.fields #[.int lo t,.int hi u,.int c v] },toks:=tk }:=I.kept fun b o e=>yB _ e
 refine ⟨(s.heap.push { cls:=.type "range",data:=.fields #[.int lo t,.int hi u,.int c v] }).objs.size,[(s.heap.push { cls:=.type "range",data:=.fields #[.int lo t,.int hi u,.int c v] }).objs.size],_,_,H,rfl,
  I1.kept (t':=tk) fun b o e=>yB _ e,zin _ lo c (Builtin.Range.rangeSize lo hi c).toNat,?_,fun b hb=>?_,q⟩
 ·have e1:lo+((0:Nat):Int) * c=lo:=by simp
  have e2:(((Builtin.Range.rangeSize lo hi c).toNat:Nat):Int)-((0:Nat):Int)=Builtin.Range.rangeSize lo hi c:=by rw [<- PyProof.Rows.rangeSize_toNat]; simp
  show IsRangeIter _ _ (lo+((0:Nat):Int) * c) ((((Builtin.Range.rangeSize lo hi c).toNat:Nat):Int)-((0:Nat):Int)) c
  rw [e1,e2]; exact yK _ rfl
 ·have e:b=(s.heap.push { cls:=.type "range",data:=.fields #[.int lo t,.int hi u,.int c v] }).objs.size:=by simpa using hb
  subst e; exact I1.fpOk (yG _) (I1.hok.fresh (yG _))
def zvm (ta:TA):TI:=fun σ H R=>ta σ H fun vs H1=>∃ i j c:Int,vs=[.int i,.int j,.int c]/\(-(2 ^ 60)<=i/\i<2 ^ 60/\-(2 ^ 60)<=j/\j<2 ^ 60/\-(2 ^ 30)<c/\c<2 ^ 30/\c≠0)/\R (zui i c (Builtin.Range.rangeSize i j c).toNat) H1
theorem zlE {a b c:Expr} {ta:TA} {p pos:Pos} (hg:Gl X "range") (hm:X.mg "range"=none) (ha:PA X [a,b,c] ta) (hs:starEach [a,b,c] X.env=(false,eval a X.env) :: starEach [b,c] X.env) (hpl:(backTo pos (starEach [b,c] X.env)).any (·.1)=false) :
  PI X tg (.Call (.Name "range" p) [a,b,c] [] pos) (zvm ta):=by
 intro pins s σ H R I h
 refine Call_ (zcA I hg hm boot_range (yq (thn (ha pos pins s σ H _ I h) fun us s1 ⟨vs,H1,I1,r1,q1⟩=>?_) hs hpl))
 obtain ⟨i,j,k,e,⟨q1,q2,q3,q4,q5,q6,q7⟩,q⟩:=q1
 subst e
 cases r1 with
 | cons r rr =>
  cases rr with
  | cons r' rr =>
   cases rr with
   | cons r'' rr =>
    cases rr; obtain ⟨t,rfl⟩:=r; obtain ⟨t',rfl⟩:=r'; obtain ⟨t'',rfl⟩:=r''
    exact call_range_3 q7 (zlo I1 q1 q2 q3 q4 q5 q6 q) (Or.inl (PyProof.noPylong_small (by omega)))
end
end L2
namespace PL
open PySem L2
section
variable {X:Cx} {pos:Pos}
def zgJ (neg:Bool):R2':=fun x y Q=>∃ (l:List Nat) (ms:List (List Nat)),x=.str l/\(y=.tup (ms.map .str)\/y=.lst (ms.map .str))/\Q (.bl (if neg then !decide (l ∈ ms) else decide (l ∈ ms)))
theorem zg8 {K:W.Frag} {Hi:Hp}:∀ {vs:List V} {ms:List (List Nat)},zbC K Hi vs (ms.map .str)->vs=ms.map fun m=>V.str (st m)
 | [],[],_=>rfl
 | v :: vs,m :: ms,.cons r t=>by rw [yZ,<- r.strI,<- zg8 t]
 | [],_ :: _,h=>nomatch h
 | _ :: _,[],h=>nomatch h
theorem zg5 (l:List Nat):∀ ms:List (List Nat),inV (.str (st l)) (ms.map fun m=>V.str (st m))=decide (l ∈ ms)
 | []=>rfl
 | m :: ms=>by
  have ih:=zg5 l ms
  unfold inV at ih ⊢
  rw [yZ,List.any_cons,ih]
  have e:eqV (.str (st m)) (.str (st l))=decide (m=l):=by
   show decide (st m=st l)=_
   by_cases h:m=l
   ·rw [h]; simp
   ·rw [yV h,yV (fun z=>h (by
     have:=yp (fun x:Str=>x.cps.toList) z
     simpa [st] using this))]
  rw [e]
  by_cases h:m=l
  ·subst h; simp
  ·have h':¬ l=m:=fun z=>h z.symm
   simp [h,h']
theorem zh0 (ms:List (List Nat)):(ms.map fun m=>V.str (st m)).all zfL=true:=by
 rw [yY]; intro x hx; obtain ⟨m,_,rfl⟩:=yT.mp hx; rfl
theorem zjI {K:W.Frag} (neg:Bool):zim K (rIn K neg) (zgJ neg):=by
 rintro Hi H x y dx dy Q Q2 s d1 d2 ⟨l,ms,rfl,hy,q⟩ fin
 cases d1.strI
 rcases hy with rfl | rfl
 ·obtain ⟨a,vs,rfl,h1,h2⟩:=d2.tupJ
  rw [zg8 h2] at h1; refine ⟨a,_,rfl,.inr (SqT.of (s.sub _ _ h1)),rfl,zh0 ms,?_⟩; rw [zg5]; exact fin Hi H _ _ (Ext.refl s) (.bl _) q
 ·obtain ⟨a,vs,rfl,h1,h2⟩:=d2.lstI
  rw [zg8 h2] at h1; refine ⟨a,_,rfl,.inl (zak s.sub h1),rfl,zh0 ms,?_⟩; rw [zg5]; exact fin Hi H _ _ (Ext.refl s) (.bl _) q
theorem zoc:Op2 X (compareOp .In) (zgJ false):=⟨_,zlO,zjI false⟩
theorem ziR:Op2 X (compareOp .NotIn) (zgJ true):=⟨_,zhI,zjI true⟩
instance {neg:Bool}:MR2 (zgJ neg):=⟨fun _ _ _ _ h ⟨l,ms,a,b,q⟩=>⟨l,ms,a,b,h _ q⟩⟩
theorem zoF {K:W.Frag} {Hi:Hp} (lo c:Int) (n:Nat):ItD K Hi (zui lo c n) ((List.range n).map fun k=>.int (lo+(k:Nat) * c)):=by
 intro Hi' H' s f
 refine ⟨fun i d e=>?_,by show n<=_; simp⟩
 have hi:i<n:=by
  have:=(yF.mp e).1
  simpa using this
 rw [yL,List.getElem?_range hi] at e; cases e; refine ⟨hi,?_⟩
 rintro x H'' ⟨rfl,rfl⟩
 exact ⟨Hi',Ext.refl f,.int _⟩
def zwn (i j c:Int):List D:=(List.range (Builtin.Range.rangeSize i j c).toNat).map fun k=>.int (i+(k:Nat) * c)
def zS (t:TA'):TI':=fun Γ Q=>t Γ fun ds Γ1=>∃ i j c:Int,ds=[.int i,.int j,.int c]/\(-(2 ^ 60)<=i/\i<2 ^ 60/\-(2 ^ 60)<=j/\j<2 ^ 60/\-(2 ^ 30)<c/\c<2 ^ 30/\c≠0)/\Q (zwn i j c) Γ1
theorem zvu {K:W.Frag} {H:Hp} {vs:List V} {d e f:D} (h:zbC K H vs [d,e,f]):∃ v w u,vs=[v,w,u]/\Den K H v d/\Den K H w e/\Den K H u f:=by
 cases h with
 | cons r t =>
  cases t with
  | cons r' t=>
   cases t with
   | cons r'' t=>cases t; exact ⟨_,_,_,rfl,r,r',r''⟩
theorem zkq {a b c tg:Expr} {t:TA'} {p pos:Pos} (hm:X.mg "range"=none) (ha:PA' X [a,b,c] t) (hg:Gl X "range":=by rfl):PI' X tg (.Call (.Name "range" p) [a,b,c] [] pos) (zS t):=by
 refine ⟨PI.weak (zlE hg hm ha.pa (zby (zaY ha.pl).1) (zbK (zaY ha.pl).2)) ?_⟩
 rintro σ H R ⟨W,Hi,Γ,Q',g,h,fin⟩
 refine ⟨W,Hi,Γ,_,g,h,?_⟩
 rintro vs H1 Hi1 Γ1 ds s1 g1 dl ⟨i,j,c,rfl,b,q⟩
 obtain ⟨v,w,u,rfl,d1,d2,d3⟩:=zvu dl
 exact ⟨i,j,c,by rw [d1.intI,d2.intI,d3.intI],b,fin _ H1 Hi1 Γ1 _ s1 g1 (zoF i c _) q⟩
end
section
variable {X:Cx} {Q:D->Prop}
instance:MR2 ziD:=⟨fun _ _ _ _ h ⟨i,j,a,b,c,q⟩=>⟨i,j,a,b,c,h _ q⟩⟩
def zfp:R2':=fun x y Q=>zgK x y Q\/ziD x y Q
theorem zaP:Op2 X (binaryOp .Add) zfp:=zvf.or zs1
instance:MR2 zfp:=⟨fun _ _ _ _ h q=>q.imp (MR2.mono (r:=zgK) _ _ _ _ h) (MR2.mono (r:=ziD) _ _ _ _ h)⟩
instance {neg:Bool}:MR2 (zpa neg):=⟨fun _ _ _ _ h ⟨i,j,a,b,q⟩=>⟨i,j,a,b,h _ q⟩⟩
def zst:R2':=fun x y Q=>znI false x y Q\/zpa false x y Q\/zgJ false x y Q
theorem zs3 (hu:X.A.units+1<cLine):Op2 X (compareOp .In) zst:=zvd.or ((zvc hu).or zoc)
instance:MR2 zst:=⟨fun _ _ _ _ h q=>q.imp (MR2.mono (r:=znI false) _ _ _ _ h) (fun q=>q.imp (MR2.mono (r:=zpa false) _ _ _ _ h) (MR2.mono (r:=zgJ false) _ _ _ _ h))⟩
def ziy:R2':=fun x y Q=>zgH x y Q\/zpa true x y Q\/zgJ true x y Q
theorem zod (hu:X.A.units+1<cLine):Op2 X (compareOp .NotIn) ziy:=zqX.or ((zn9 hu).or ziR)
instance:MR2 ziy:=⟨fun _ _ _ _ h q=>q.imp (MR2.mono (r:=zgH) _ _ _ _ h) (fun q=>q.imp (MR2.mono (r:=zpa true) _ _ _ _ h) (MR2.mono (r:=zgJ true) _ _ _ _ h))⟩
instance:MR2 ziA:=⟨fun _ _ _ _ h ⟨i,j,v,a,b,c,q⟩=>⟨i,j,v,a,b,c,h _ q⟩⟩
def zjw:R2':=fun x y Q=>zmV x y Q\/ziA x y Q
theorem i_A (hu:X.A.units+1<cLine):Ixs X zjw:=zvk.or (zvl hu)
instance:MR2 zjw:=⟨fun _ _ _ _ h q=>q.imp (MR2.mono (r:=zmV) _ _ _ _ h) (MR2.mono (r:=ziA) _ _ _ _ h)⟩
instance:MRS zhB:=⟨fun _ _ _ _ _ h ⟨ds,e,q⟩=>⟨ds,e,h _ q⟩⟩
def zju:RS':=fun x lo hi Q=>zlr x lo hi Q\/zhB x lo hi Q
theorem s_A:Sli X zju:=zwm.or zuG
instance:MRS zju:=⟨fun _ _ _ _ _ h q=>q.imp (MRS.mono (r:=zlr) _ _ _ _ _ h) (MRS.mono (r:=zhB) _ _ _ _ _ h)⟩
def zgI:RC':=fun ds Q=>zfX ds Q\/ziz ds Q
theorem zb2:Cal X (.builtin "len") zgI:=zvB.or ztA
instance:MRC zgI:=⟨fun _ _ _ h q=>q.imp (MRC.mono (r:=zfX) _ _ _ h) (MRC.mono (r:=ziz) _ _ _ h)⟩
@[simp] theorem zut:D.tup []=plc []:=rfl
@[simp] theorem zus (l:List Nat):D.tup [.str l]=plc [l]:=rfl
def za8 (p:List (List Nat)):List Key:=p.map fun l=>Sum.inr (st l)
theorem zbJ (p:List (List Nat)):plc p=.tup ((za8 p).map keyD):=by
 unfold plc za8; rw [yt]
 exact yp D.tup (YC fun l _=>by
  show D.str l=D.str (st l).cps.toList
  rw [zaW])
theorem zdW {p q:List (List Nat)} (h:plc p=plc q):p=q:=by
 unfold plc at h
 injection h with h
 exact (List.map_inj_right (fun a b h=>D.str.inj h)).mp h
@[simp] theorem zvW (p q:List (List Nat)):plc p=plc q↔p=q:=⟨zdW,fun h=>by rw [h]⟩
@[simp] theorem zlu (i j:Int):zfp (.int i) (.int j) Q↔Q (.int (i+j)):=by simp [zfp,ziD]
@[simp] theorem zef (l m:List Nat):zfp (.str l) (.str m) Q↔l.length+m.length<=sizeLine/\Q (.str (l ++ m)):=by simp [zfp,ziD]
@[simp] theorem zsu (p q:List (List Nat)):zfp (plc p) (plc q) Q↔p.length+q.length<=sizeLine/\Q (plc (p ++ q)):=by
 simp [zfp,ziD,zgK,ziE,plc]
@[simp] theorem zuU (c:Nat) (l:List Nat):zst (.str [c]) (.str l) Q↔Q (.bl (decide (c ∈ l))):=by simp [zst,zpa,zgJ]
theorem zcN (p:List (List Nat)) (ds:List (D × D)) (h:Q (.bl (!(zcl ds (plc p)).isSome))):ziy (plc p) (.dit ds) Q:=.inr (.inl ⟨za8 p,ds,zbJ p,rfl,h⟩)
@[simp] theorem znH (ds:List D) (i:Int):zjw (.lst ds) (.int i) Q↔∃ d,atI ds i=some d/\Q d:=by simp [zjw,ziA]
@[simp] theorem znF (ds:List D) (i:Int):zjw (.tup ds) (.int i) Q↔∃ d,atI ds i=some d/\Q d:=by simp [zjw,ziA]
@[simp] theorem zt0 (l:List Nat) (i:Int):zjw (.str l) (.int i) Q↔l.length<=sizeLine/\∃ c,atI l i=some c/\Q (.str [c]):=by simp [zjw,ziA]
@[simp] theorem zt6 (p:List (List Nat)) (i:Int):zjw (plc p) (.int i) Q↔∃ d,atI (p.map D.str) i=some d/\Q d:=znF _ i
theorem zjv (p:List (List Nat)) (ds:List (D × D)) {v:D} (e:zcl ds (plc p)=some v) (h:Q v):zjw (.dit ds) (plc p) Q:=.inr ⟨ds,za8 p,v,rfl,zbJ p,e,h⟩
@[simp] theorem zuN (l:List Nat) (n:Int):zju (.str l) none (some n) Q↔l.length<=sizeLine/\0<=n/\Q (.str (l.take n.toNat)):=by simp [zju,zhB]
@[simp] theorem zsj (l:List Nat) (n:Int):zju (.str l) (some n) none Q↔l.length<=sizeLine/\0<=n/\Q (.str (l.drop n.toNat)):=by simp [zju,zhB]
@[simp] theorem znB (ds:List D) (lo hi:Option Int):zju (.lst ds) lo hi Q↔Q (.lst (zcW ds lo hi)):=by simp [zju,zhB]
@[simp] theorem znA (ds:List D) (lo hi:Option Int):zju (.tup ds) lo hi Q↔Q (.tup (zcW ds lo hi)):=by simp [zju,zhB,zlr,zkl,zkm]
theorem zoP {α β:Type} (f:α->β) (xs:List α) (lo hi:Option Int):zcW (xs.map f) lo hi=(zcW xs lo hi).map f:=by
 unfold zcW; rw [yD,List.map_take,List.map_drop]
@[simp] theorem ztV (p:List (List Nat)) (lo hi:Option Int):zju (plc p) lo hi Q↔Q (plc (zcW p lo hi)):=by
 unfold plc; rw [znA,zoP]
@[simp] theorem zsl (l:List Nat):zgI [.str l] Q↔l.length<=sizeLine/\Q (.int (l.length:Nat)):=by simp [zgI,ziz]
@[simp] theorem zsn (l:List D):zgI [.lst l] Q↔Q (.int (l.length:Nat)):=by simp [zgI,ziz]
@[simp] theorem zls (l:List D):zgI [.tup l] Q↔Q (.int (l.length:Nat)):=by simp [zgI,ziz]
@[simp] theorem zsm (p:List (List Nat)):zgI [plc p] Q↔Q (.int (p.length:Nat)):=by
 unfold plc; rw [zls,yD]
@[simp] theorem ztR (p:List (List Nat)):zsd (plc p)=some (p.map .str):=rfl
theorem zh7 {α:Type} (xs:List α):zcW xs none (some (-1))=xs.dropLast:=by
 unfold zcW
 have e:HT.sIx xs.length xs.length (some (-1))=xs.length-1:=by
  show (if (-1:Int)<0 then ((-1:Int)+(xs.length:Int)).toNat else min (-1:Int).toNat xs.length)=_
  rw [yS (by decide)]
  omega
 rw [HT.sIx_none,e,List.drop_zero,Nat.sub_zero,List.dropLast_eq_take]
theorem zfs {i:Int} {j:Nat} {p pos:Pos}:PE' X (.UnaryOp .USub (.Constant (.int i) j p) pos) (tC' (.int (-i))):=by
 refine ziG (v:=.int (-i)) (PE.weak (zuY zr1 zpf) ?_) fun _=>.int _
 intro σ H Q q; exact ⟨i,rfl,q⟩
theorem zdg {A:Around} {k:Nat} (hr:Room k A):A.units+100<cLine:=by have:=hr.un; omega
@[simp] theorem zvF {α:Type} (a:α) (l:List α):atI (a :: l) 0=some a:=zdm (j:=0) rfl
@[simp] theorem zwI {α:Type} (a b:α) (l:List α):atI (a :: b :: l) 1=some b:=zdm (j:=1) rfl
@[simp] theorem zwH {α:Type} (a b c:α) (l:List α):atI (a :: b :: c :: l) 2=some c:=zdm (j:=2) rfl
@[simp] theorem zv6 {CX:CXT} {P:Program} {w:World} {K:W.Frag} {mg:Str->Option Value} {base:Heap} {N:List Str} {q:Str} {sc:Scope} {f:Addr} {cd:Value} {A:Around} {o:List Env} {s:Shared} {H:Hp} {E:XK}:(zi5 CX P w K mg base N q sc f cd A o s H E).K=K:=rfl
@[simp] theorem zv5 {CX:CXT} {P:Program} {w:World} {K:W.Frag} {mg:Str->Option Value} {base:Heap} {N:List Str} {q:Str} {sc:Scope} {f:Addr} {cd:Value} {A:Around} {o:List Env} {s:Shared} {H:Hp} {E:XK}:(zi5 CX P w K mg base N q sc f cd A o s H E).N=N:=rfl
theorem zhD (K:W.Frag) (C:Addr) (fs:List (Str × D)) {cd:D} {c:Value} (hc:zrS cd=some c):zfY K [.exc C fs,cd] Q↔X1.XIs K C/\∃ b,W.kitOne K (.ref C) c=some b/\Q (.bl b):=by
 constructor
 ·rintro ⟨d,t,cd',v,b,e,h1,h2,h3,q⟩
  injection e with e1 e2
  injection e2 with e2 _
  subst e1 e2
  rw [hc] at h1; cases h1
  rcases h2 with ⟨n,_,h2⟩ | ⟨C',fs',e,_,_⟩ | ⟨C',fs',e,rfl,T⟩
  ·cases h2
  ·cases e
  ·cases e
   exact ⟨T,b,h3,q⟩
 ·rintro ⟨T,b,h,q⟩
  exact ⟨_,_,_,_,b,rfl,hc,.inr (.inr ⟨C,fs,rfl,rfl,T⟩),h,q⟩
@[simp] theorem zrQ (K:W.Frag) (C c:Addr) (fs:List (Str × D)):zfY K [.exc C fs,.cls c] Q↔X1.XIs K C/\∃ b,W.kitOne K (.ref C) (.ref c)=some b/\Q (.bl b):=zhD K C fs rfl
@[simp] theorem zrP (K:W.Frag) (C:Addr) (n:String) (fs:List (Str × D)):zfY K [.exc C fs,.ty n] Q↔X1.XIs K C/\∃ b,W.kitOne K (.ref C) (.type n)=some b/\Q (.bl b):=zhD K C fs rfl
theorem zdz (K:W.Frag) {d:D} {n:String} (hk:ziX d=some n) {cd:D} {c:Value} (hc:zrS cd=some c):zfY K [d,cd] Q↔∃ b,W.kitOne K (.type n) c=some b/\Q (.bl b):=by
 constructor
 ·rintro ⟨d',t,cd',v,b,e,h1,h2,h3,q⟩
  injection e with e1 e2
  injection e2 with e2 _
  subst e1 e2
  rw [hc] at h1; cases h1
  rcases h2 with ⟨m,rfl,h2⟩ | ⟨C',fs',rfl,rfl,T⟩ | ⟨C',fs',rfl,rfl,T⟩
  ·rw [hk] at h2
   cases h2; exact ⟨b,h3,q⟩
  ·cases hk
  ·cases hk
 ·rintro ⟨b,h,q⟩
  exact ⟨d,_,cd,c,b,rfl,hc,.inl ⟨n,rfl,hk⟩,h,q⟩
@[simp] theorem zsp (K:W.Frag) (c:String) :zfY K [.non,.ty c] Q↔∃ b,W.kitOne K (.type "NoneType") (.type c)=some b/\Q (.bl b):=zdz K rfl rfl
@[simp] theorem zrO (K:W.Frag) (c:Addr) :zfY K [.non,.cls c] Q↔∃ b,W.kitOne K (.type "NoneType") (.ref c)=some b/\Q (.bl b):=zdz K rfl rfl
@[simp] theorem zso (K:W.Frag) (c:String) (x:List Nat):zfY K [(.str x),.ty c] Q↔∃ b,W.kitOne K (.type "str") (.type c)=some b/\Q (.bl b):=zdz K rfl rfl
end
end PL
namespace X1
open PySem PySem.W
section
variable {prog:Program} {w:World} {A:Around} {E:Value->Shared->Prop} {s:Shared} {K:Frag} {x C:Addr} {vs:Array Value} {sl:Array (Option Value)} {name:Str} {v:Value}
end
section
variable {prog:Program} {w:World} {A:Around} {E:Value->Shared->Prop} {h:Heap} {g:Array GenState} {d:Drawn} {t:Nat} {os:OsState} {C N e:Addr} {bm bmB:List Value} {B nid iid:String} {zba:List Value} {vs:Array Value} {dd:Option Addr} {sl:Array (Option Value)}
theorem zmK {Q:Value->Shared->Prop} (F:ExcBaseFacts B nid iid bmB) (T:OwnTail h bmB bm) (X:XC h C N bm nid) (he:h.get? e=some ⟨.ref C,dd,.fields vs,sl⟩) {t0:Addr} (h0:vs[0]?=some (.ref t0)) (hr:zba.length<=sizeLine)
  (k:Q .none ⟨(h.push (ztN zba)).update e (Obj.mapFields (·.setIfInBounds 0 (.ref h.objs.size))),g,d,t,os⟩):wpAny (model prog w) A (call (.builtin iid) (.ref e :: zba)) Q E ⟨h,g,d,t,os⟩:=by
 obtain ⟨nm,q,bs,hd,sn,sub,ab,col,dd',k0,k1,k2,k3,k5,hC⟩:=X.ex; refine wpAny_call (codeAny_call_builtin F.init.plain F.initEntry (wpAny_check_init_subT F T hC he rfl ?_))
 wp_walk
 rw [h0]
 have he':(h.push (ztN zba)).get? e=some ⟨.ref C,dd,.fields vs,sl⟩:=yB _ he
 refine yE (yA (YX he' rfl (Yu.mp h0).1 ?_))
 repeat (first | wp_step)
 exact k
end
end X1
namespace L2
open PySem PySem.Spec PyProof.Rows
structure Fly (n:Nat) (H:Hp) (h:Heap) (e C:Addr) (dd:Option Addr):Prop where
 ne:n<=e
 fe:H e=none
 ex:∃ vs,X1.Ex h e (.ref C) dd vs/\1<vs.size/\X1.Hd h e vs .none (fun b=>n<=b/\H b=none)
def CX1 (P:Program) (w:World):CXT:=fun outer H s E e s'=>∃ ae C dd H',e=.ref ae/\s'.os=s.os/\AllBare s'.gens/\Un (frs outer) [] H H' s.heap s'.heap/\HOk P w H' s'.heap/\Fly s.heap.objs.size H' s'.heap ae C dd/\E (.ref C) dd H'
theorem zpz {P:Program} {w:World} {H:Hp} {h h':Heap} {R:Addr->Prop} {fr:List Addr} (x:HOk P w H h) (k:X1.Kp R fr h h') (hR:∀ b,R b->H b=none) (hf:∀ b ∈ fr,H b=none):HOk P w H h':=fun a o e =>
 (x a o e).stay (fun b u hb q=>by
  have hn:∀ c,H c≠none->¬ R c/\c ∉ fr:=fun c z=>⟨fun r=>z (hR c r),fun m=>z (hf c m)⟩
  rcases hb with rfl | hb
  ·have z:=hn b (by rw [e]; exact fun z=>nomatch z)
   exact k.keep b u q z.1 z.2
  ·have z:=hn b (by rw [hb]; exact fun z=>nomatch z)
   exact k.keep b u q z.1 z.2) (fun _ q=>q) fun _ _ q=>q
section
variable {P:Program} {w:World} {K:W.Frag} {mg:Str->Option Value} {base:Heap} {N:List Str} {qual:Str} {scope:Scope} {f:Addr} {cd:Value} {A:Around} {outer:List Env} {s s':Shared} {H H':Hp} {E:XK} {pins:List (Addr × Obj)} {σ:St} {e C:Addr} {dd:Option Addr}
theorem zs9 (I:Inv (zi5 (CX1 P w) P w K mg base N qual scope f cd A outer s H E) pins σ H' s') (F:Fly s.heap.objs.size H' s'.heap e C dd) (hE:E (.ref C) dd H'):(zi5 (CX1 P w) P w K mg base N qual scope f cd A outer s H E).xe (.ref e) s':=by
 obtain ⟨vs,hx,hs,hd⟩:=F.ex
 have hd':X1.Hd s'.heap e vs .none (fun b=>b=e\/vs[1]?=some (.ref b)):=by
  rcases hd with h | ⟨T,h1,h2,h3,h4⟩
  ·exact .inl h
  ·exact .inr ⟨T,h1,h2,.inr h1,h4⟩
 have hR:∀ b,(b=e\/vs[1]?=some (.ref b))->s.heap.objs.size<=b/\H' b=none:=fun b hb=>by
  rcases hb with rfl | hb
  ·exact ⟨F.ne,F.fe⟩
  ·rcases hd with ⟨h,_⟩ | ⟨T,h1,_,h3,_⟩
   ·rw [hb] at h; cases h
   ·rw [hb] at h1
    cases h1; exact h3
 refine X1.leave (env:=envOfC qual scope s.heap.objs.size f cd) (outer:=outer) (L:=s.heap.objs.size) (R:=fun b=>b=e\/vs[1]?=some (.ref b)) I.ok.frames I.stack rfl hx hs hd' (.inl rfl) fun h' T vs' x1 x2 x3 x4 x5 x6 x7 x8=>?_
 have hfr:∀ b ∈ frs (envOfC qual scope s.heap.objs.size f cd :: outer),H' b=none:=I.stkFree
 have un:=I.base
 have hT:H' T=none:=I.hok.fresh x6
 have hTn:s.heap.objs.size<=T:=yz I.sz x6
 have young:∀ b o,s.heap.get? b=some o->¬ (b=e\/vs[1]?=some (.ref b)):=fun b o q z=>yM (yW (yN q) (hR b z).1) (YS _)
 have notL:∀ b o,s.heap.get? b=some o->b≠s.heap.objs.size:=fun b o q=>yd (yN q)
 have cut:∀ b,b ∈ frs (envOfC qual scope s.heap.objs.size f cd :: outer)->b=s.heap.objs.size\/b ∈ frs outer:=fun b hb=>yJ.mp hb
 refine ⟨e,C,dd,H',rfl,I.os,I.bare,⟨fun b o q n hb hx=>?_,fun b o q n hb hx=>?_,fun b o q n hx=>un.free b o q n hx,fun b o q hx=>?_,un.tups,un.frzs,un.tbls⟩,zpz I.hok x8 (fun b hb=>(hR b hb).2) hfr,⟨F.ne,F.fe,vs',x1,x3,.inr ⟨T,x4,x5,⟨hTn,hT⟩,x7⟩⟩,hE⟩
 ·refine x8.keep b o (un.keep b o q n hb hx) (young b o q) fun z=>?_
  rcases cut b z with z | z
  ·exact notL b o q z
  ·exact hb z
 ·obtain ⟨sl,e1⟩:=un.slot b o q n hb hx
  obtain ⟨sl2,e2⟩:=x8.slot b _ e1 (young b o q) (yI _ hb); exact ⟨sl2,e2⟩
 ·obtain ⟨o',e1⟩:=un.there b o q hx
  by_cases z:b ∈ frs (envOfC qual scope s.heap.objs.size f cd :: outer)
  ·obtain ⟨sl,e2⟩:=x8.slot b o' e1 (young b o q) z
   exact ⟨_,e2⟩
  ·exact ⟨o',x8.keep b o' e1 (young b o q) z⟩
end
structure FlyI (X:Cx) (pins:List (Addr × Obj)) (H:Hp) (h:Heap) (e C:Addr) (dd:Option Addr):Prop where
 fe:zeT X pins H e
 ex:∃ vs,X1.Ex h e (.ref C) dd vs/\1<vs.size/\X1.Hd h e vs .none (zeT X pins H)
abbrev XS:=St->XK
def XP (X:Cx) (pins:List (Addr × Obj)) (E:XS) (e:Value) (s':Shared):Prop:=∃ ae C dd σ' H',e=.ref ae/\Inv X pins σ' H' s'/\FlyI X pins H' s'.heap ae C dd/\E σ' (.ref C) dd H'
abbrev TEx:=St->Hp->VK->XK->Prop
abbrev TSx:=Ends->XS->St->Hp->Prop
def at1 (σ:St) (E:XK):XS:=fun σ' c d H'=>σ'=σ/\E c d H'
def PEx (X:Cx) (e:Expr) (t:TEx):Prop:=∀ (pins:List (Addr × Obj)) (s:Shared) (σ:St) (H:Hp) (Q:VK) (E:XK),Inv X pins σ H s->t σ H Q E->wpAny (model X.prog X.w) X.A (eval e X.env) (EP X pins σ Q) (XP X pins (at1 σ E)) s
def PSx (X:Cx) (st:Stmt) (t:TSx):Prop:=∀ (pins:List (Addr × Obj)) (s:Shared) (σ:St) (H:Hp) (D:Ends) (E:XS),Inv X pins σ H s->t D E σ H->wpAny (model X.prog X.w) X.A (exec st X.env) (SP X pins D) (XP X pins E) s
def zi9 (X:Cx) (st:List Stmt) (t:TSx):Prop:=∀ (pins:List (Addr × Obj)) (s:Shared) (σ:St) (H:Hp) (D:Ends) (E:XS),Inv X pins σ H s->t D E σ H->wpAny (model X.prog X.w) X.A (execs st X.env) (SP X pins D) (XP X pins E) s
section
variable {X:Cx} {st:Stmt} {zba:List Stmt} {t u:TSx} {e:Expr} {te:TEx} {pos:Pos}
theorem PS.x {t:TS} (h:PS X.nox st t):PSx X st (fun D _ σ H=>t D σ H):=fun pins s σ H D E I q =>
 yx (h pins s σ H D (I.wish _) q) (fun _ _ q=>q.unwish) fun _ _ z=>z.elim
theorem PA.x {es:List Expr} {t:TA} (h:PA X.nox es t) {E:Value->Shared->Prop} {pos:Pos} {pins:List (Addr × Obj)} {s:Shared} {σ:St} {H:Hp} {Q:List V->Hp->Prop} (I:Inv X pins σ H s) (q:t σ H Q):wpAny (model X.prog X.w) X.A (spliced (backTo pos (starEach es X.env))) (AP X pins σ Q) E s :=
 yx (h pos pins s σ H Q (I.wish _) q) (fun _ _ ⟨v,H',I',r,q⟩=>⟨v,H',I'.unwish,r,q⟩) fun _ _ z=>z.elim
theorem PT.x {t:TT} (h:PT X.nox e t) {E:Value->Shared->Prop} {pins:List (Addr × Obj)} {s:Shared} {σ:St} {H:Hp} {Q:Bool->Hp->Prop} (I:Inv X pins σ H s) (q:t σ H Q):wpAny (model X.prog X.w) X.A (isTrue e X.env (eval e X.env)) (TP X pins σ Q) E s :=
 yx (h pins s σ H Q (I.wish _) q) (fun _ _ ⟨H',I',q⟩=>⟨H',I'.unwish,q⟩) fun _ _ z=>z.elim
theorem XP.at {pins:List (Addr × Obj)} {σ:St} {E:XK} {E':XS} {v:Value} {s':Shared} (h:XP X pins (at1 σ E) v s') (k:∀ c d H',E c d H'->E' σ c d H'):XP X pins E' v s':=by
 obtain ⟨ae,C,dd,σ',H',e1,I,F,rfl,q⟩:=h; exact ⟨ae,C,dd,σ',H',e1,I,F,k _ _ _ q⟩
def zv8 (t u:TSx):TSx:=fun D E σ H=>t { D with nx:=u D E } E σ H
theorem zpM:zi9 X [] (fun D _ σ H=>D.nx σ H):=fun _ _ σ H _ _ I h=>Yx ⟨σ,H,I,h⟩
theorem zm8 (h1:PSx X st t) (h2:zi9 X zba u):zi9 X (st :: zba) (zv8 t u):=by
 intro pins s σ H D E I h
 refine wpAny_execs_cons (thn (h1 pins s σ H { D with nx:=u D E } E I h) fun f s1 q=>?_)
 cases f with
 | next =>
  obtain ⟨σ',H',I',q⟩:=q; exact h2 pins s1 σ' H' D E I' q
 | ret v=>exact q
 | brk=>exact q
 | cont=>exact q
theorem zpL (h1:PSx X st t):zi9 X [st] t:=by
 intro pins s σ H D E I h
 refine wpAny_execs_cons (thn (h1 pins s σ H D E I h) fun f s1 q=>?_)
 cases f with
 | next=>exact Yx q
 | ret v=>exact q
 | brk=>exact q
 | cont=>exact q
def zv9 (c:TT) (t u:TSx):TSx:=fun D E σ H=>c σ H fun b H1=>if b=true then t D E σ H1 else u D E σ H1
theorem zuj {c:Expr} {a b:List Stmt} {tc:TT} (hc:PT X.nox c tc) (ha:zi9 X a t) (hb:zi9 X b u):PSx X (.If c a b pos) (zv9 tc t u):=by
 intro pins s σ H D E I h
 refine wpAny_If (thn (PT.x hc I h) fun d s1 ⟨H1,I1,q1⟩=>?_)
 cases d with
 | true=>exact ha pins s1 σ H1 D E I1 q1
 | false=>exact hb pins s1 σ H1 D E I1 q1
def zul (te:TEx):TSx:=fun D E σ H=>te σ H (fun _ H1=>D.nx σ H1) (E σ)
theorem zpP (he:PEx X e te) (hs:swapsWith e none pos.line X.env=pure false:=by rfl):PSx X (.Expr e pos) (zul te):=by
 intro pins s σ H D E I h
 exact wpAny_Expr_any (yx (he pins s σ H _ _ I h) (fun v s1 ⟨x,H1,I1,r1,q1⟩=>⟨σ,H1,I1,q1⟩) fun _ _ z=>z.at fun _ _ _ q=>q) I.quiet hs
def zwa (te:TEx) (i:Nat):TSx:=fun D E σ H=>te σ H (fun x H1=>D.nx (σ.set i (some x)) H1) (E σ)
theorem zrW {i:Nat} {x:Str} {pos':Pos} (hN:X.N.Nodup) (hi:X.N[i]?=some x) (hx:Loc X.env.scope x) (he:PEx X e te) (hs:swapsWith e (some (.Name x pos')) pos.line X.env=pure false:=by rfl) (hf:X.fn x=true\/X.env.scope.names.lookup x=some .local:=by first | exact .inl rfl | exact .inr rfl | assumption) :
  PSx X (.Assign [.Name x pos'] e pos) (zwa te i):=by
 intro pins s σ H D E I h
 refine wpAny_Assign_Name (yx (he pins s σ H _ _ I h) (fun v s1 ⟨y,H1,I1,r1,q1⟩=>?_) fun _ _ z=>z.at fun _ _ _ q=>q) hs
 exact zd5 I1 hN hi hx r1 (fun s2 I2=>⟨_,H1,I2,q1⟩) hf
theorem zpQ {k:Nat} {f:Addr} {fd:FuncData} {ps:List Str} {sp:Sp} {pins:List (Addr × Obj)} {σ:St} {H:Hp} {s:Shared} {Q:VK} {E:XK} {us:List Value} {vs:List V} (F:FnOk X.prog X.w X.K X.mg X.base (CX1 X.prog X.w) k f fd ps sp) (hr:Room k X.A) (hb:zd2 X.K fd ps [])
  (I:Inv X pins σ H s) (r:za7 vs us) (h:sp vs H Q E):wpAny (model X.prog X.w) X.A (call (.ref f) us) (EP X pins σ Q) (XP X pins (at1 σ E)) s:=by
 have hl:(us ++ []).length=ps.length:=by rw [YG,<- r.length]; exact F.len _ _ _ _ h
 have hb':=hb s us I.kIn hl; rw [YG] at hb'
 refine wpAny_call (codeAny_mono (F.run X.A X.stack s H ⟨us,[]⟩ us vs Q E hr I.env0 hb' r h) fun r s' hq=>?_)
 cases r with
 | error e =>
  obtain ⟨ae,C,dd,H',rfl,os,bare,un,hok,fl,q⟩:=hq
  have I':Inv X pins σ H' s':=I.call' os un hok bare (fun b z=>yM z (by simp))
  have fp:∀ b,s.heap.objs.size<=b->H' b=none->zeT X pins H' b:=fun b h1 h2=>I.fpOk h1 h2
  obtain ⟨vs',x1,x2,x3⟩:=fl.ex; refine ⟨ae,C,dd,σ,H',rfl,I',⟨fp ae fl.ne fl.fe,vs',x1,x2,?_⟩,rfl,q⟩
  rcases x3 with z | ⟨T,y1,y2,y3,y4⟩
  ·exact .inl z
  ·exact .inr ⟨T,y1,y2,fp T y3.1 y3.2,y4⟩
 | ok fl =>
  cases fl with
  | ret u=>exact I.after hq
  | next=>exact False.elim hq
  | brk=>exact False.elim hq
  | cont=>exact False.elim hq
def zum (sp:Sp) (t:TA):TEx:=fun σ H Q E=>t σ H fun vs H1=>sp vs H1 Q E
theorem zpS {k:Nat} {f:Addr} {fd:FuncData} {ps:List Str} {sp:Sp} {x:Str} {p:Pos} {es:List Expr} {ta:TA} (F:FnOk X.prog X.w X.K X.mg X.base (CX1 X.prog X.w) k f fd ps sp) (hr:Room k X.A) (hg:Gl X x) (hm:X.mg x=some (.ref f)) (hk:W.keepIn X.K (.ref f)=true) (hb:zd2 X.K fd ps [])
  (ha:PA X.nox (e :: es) ta) (hdb:(x == ("__debug__":Str))=false:=by decide) (he:starEach (e :: es) X.env=(false,eval e X.env) :: starEach es X.env:=by rfl) (hpl:(backTo pos (starEach es X.env)).any (·.1)=false:=by rfl) :
  PEx X (.Call (.Name x p) (e :: es) [] pos) (zum sp ta):=by
 intro pins s σ H Q E I h; refine Ys (zdZ I hg hm ?_ hdb)
 refine W.callWith_K (h₀:=X.base) I.ok.mod.kin hk (thn (PA.x ha I h) fun us s1 ⟨vs,H1,I1,r,q⟩=>⟨I1.kIn,?_⟩) he hpl
 exact zpQ F hr hb I1 r q
end
section
variable {P:Program} {w:World} {K:W.Frag} {mg:Str->Option Value} {base:Heap}
theorem Fun.okx {x qual:Str} {st:Stmt} {f:Addr} {fd:FuncData} {N ps:List Str} {k:Nat} {sp:Sp} (F:Fun K x qual st f fd) (S:FnScope N ps (zo st)) (len:∀ vs H Q E,sp vs H Q E->vs.length=ps.length)
  (hbody:∀ (cdv:Value) (A:Around) (outer:List Env) (s:Shared) (H:Hp) (vs:List V) (Q:VK) (E:XK),Room k (A.deeper (envOfC qual (zo st) s.heap.objs.size f cdv))->sp vs H Q E ->
   ∃ t,zi9 (zi5 (CX1 P w) P w K mg base N qual (zo st) f cdv A outer s H E) (zbT st) t/\t { nx:=fun _ H'=>Q .non H',rt:=Q } (fun _=>E) (start N vs) H):FnOk P w K mg base (CX1 P w) (k+1) f fd ps sp:=by
 obtain ⟨oc,od,kV,doc,pm,an,cdv,ct,osl,e,lk,cd⟩:=F.ex; subst e
 refine zto lk cd S len fun A outer s H vs Q E hr h=>?_
 obtain ⟨t,h1,h2⟩:=hbody cdv A outer s H vs Q E hr h
 refine ⟨fun D σ H'=>t D (fun _=>E) σ H',?_,h2⟩
 intro pins s1 σ H1 D I q
 refine yx (h1 pins s1 σ H1 D _ I q) (fun _ _ z=>z) fun v s' z=>?_
 obtain ⟨ae,C,dd,σ',H',rfl,I',fl,hE⟩:=z
 have old:∀ b,zeT (zi5 (CX1 P w) P w K mg base N qual (zo st) f cdv A outer s H E) pins H' b->s.heap.objs.size<=b/\H' b=none:=fun b hb=>by
  obtain ⟨f0,_,_,f3,_⟩:=hb
  rcases f3 with z | z
  ·exact yM (show b ∈ ([]:List Addr) from z) (by simp)
  ·exact ⟨z,f0⟩
 obtain ⟨vs',x1,x2,x3⟩:=fl.ex; refine zs9 I' ⟨(old ae fl.fe).1,(old ae fl.fe).2,vs',x1,x2,?_⟩ hE
 rcases x3 with z | ⟨T,y1,y2,y3,y4⟩
 ·exact .inl z
 ·exact .inr ⟨T,y1,y2,old T y3,y4⟩
end
def del (H:Hp) (a:Addr):Hp:=fun b=>if b=a then none else H b
def vbm:List Value:=[.type "ValueError",.type "Exception",.type "BaseException",.type "object"]
structure XCl (K:W.Frag) (C N:Addr) (bm:List Value):Prop where
 xc:∀ h:Heap,K.In h->X1.XC h C N bm "ValueError.__new__"
 tail:∀ h:Heap,K.In h->OwnTail h vbm bm
 base:bm.contains (.type "BaseException")=true
 kp:W.keepIn K (.ref C)=true
section
variable {X:Cx}
end
abbrev Cx.mark (X:Cx) (e:Value):Cx:={ X with A:=X.A.mark (some e),calm:=false,xe:=fun _ _=>False }
def zrL:Option Value->List Addr
 | some (.ref b)=>[b]
 | _=>[]
theorem znx {o:Option Value} {b:Addr}:b ∈ zrL o↔o=some (.ref b):=by
 cases o with
 | none=>simp [zrL]
 | some v=>cases v <;> simp [zrL,eq_comm]
section
variable {X:Cx} {pins:List (Addr × Obj)} {σ:St} {H:Hp} {s:Shared}
theorem Inv.mark (I:Inv X pins σ H s) (e:Value):Inv (X.mark e) pins σ H s :=
 ⟨⟨I.ok.mod,I.ok.kind,I.ok.glob,I.ok.blt,I.ok.above,I.ok.inj,I.ok.has,I.ok.cab,fun z=>(nomatch (show false=true from z)),I.ok.frames,I.ok.stk,I.ok.exf,I.ok.bs,I.ok.bsz,I.ok.noex,I.ok.exfs,I.ok.funs,I.ok.frf,I.ok.tab⟩,I.os,I.bare,I.base,I.loc,I.cell,I.free,I.freeC,I.pin,I.hok,I.len⟩
theorem Inv.unmark {e:Value} (ok:X.Ok) (I:Inv (X.mark e) pins σ H s):Inv X pins σ H s :=
 ⟨ok,I.os,I.bare,I.base,I.loc,I.cell,I.free,I.freeC,I.pin,I.hok,I.len⟩
theorem ztv {M:Model} {A:Around} {E:Value->Shared->Prop} {i:Nat} {x:Str} {Q:Bool->Shared->Prop} (I:Inv X pins σ H s) (hN:X.N.Nodup) (hi:X.N[i]?=some x) (hk:X.env.scope.names.lookup x=some .local) {v:V} (hv:σ[i]?=some (some v))
  (h:∀ s',Inv X pins (σ.set i none) H s'->Q true s'):wpAny M A (nsDel X.env.locals x) Q E s:=by
 obtain ⟨m,hn,hl⟩:=id I.loc; have cne:=I.cne; obtain ⟨oL,_,_,hoL,_⟩:=id hn
 have hm:(m x).isSome=true:=by
  obtain ⟨u,r,q⟩:=hl i x v hi hv (.inl hk)
  rcases q with ⟨_,e⟩ | ⟨k,_⟩
  ·rw [e]; rfl
  ·have k':X.env.scope.names.lookup x=some .cell\/X.env.scope.names.lookup x=some .free:=k
   rw [hk] at k'
   rcases k' with z | z <;> cases z
 refine wpAny_nsDel_keeps hn fun h' v' hn' hs=>?_
 rw [hm]
 have tracked:HOk X.prog X.w H h':=fun b ob e=>by
  refine (I.hok b ob e).stay (fun c w' hc q=>(hs.2 c ?_).trans q) (fun _ q=>q) fun _ _ q=>q
  rintro rfl
  rcases hc with rfl | hc
  ·rw [I.free] at e; cases e
  ·rw [I.free] at hc; cases hc
 refine h _ ⟨I.ok,I.os,I.bare,⟨fun b o e n hb hx=>?_,fun b o e n hb hx=>?_,I.base.free,fun b o e hx=>?_,I.base.tups,I.base.frzs,I.base.tbls⟩,⟨_,hn',fun j y w' e1 e2 e3=>?_⟩,fun y c e=>?_,I.free,I.freeC,fun p hp=>?_,tracked,by simpa using I.len⟩
 ·exact (hs.2 b (yd (yW (yN e) I.ok.above))).trans (I.base.keep b o e n hb hx)
 ·obtain ⟨sl,e1⟩:=I.base.slot b o e n hb hx
  exact ⟨sl,(hs.2 b (yd (yW (yN e) I.ok.above))).trans e1⟩
 ·obtain ⟨o',e1⟩:=I.base.there b o e hx
  exact ⟨o',(hs.2 b (yd (yW (yN e) I.ok.above))).trans e1⟩
 ·by_cases hj:j=i
  ·subst hj
   rw [Ya (yF.mp hv).1] at e2; cases e2
  ·rw [ye (Ne.symm hj)] at e2
   obtain ⟨u',r',q⟩:=hl j y w' e1 e2 e3; refine ⟨u',r',?_⟩
   rcases q with ⟨k,e⟩ | ⟨k,c,e,z⟩
   ·refine .inl ⟨k,?_⟩
    have:y≠x:=fun e=>hj (zgY hN e1 (e ▸ hi))
    simp [this,e]
   ·exact .inr ⟨k,c,e,z.sameBut hs (cne y c e)⟩
 ·obtain ⟨w',z⟩:=I.cell y c e
  exact ⟨w',z.sameBut hs (cne y c e)⟩
 ·obtain ⟨e,n,ne,nf,d⟩:=I.pin p hp
  exact ⟨(hs.2 p.1 ne).trans e,n,ne,nf,d⟩
theorem zg7 {M:Model} {A:Around} {E:Value->Shared->Prop} {i:Nat} {x:Str} {pos:Pos} {Q:Unit->Shared->Prop} (I:Inv X pins σ H s) (hN:X.N.Nodup) (hi:X.N[i]?=some x) (hk:X.env.scope.names.lookup x=some .local)
  (h:∀ s',Inv X pins (σ.set i none) H s'->Q () s'):wpAny M A (do bindName X.env x .none; unbindBehindTheSuite X.env x pos) Q E s:=by
 have hiσ:i<σ.length:=by rw [I.len]; exact (yF.mp hi).1
 refine yA (wpAny_bindName (zd5 (v:=.non) I hN hi (.inl hk) rfl (fun s1 I1=>?_) (.inr hk)))
 unfold unbindBehindTheSuite; refine wpAny_onRaise ?_; unfold unbindName; refine yA (wpAny_point (yA ?_))
 have hp:(X.env.scope.kind == .class || (X.env.scope.kind == .module && X.env.locals != X.env.globals))=false:=by rw [I.ok.kind]; rfl
 have hl:X.env.kindOf x=some .local:=hk
 unfold deleteName; simp only [hl,hp]
 rw [yQ (by decide)]
 refine yA (ztv (v:=.non) I1 hN hi hk (Ya hiσ) fun s2 I2=>?_)
 simp only [Bool.not_true,YU,if_false]; rw [List.set_set] at I2; exact yE (wpAny_point (h s2 I2))
theorem zr0 {P:Program} {w:World} {H:Hp} {h:Heap} {a C:Addr} {dd:Option Addr} (x:XAt a C dd h):zbM P w H h a (.ext (XAt a C dd)):=by
 refine ⟨x,?_,fun h1 h2 ⟨t,sl,e⟩ k=>⟨t,sl,k _ e⟩⟩
 obtain ⟨t,sl,e⟩:=x; exact ⟨_,e⟩
theorem Inv.track {a:Addr} {φ:Heap->Prop} (I:Inv X pins σ H s) (f:zeT X pins H a) (new:zbM X.prog X.w (upd H a (.ext φ)) s.heap a (.ext φ)):Inv X pins σ (upd H a (.ext φ)) s:=by
 obtain ⟨f0,f1,f2,f3,f4,f5⟩:=f
 have sm:∀ b u,H b=some u->upd H a (.ext φ) b=some u:=fun b u e=>by rw [zI (za3 e f0)]; exact e
 refine ⟨I.ok,I.os,I.bare,⟨I.base.keep,I.base.slot,fun b o e n hx=>?_,I.base.there,fun b xs e=>sm _ _ (I.base.tups b xs e),fun b o u e=>sm _ _ (I.base.frzs b o u e),fun b ps e=>?_⟩,I.loc,I.cell,?_,fun x c e=>?_,fun p hp=>?_,fun b u e=>?_,I.len⟩
 ·have:b≠a:=fun z=>by
   rcases f3 with y | y
   ·exact hx (by rw [z]; exact y)
   ·exact yM (yW (yN e) (by rw [z]; exact y)) (YS _)
  rw [zI this]; exact I.base.free b o e n hx
 ·obtain ⟨more,z⟩:=I.base.tbls b ps e
  exact ⟨more,sm _ _ z⟩
 ·rw [zI (Ne.symm f1)]; exact I.free
 ·rw [zI (f4 x c e)]; exact I.freeC x c e
 ·obtain ⟨e,n,ne,nf,d⟩:=I.pin p hp
  exact ⟨e,by rw [zI (f5 p hp)]; exact n,ne,nf,d⟩
 ·by_cases z:b=a
  ·subst z
   rw [zv] at e; cases e; exact new
  ·rw [zI z] at e
   exact (I.hok b u e).stay (fun _ _ _ q=>q) (fun c q=>sm _ _ q) fun c xs q=>sm _ _ q
theorem zk5 {E:Value->Shared->Prop} {e C:Addr} {dd:Option Addr} {Q:Unit->Shared->Prop} (hst:X.stack=X.env :: X.outer) (hf:X.env.frame=some X.env.locals) (I:Inv X pins σ H s) (F:FlyI X pins H s.heap e C dd)
  (q:∀ s' T vs,Inv X pins σ H s'->zeT X pins H e->zeT X pins H T->T≠e->X1.Ex s'.heap e (.ref C) dd vs->vs[1]?=some (.ref T)->X1.Ent s'.heap T .none->Q () s') :
  wpAny (model X.prog X.w) X.A (noteFrame (.ref e) X.env) (fun _ s2=>wpAny (model X.prog X.w) X.A (setFlight (.ref e) none) Q E s2) E s:=by
 obtain ⟨vs,hx,hs,hd⟩:=F.ex
 have hR:∀ b,(b=e\/vs[1]?=some (.ref b))->zeT X pins H b:=fun b hb=>by
  rcases hb with rfl | hb
  ·exact F.fe
  ·rcases hd with ⟨h,_⟩ | ⟨T,h1,_,h3,_⟩
   ·rw [hb] at h; cases h
   ·rw [hb] at h1
    cases h1; exact h3
 have hd':X1.Hd s.heap e vs .none (fun b=>b=e\/vs[1]?=some (.ref b)):=by
  rcases hd with h | ⟨T,h1,h2,h3,h4⟩
  ·exact .inl h
  ·exact .inr ⟨T,h1,h2,.inr h1,h4⟩
 have hstk:s.heap.FunFrames X.base (X.env :: X.outer):=by rw [<- hst]; exact I.stack
 have hfr:X.A.frames=some (X.env :: X.outer):=by rw [<- hst]; exact I.ok.frames
 refine X1.note (R:=fun b=>b=e\/vs[1]?=some (.ref b)) hfr hstk hf hx hs hd' (.inl rfl) fun h' T vs' x1 x2 x3 x4 x5 x6 x7=>?_
 -- the state behind it
 have fs:∀ b,b ∈ (X.env :: X.outer).filterMap (·.frame)↔b ∈ frs X.stack:=fun b=>by rw [hst]; exact Iff.rfl
 have hfrN:∀ b ∈ frs X.stack,H b=none:=I.stkFree
 have hch:∀ b,b ∈ e :: zrL vs[1]?↔(b=e\/vs[1]?=some (.ref b)):=fun b=>by rw [yJ,znx]
 have un:Un (frs X.stack) (e :: zrL vs[1]?) H H s.heap h':=by
  refine ⟨fun b o eb n hb hx=>x7.keep b o eb (fun z=>hx ((hch b).mpr z)) (fun z=>hb ((fs b).mp z)),fun b o eb n hb hx=>x7.slot b o eb (fun z=>hx ((hch b).mpr z)) ((fs b).mpr hb),fun b o eb n hx=>n,fun b o eb hx=>?_,fun _ _ z=>z,fun _ _ _ z=>z,fun b ps z=>⟨#[],by rw [z]; simp⟩⟩
  by_cases z:b ∈ frs X.stack
  ·obtain ⟨sl,e2⟩:=x7.slot b o eb (fun z=>hx ((hch b).mpr z)) ((fs b).mpr z)
   exact ⟨_,e2⟩
  ·exact ⟨o,x7.keep b o eb (fun z=>hx ((hch b).mpr z)) fun y=>z ((fs b).mp y)⟩
 have hok:HOk X.prog X.w H h':=zpz I.hok x7 (fun b hb=>(hR b hb).1) (fun b hb=>hfrN b ((fs b).mp hb))
 have I1:Inv X pins σ H { s with heap:=h' }:=I.call (g':=s.gens) (t':=s.toks) (d':=s.drawn) (ch:=e :: zrL vs[1]?) un hok I.bare fun b hb=>by
  obtain ⟨_,y1,_,y3,y4,y5⟩:=hR b ((hch b).mp hb); exact ⟨y3,y1,y4,y5⟩
 have hT:H T=none:=I.hok.fresh x5
 have fT:zeT X pins H T:=I.fpOk x5 hT
 refine X1.flight (s:={ s with heap:=h' }) (R:=fun _=>True) x1 x3 x4 x6 True.intro fun h2 y1 y2 y3 y4=>?_
 obtain ⟨g0,g1,g2,g3,g4,g5⟩:=id fT
 exact q _ T vs' (I1.turned (t':=s.toks) (fun b o hb eb=>by rw [y3 b hb]; exact eb) g0 g1 g3 g4 g5) F.fe fT x4 y1 x3 y2
end
section
variable {X:Cx}
def zv7 (K:W.Frag) (M:Addr) (i:Nat) (tb:TSx) (ts:TS):TSx:=fun D _ σ H=>tb D (fun σ1 c dd H1=>∃ C,c=.ref C/\W.exmOne K c (.ref M)=some true/\∀ ae,H1 ae=none ->
 ts { nx:=fun σ2 H2=>D.nx (σ2.set i none) H2,rt:=D.rt,bk:=fun σ2 H2=>D.bk (σ2.set i none) H2,ct:=fun σ2 H2=>D.ct (σ2.set i none) H2 } (σ1.set i (some (.ref ae))) (upd H1 ae (.ext (XAt ae C dd)))) σ H
theorem zrV {M:Addr} {i:Nat} {x n:Str} {body suite:List Stmt} {b0:Stmt} {tb:TSx} {ts:TS} {p hpos pos:Pos} (hst:X.stack=X.env :: X.outer) (hf:X.env.frame=some X.env.locals) (hb:zi9 X body tb) (hs:∀ e,PSs (X.mark e) (b0 :: suite) ts) (hg:Gl X x) (hm:X.mg x=some (.ref M)) (hN:X.N.Nodup) (hi:X.N[i]?=some n)
  (hk:X.env.scope.names.lookup n=some .local) (hdb:(x == ("__debug__":Str))=false:=by decide):PSx X (.Try body [.ExceptHandler (some (.Name x p)) (some n) (b0 :: suite) hpos] [] [] pos) (zv7 X.K M i tb ts):=by
 intro pins s σ H D E I h
 refine wpAny_Try_except (yx (hb pins s σ H D _ I h) (fun f s1 q=>?_) fun v s1 q=>?_)
 ·cases f with
  | next=>exact Yx q
  | ret v=>exact q
  | brk=>exact q
  | cont=>exact q
 ·obtain ⟨ae,C,dd,σ1,H1,rfl,I1,F,C',hC,hx,q⟩:=q
  obtain rfl:C=C':=Value.ref.inj hC
  refine zk5 hst hf I1 F fun s2 T vs I2 fe fT hne x1 x2 x3=>?_
  refine wpAny_handleBy_cons (codeAny_handlers_test ?_) (by intro q; cases q)
  refine zdZ (X:=X.mark (.ref ae)) (I2.mark (.ref ae)) hg hm ?_ hdb; obtain ⟨sl,x1'⟩:=id x1
  have LT:W.Looks (model X.prog X.w) s2.heap (typeOf (.ref ae)) (.ref C):=(W.Looks.ld x1').andThen .now
  refine (W.exm_one I2.kIn LT hx).at ?_
  show codeAny _ _ _ _ _
  refine codeAny_handlers_suite_as ?_
  refine X1.flight (R:=fun _=>True) x1 x2 hne x3 True.intro fun h3 y1 y2 y3 y4=>?_
  obtain ⟨g0,g1,g2,g3,g4,g5⟩:=id fT
  have I3:Inv X pins σ1 H1 { s2 with heap:=h3 }:=I2.turned (t':=s2.toks) (fun b o hb eb=>by rw [y3 b hb]; exact eb) g0 g1 g3 g4 g5
  obtain ⟨sl3,y1'⟩:=id y1
  have I4:Inv X pins σ1 (upd H1 ae (.ext (XAt ae C dd))) { s2 with heap:=h3 }:=I3.track fe (zr0 ⟨_,sl3,y1'⟩)
  refine zd5 (X:=X) (v:=.ref ae) I4 hN hi (.inl hk) rfl (fun s5 I5=>?_) (.inr hk)
  refine yx (hs (.ref ae) pins s5 _ _ _ (I5.mark (.ref ae)) (q ae fe.1)) (fun f s6 q6=>?_) fun _ _ z=>False.elim z
  cases f with
  | next =>
   obtain ⟨σ6,H6,I6,q6⟩:=q6
   exact zg7 (I6.unmark I.ok) hN hi hk fun s7 I7=>⟨_,_,I7,q6⟩
  | brk =>
   obtain ⟨σ6,H6,I6,q6⟩:=q6
   exact zg7 (I6.unmark I.ok) hN hi hk fun s7 I7=>⟨_,_,I7,q6⟩
  | cont =>
   obtain ⟨σ6,H6,I6,q6⟩:=q6
   exact zg7 (I6.unmark I.ok) hN hi hk fun s7 I7=>⟨_,_,I7,q6⟩
  | ret u =>
   obtain ⟨v6,σ6,H6,I6,r6,q6⟩:=q6
   exact zg7 (I6.unmark I.ok) hN hi hk fun s7 I7=>⟨_,_,_,I7,r6,q6⟩
end
end L2
namespace PL
open PySem L2
abbrev XW:=Addr->List (Str × D)->Sts->Prop
abbrev zmP:=Sts->(D->Sts->Prop)->XW->Prop
abbrev zhi:=Ends'->XW->Sts->Prop
def zoY (K:W.Frag) (n:Nat) (W:Wd) (Hi:Hp) (E:XW) (E2:XS):Prop:=∀ σ' H' Hi' Γ' C dd fs,zaS Hi Hi'->Good K n W Hi' Γ' σ' H'->zpJ K Hi' dd fs->E C fs Γ'->E2 σ' (.ref C) dd H'
theorem zoY.mono {K:W.Frag} {n:Nat} {W:Wd} {Hi Hi':Hp} {E:XW} {E2:XS} (l:zoY K n W Hi E E2) (s:zaS Hi Hi'):zoY K n W Hi' E E2:=fun σ' H' Hi2 Γ' C dd fs e=>l σ' H' Hi2 Γ' C dd fs (s.trans e)
def zwc (K:W.Frag) (n:Nat) (t:zmP):TEx:=fun σ H Q2 E2=>∃ W Hi Γ Q E,Good K n W Hi Γ σ H/\t Γ Q E/\(∀ v H',ztI K n W Hi σ Q v H'->Q2 v H')/\∀ H' Hi' Γ' C dd fs,zaS Hi Hi'->Good K n W Hi' Γ' σ H'->zpJ K Hi' dd fs->E C fs Γ'->E2 (.ref C) dd H'
def zvO (K:W.Frag) (n:Nat) (t:zhi):TSx:=fun N2 E2 σ H=>∃ W Hi Γ N E,Good K n W Hi Γ σ H/\t N E Γ/\Lifts K n W Hi N N2/\zoY K n W Hi E E2
structure PEx' (X:Cx) (e:Expr) (t:zmP):Prop where
 h:PEx X e (zwc X.K X.N.length t)
structure PSx' (X:Cx) (s:Stmt) (t:zhi):Prop where
 h:PSx X s (zvO X.K X.N.length t)
structure PSsx' (X:Cx) (s:List Stmt) (t:zhi):Prop where
 h:zi9 X s (zvO X.K X.N.length t)
section
variable {X:Cx} {pos:Pos} {e:Expr} {te:zmP} {st:Stmt} {zba:List Stmt} {t u:zhi}
theorem PEx.weak {t t2:TEx} (h:PEx X e t) (w:∀ σ H Q E,t2 σ H Q E->t σ H Q E):PEx X e t2:=fun pins s σ H Q E I q=>h pins s σ H Q E I (w _ _ _ _ q)
theorem PSx.weak {t t2:TSx} (h:PSx X st t) (w:∀ N E σ H,t2 N E σ H->t N E σ H):PSx X st t2:=fun pins s σ H N E I q=>h pins s σ H N E I (w _ _ _ _ q)
theorem zi9.weak {sts:List Stmt} {t t2:TSx} (h:zi9 X sts t) (w:∀ N E σ H,t2 N E σ H->t N E σ H):zi9 X sts t2:=fun pins s σ H N E I q=>h pins s σ H N E I (w _ _ _ _ q)
def xS (t:TS'):zhi:=fun N _ Γ=>t N Γ
theorem PS'.x {t:TS'} (h:PS' X.nox st t):PSx' X st (xS t):=by
 refine ⟨PSx.weak (PS.x (X:=X) h.h) ?_⟩
 rintro N2 E2 σ H ⟨W,Hi,Γ,N,E,g,q,l,_⟩
 exact ⟨W,Hi,Γ,N,g,q,l⟩
theorem zja:PSsx' X [] (xS zy):=by
 refine ⟨zi9.weak zpM ?_⟩
 rintro N2 E2 σ H ⟨W,Hi,Γ,N,E,g,q,l,_⟩
 exact l.nx σ H Hi Γ (zaS.refl _) g q
def zaw (t u:zhi):zhi:=fun N E Γ=>t { N with nx:=u N E } E Γ
theorem ze5 (h1:PSx' X st t) (h2:PSsx' X zba u):PSsx' X (st :: zba) (zaw t u):=by
 refine ⟨zi9.weak (zm8 h1.h h2.h) ?_⟩
 rintro N2 E2 σ H ⟨W,Hi,Γ,N,E,g,q,l,x⟩
 refine ⟨W,Hi,Γ,_,E,g,q,⟨?_,l.bk,l.ct,l.rt⟩,x⟩; intro σ1 H1 Hi1 Γ1 s1 g1 q1; exact ⟨W,Hi1,Γ1,N,E,g1,q1,l.mono s1,x.mono s1⟩
theorem zd3 (h1:PSx' X st t):PSsx' X [st] t:=⟨zpL h1.h⟩
def zax (c:TT') (t u:zhi):zhi:=fun N E Γ=>c Γ fun b Γ1=>if b=true then t N E Γ1 else u N E Γ1
theorem zo0 {c:Expr} {sa sb:List Stmt} {tc:TT'} (hc:PT' X.nox c tc) (ha:PSsx' X sa t) (hb:PSsx' X sb u):PSx' X (.If c sa sb pos) (zax tc t u):=by
 refine ⟨PSx.weak (zuj (X:=X) hc.h ha.h hb.h) ?_⟩
 rintro N2 E2 σ H ⟨W,Hi,Γ,N,E,g,q,l,x⟩
 refine ⟨W,Hi,Γ,_,g,q,?_⟩; intro k H1 Hi1 Γ1 s1 g1 q1
 cases k with
 | true=>exact ⟨W,Hi1,Γ1,N,E,g1,q1,l.mono s1,x.mono s1⟩
 | false=>exact ⟨W,Hi1,Γ1,N,E,g1,q1,l.mono s1,x.mono s1⟩
def zG (te:zmP):zhi:=fun N E Γ=>te Γ (fun _ Γ1=>N.nx Γ1) E
theorem zm9 (he:PEx' X e te) (hs:swapsWith e none pos.line X.env=pure false:=by rfl):PSx' X (.Expr e pos) (zG te):=by
 refine ⟨PSx.weak (zpP he.h hs) ?_⟩
 rintro N2 E2 σ H ⟨W,Hi,Γ,N,E,g,q,l,x⟩
 refine ⟨W,Hi,Γ,_,E,g,q,?_,fun H1 Hi1 Γ1 C dd fs s1 g1 xd q1=>x σ H1 Hi1 Γ1 C dd fs s1 g1 xd q1⟩
 rintro v H1 ⟨Hi1,d,Γ1,s1,g1,den,q1⟩
 exact l.nx σ H1 Hi1 Γ1 s1 g1 q1
def zaH (te:zmP):zhi:=fun N E Γ=>te Γ (fun d Γ1=>N.rt (.val d) Γ1) E
def zay (te:zmP) (i:Nat):zhi:=fun N E Γ=>te Γ (fun d Γ1=>N.nx (Γ1.set i (.val d))) E
theorem zpO (i:Nat) {x:Str} {pos':Pos} (hN:X.N.Nodup) (he:PEx' X e te) (hi:X.N[i]?=some x:=by rfl) (hx:Loc X.env.scope x:=by first | exact Or.inl rfl | exact Or.inr rfl) (hs:swapsWith e (some (.Name x pos')) pos.line X.env=pure false:=by rfl)
  (hf:X.fn x=true\/X.env.scope.names.lookup x=some .local:=by first | exact .inl rfl | exact .inr rfl | assumption):PSx' X (.Assign [.Name x pos'] e pos) (zay te i):=by
 refine ⟨PSx.weak (zrW (i:=i) hN hi hx he.h hs hf) ?_⟩
 rintro N2 E2 σ H ⟨W,Hi,Γ,N,E,g,q,l,x⟩
 refine ⟨W,Hi,Γ,_,E,g,q,?_,fun H1 Hi1 Γ1 C dd fs s1 g1 xd q1=>x σ H1 Hi1 Γ1 C dd fs s1 g1 xd q1⟩
 rintro v H1 ⟨Hi1,d,Γ1,s1,g1,den,q1⟩
 exact l.nx _ H1 Hi1 _ s1 (g1.set (yF.mp hi).1 den) q1
abbrev zoX:=List D->(Res->Prop)->(Addr->List (Str × D)->Prop)->Prop
def zuF (K:W.Frag) (sp:zoX):Sp:=fun vs H Q2 E2=>∃ Hi ds Q E,Fz Hi H/\zbC K Hi vs ds/\sp ds Q E/\(∀ Hi' H' v r,Ext Hi H Hi' H'->zrI K H Hi' H' v r->Q r->Q2 v H')/\∀ Hi' H' C dd fs,Ext Hi H Hi' H'->zpJ K Hi' dd fs->E C fs->E2 (.ref C) dd H'
def zH (sp:zoX) (t:TA'):zmP:=fun Γ Q E=>t Γ fun ds Γ1=>sp ds (fun r=>Q r.toD Γ1) fun C fs=>E C fs Γ1
end
structure FnX (P:Program) (w:World) (K:W.Frag) (mg:Str->Option Value) (base:Heap) (k:Nat) (x:Str) (ps:List Str) (sp:zoX):Prop where
 ex:∃ f fd,FnOk P w K mg base (CX1 P w) k f fd ps (zuF K sp)/\zd2 K fd ps []/\W.keepIn K (.ref f)=true/\mg x=some (.ref f)/\∃ oc od osl,K.lookup f=some ⟨oc,od,.func fd,osl⟩
section
variable {X:Cx} {k:Nat} {x:Str} {ps:List Str} {sp:zoX} {p pos:Pos} {e:Expr} {es:List Expr} {t:TA'}
theorem zrX (h:FnX X.prog X.w X.K X.mg X.base k x ps sp) (hr:Room k X.A) (ha:PA' X.nox (e :: es) t) (hg:Gl X x:=by rfl) (hdb:(x == ("__debug__":Str))=false:=by decide) :
  PEx' X (.Call (.Name x p) (e :: es) [] pos) (zH sp t):=by
 obtain ⟨f,fd,F,b,kp,m,_⟩:=h.ex; refine ⟨PEx.weak (zpS F hr hg m kp b ha.pa hdb (zby (zaY ha.pl).1) (zbK (zaY ha.pl).2)) ?_⟩
 rintro σ H Q E ⟨W,Hi,Γ,Q',E',g,h,fin,fix⟩
 refine ⟨W,Hi,Γ,_,g,h,?_⟩; intro vs H1 Hi1 Γ1 ds s1 g1 dl q; refine ⟨Hi1,ds,_,_,g1.fz,dl,q,?_,?_⟩
 ·intro Hi2 H2 v r ex ro q2
  cases r with
  | val d=>exact fin v H2 ⟨Hi2,d,Γ1,s1.trans ex.hi,g1.ext ex,ro,q2⟩
  | own o =>
   obtain ⟨a,rfl,h1,h2,h3⟩:=ro; have nw:=zdy g1 ex h1 h2 h3; obtain ⟨u,hu⟩:=h3.there; exact fin _ H2 ⟨upd Hi2 a u,_,Γ1,s1.trans (ex.hi.trans (zaO h1 u)),(g1.ext ex).freezeA nw.hi nw.h0 nw.ne hu,h3.den h1 hu,q2⟩
  | bk d o =>
   obtain ⟨b',dv,hol,h1,h2,h3⟩:=ro; have nw:=zdy g1 ex h1 h2 h3; obtain ⟨u,hu⟩:=h3.there; exact fin _ H2 ⟨upd Hi2 b' u,_,Γ1,s1.trans (ex.hi.trans (zaO h1 u)),(g1.ext ex).freezeA nw.hi nw.h0 nw.ne hu,hol b' _ v o (h3.den h1 hu) (dv.mono (zaO h1 u)),q2⟩
 ·intro Hi2 H2 C dd fs ex xd q2
  exact fix H2 Hi2 Γ1 C dd fs (s1.trans ex.hi) (g1.ext ex) xd q2
end
section
variable {P:Program} {w:World} {K:PySem.W.Frag} {mg:Str->Option Value} {base:Heap}
theorem zkJ {N ps:List Str} {vs:List V} {ds:List D} {Hi H:Hp} (hlen:ds.length=ps.length) (hpl:ps.length<=N.length) (sb:Fz Hi H) (dl:zbC K Hi vs ds):Good K N.length ⟨H,Hi,[]⟩ Hi (zd7 N ds) (L2.start N vs) H:=by
 have hvl:=zk dl
 refine ⟨?_,sb,fun b o e _=>e,fun b o e=>⟨o,e⟩,fun b o e=>rfl,fun j d e=>?_,fun j o e=>?_,fun j k o o' b e=>?_,fun j d b xs e=>?_⟩
 ·unfold L2.start
  rw [yH,yD,List.length_replicate]; omega
 all_goals
  unfold zd7 at e
  by_cases hj:j<ds.length
  ·rw [Yc (by simpa using hj),yL,yC hj] at e
   try cases e
   try
    obtain ⟨v,e1,e2⟩:=za6 dl (yC hj); refine ⟨v,?_,e2⟩; unfold L2.start
    rw [Yc (by rw [yD]; omega),yL,e1]
    rfl
  ·rw [List.getElem?_append_right (by simpa using hj),List.getElem?_replicate] at e
   split at e <;> cases e
theorem Df.okx {k:Nat} {x:Str} {ps:List Str} {sp:zoX} {st:Stmt} {N:List Str} (d:Df K mg x st ps) (S:FnScope N ps (zo st)) (len:∀ ds Q E,sp ds Q E->ds.length=ps.length)
  (hbody:∀ (f:Addr) (cdv:Value) (A:Around) (outer:List Env) (s:Shared) (H:Hp) (E:XK),Room k (A.deeper (PyProof.Rows.envOfC x (zo st) s.heap.objs.size f cdv))->∀ ds Q E',sp ds Q E' ->
   ∃ t,PSsx' (zi5 (CX1 P w) P w K mg base N x (zo st) f cdv A outer s H E) (zbT st) t/\t { nx:=fun _=>Q (.val .non),rt:=fun r _=>Q r } (fun C fs _=>E' C fs) (zd7 N ds)):FnX P w K mg base (k+1) x ps sp:=by
 obtain ⟨f,fd,F,b,m⟩:=d.ex; obtain ⟨oc,od,kV,doc,pm,an,cdv,ct,osl,e,lk,_⟩:=id F.ex; refine ⟨f,fd,?_,b,F.kp,m,oc,od,osl,lk⟩
 refine F.okx S (fun vs H Q E h=>?_) fun cdv A outer s H vs Q E hr h=>?_
 ·obtain ⟨Hi,ds,Q',E',_,dl,h,_⟩:=h
  rw [zk dl]; exact len ds Q' E' h
 obtain ⟨Hi,ds,Q',E',sb,dl,h,fin,fix⟩:=h; obtain ⟨t,h1,h2⟩:=hbody f cdv A outer s H E hr ds Q' E' h
 have hlen:ds.length=ps.length:=len ds Q' E' h
 have hpl:ps.length<=N.length:=by have:=yp List.length S.pre; rw [YQ] at this; omega
 refine ⟨_,h1.h,⟨H,Hi,[]⟩,Hi,zd7 N ds,_,_,zkJ hlen hpl sb dl,h2,?_,?_⟩
 ·refine ⟨fun σ' H' Hi' Γ' s1 g1 q=>?_,fun _ _ _ _ _ _ q=>q.elim,fun _ _ _ _ _ _ q=>q.elim,fun v σ' H' Hi' Γ' r s1 g1 ro q=>?_⟩
  ·exact fin Hi' H' .non (.val .non) ⟨s1,fun b o e=>g1.keep b o e (by simp),g1.fz,fun b o e=>g1.fro b o e⟩ .non q
  ·exact fin Hi' H' v r ⟨s1,fun b o e=>g1.keep b o e (by simp),g1.fz,fun b o e=>g1.fro b o e⟩ ro q
 ·intro σ' H' Hi' Γ' C dd fs s1 g1 xd q
  exact fix Hi' H' C dd fs ⟨s1,fun b o e=>g1.keep b o e (by simp),g1.fz,fun b o e=>g1.fro b o e⟩ xd q
end
section
variable {X:Cx} {k:Nat} {x fld:Str} {C:Addr} {ok:V->Hp->Prop} {okD:D->Prop} {p cpos pos:Pos} {e:Expr} {ta:TA'}
def zt (C:Addr) (fld:Str) (okD:D->Prop) (ta:TA'):zhi:=fun _ E Γ=>ta Γ fun ds Γ1=>∃ d,ds=[d]/\okD d/\E C [(fld,d)] Γ1
end
theorem Good.unset {K:W.Frag} {n:Nat} {W:Wd} {Hi H:Hp} {Γ:Sts} {σ:St} (g:Good K n W Hi Γ σ H) {i:Nat} (hi:i<n):Good K n W Hi (Γ.set i .emp) (σ.set i none) H:=by
 have ad:∀ j,j≠i->adr n W (σ.set i none) j=adr n W σ j:=fun j hj=>by
  unfold adr
  rw [ye (fun z=>hj z.symm)]
 have inv:∀ (j:Nat) (s:Slot),(Γ.set i .emp)[j]?=some s->(j=i/\s=.emp)\/(j≠i/\Γ[j]?=some s):=fun j s e=>by
  by_cases hj:j=i
  ·subst hj
   refine .inl ⟨rfl,?_⟩; rw [List.getElem?_set] at e; simp only [if_true] at e; split at e
   ·exact (Option.some.inj e).symm
   ·cases e
  ·rw [ye (fun z=>hj z.symm)] at e
   exact .inr ⟨hj,e⟩
 refine ⟨by rw [List.length_set]; exact g.len,g.fz,g.keep,g.there,g.fro,fun j d' e=>?_,fun j o e=>?_,fun j k o o' a e1 e2 h1 h2=>?_,fun j d' b xs e=>?_⟩
 ·rcases inv j _ e with ⟨rfl,z⟩ | ⟨hj,z⟩
  ·cases z
  ·obtain ⟨w,h1,h2⟩:=g.val j d' z
   exact ⟨w,by rw [ye (fun z=>hj z.symm)]; exact h1,h2⟩
 ·rcases inv j _ e with ⟨rfl,z⟩ | ⟨hj,z⟩
  ·cases z
  ·obtain ⟨a,h1,h2⟩:=g.own j o z
   exact ⟨a,by rw [ad j hj]; exact h1,h2⟩
 ·rcases inv j _ e1 with ⟨rfl,z⟩ | ⟨hj,z⟩
  ·cases z
  ·rcases inv k _ e2 with ⟨rfl,y⟩ | ⟨hk,y⟩
   ·cases y
   ·exact g.apart j k o o' a z y (by rw [<- ad j hj]; exact h1) (by rw [<- ad k hk]; exact h2)
 ·rcases inv j _ e with ⟨rfl,z⟩ | ⟨hj,z⟩
  ·cases z
  ·obtain ⟨⟨w,w1,w2⟩,h1,h2,h3,h4,h5,h6⟩:=g.bk j d' b xs z
   refine ⟨⟨w,by rw [ye (fun z=>hj z.symm)]; exact w1,w2⟩,h1,h2,h3,h4,fun k d' xs' q=>?_,fun k o' q=>?_⟩
   ·rcases inv k _ q with ⟨rfl,y⟩ | ⟨hk,y⟩
    ·cases y
    ·exact h5 k _ _ y
   ·rcases inv k _ q with ⟨rfl,y⟩ | ⟨hk,y⟩
    ·cases y
    ·rw [ad k hk]
     exact h6 k o' y
section
variable {X:Cx} {M:Addr} {x n:Str} {body suite:List Stmt} {b0:Stmt} {tb:zhi} {ts:TS'} {p hpos pos:Pos}
def zaA (K:W.Frag) (M:Addr) (i:Nat) (tb:zhi) (ts:TS'):TS':=fun N Γ=>tb N (fun C fs Γ1=>W.exmOne K (.ref C) (.ref M)=some true /\
 ts { nx:=fun Γ2=>N.nx (Γ2.set i .emp),rt:=N.rt,bk:=fun Γ2=>N.bk (Γ2.set i .emp),ct:=fun Γ2=>N.ct (Γ2.set i .emp) } (Γ1.set i (.val (.exc C fs)))) Γ
theorem zqm (i:Nat) (hb:PSsx' X body tb) (hs:∀ e,PSs' (X.mark e) (b0 :: suite) ts) (hm:X.mg x=some (.ref M)) (hN:X.N.Nodup) (hst:X.stack=X.env :: X.outer:=by rfl) (hf:X.env.frame=some X.env.locals:=by rfl) (hi:X.N[i]?=some n:=by rfl) (hk:X.env.scope.names.lookup n=some .local:=by rfl) (hg:Gl X x:=by rfl)
  (hdb:(x == ("__debug__":Str))=false:=by decide):PS' X (.Try body [.ExceptHandler (some (.Name x p)) (some n) (b0 :: suite) hpos] [] [] pos) (zaA X.K M i tb ts):=by
 have hin:i<X.N.length:=(yF.mp hi).1
 have h0:=zrV (X:=X) (p:=p) (hpos:=hpos) (pos:=pos) (ts:=sOf X.K X.N.length ts) hst hf hb.h (fun e=>(hs e).h) hg hm hN hi hk hdb
 refine ⟨fun pins s σ H N2 I q=>?_⟩
 refine yx (h0 pins s σ H N2 (fun _ _ _ _=>False) I ?_) (fun _ _ z=>z) fun v s' z=>?_
 ·obtain ⟨W,Hi,Γ,N,g,h,l⟩:=q
  refine ⟨W,Hi,Γ,N,_,g,h,l,?_⟩
  rintro σ1 H1 Hi1 Γ1 C dd fs s1 g1 xd ⟨hx,q1⟩
  refine ⟨C,rfl,hx,fun ae hae=>?_⟩
  have ex:=Ext.new g1.fz hae (.ext (XAt ae C dd)); refine ⟨W,_,_,_,(g1.ext ex).set hin (Den.mkX zv (xd.mono ex.hi)),q1,?_⟩; have l1:=l.mono (s1.trans ex.hi)
  exact ⟨fun σ2 H2 Hi2 Γ2 s2 g2 q2=>l1.nx _ H2 Hi2 _ s2 (g2.unset hin) q2,fun σ2 H2 Hi2 Γ2 s2 g2 q2=>l1.bk _ H2 Hi2 _ s2 (g2.unset hin) q2,fun σ2 H2 Hi2 Γ2 s2 g2 q2=>l1.ct _ H2 Hi2 _ s2 (g2.unset hin) q2,l1.rt⟩
 ·obtain ⟨_,_,_,_,_,_,_,_,z⟩:=z
  exact z.elim
end
end PL
namespace L2
open PySem PySem.Spec PyProof.Rows PySem.Builtin PySem.Builtin.Str
section
variable {X:Cx}
theorem zld {prog:Program} {w:World} {A:Around} {E:Value->Shared->Prop} {s:Shared} {x y:Str} {tx ty:Tok} {Q:Value->Shared->Prop} (hy:(y.length == 0)=false) (hx:x.length+2<=sizeLine)
  (q:∀ l tk,l.map (·.1)=Txt.split x y->Q (.ref s.heap.objs.size) { s with heap:=s.heap.push { cls:=.type "list",data:=.seq (strValues l).toArray },toks:=tk }) :
  wpAny (model prog w) A (call (.builtin "str.split") [.str x tx,.str y ty]) Q E s:=by
 have hx0:x.length<=sizeLine:=yz (Nat.le_add_right _ 2) hx
 by_cases c1:(decide (x.length<y.length) || decide (strKind x<strKind y))=true
 ·exact call_meets YY (typeIs_str _ _ _) PySem.F.entry_str_split (PySem.F.args_str_split_2 _ _) (meets_str_split_cannot_occur x y tx ty c1) (q [(x,tx)] _ (yS c1).symm)
 ·by_cases c2:(occurrences x y 0 x.length (x.length+1)).isEmpty=true
  ·exact call_meets YY (typeIs_str _ _ _) PySem.F.entry_str_split (PySem.F.args_str_split_2 _ _) (meets_str_split_not_found x y tx ty (Bool.eq_false_iff.mpr c1) hy c2) (q [(x,tx)] _ ((yQ c1).trans (yS c2)).symm)
  ·have e:Txt.split x y=partsBetween x (occurrences x y 0 x.length (x.length+1)) y.length:=(yQ c1).trans (yQ c2)
   have hp:(partsBetween x (occurrences x y 0 x.length (x.length+1)) y.length).length<=sizeLine:=by
    rw [<- e]; exact yz (split_le x y) hx
   refine call_meets YY (typeIs_str _ _ _) PySem.F.entry_str_split (PySem.F.args_str_split_2 _ _) (meets_str_split_sep x y tx ty (Bool.eq_false_iff.mpr c1) hy (Bool.eq_false_iff.mpr c2) hx0 hp) ?_; have z:=q (numbered s.toks (partsBetween x (occurrences x y 0 x.length (x.length+1)) y.length)) (s.toks+(partsBetween x (occurrences x y 0 x.length (x.length+1)) y.length).length) ((numbered_texts _ _).trans e.symm); rw [<- strsFrom_eq] at z; exact z
theorem zf7:∀ (l:List (Str × Tok)),za7 ((l.map (·.1)).map V.str) (strValues l)
 | []=>.nil
 | (x,t) :: r=>.cons ⟨t,rfl⟩ (zf7 r)
theorem zeu:∀ {ys:List Str} {its:List Value},za7 (ys.map V.str) its->StrsAre its ys
 | [],_,.nil=>.nil
 | y :: r,_,.cons h t=>by
  obtain ⟨tk,rfl⟩:=h; exact .cons y tk (zeu t)
theorem zoj:MtR X "str.split" (fun x xs H Q=>∃ z y,x=.str z/\xs=[.str y]/\(y.length == 0)=false/\z.length+2<=sizeLine/\∀ p,H p=none->Q (.ref p) (upd H p (.lst ((Txt.split z y).map .str)))):=by
 intro pins s σ H x xs v us Q I rx rs h; obtain ⟨z,y,rfl,rfl,hy,hz,q⟩:=h; obtain ⟨t,rfl⟩:=rx; obtain ⟨u,rfl,t',rfl⟩:=zcX rs
 refine zld hy hz fun l tk e=>?_
 have hv:=zf7 l; rw [e] at hv
 exact ⟨.ref _,_,I.lnew (t':=tk) hv (by rw [yD]; exact yz (split_le z y) hz),rfl,q _ I.fresh⟩
theorem zq3:MtR X "str.join" (fun x xs H Q=>∃ z a ys,x=.str z/\xs=[.ref a]/\(SqL X.K H a (ys.map .str)\/SqT X.K H a (ys.map .str))/\(ys.map (·.length)).sum+ys.length * z.length<=16777216/\Q (.str (Txt.join z ys)) H):=by
 intro pins s σ H x xs v us Q I rx rs h; obtain ⟨z,a,ys,rfl,rfl,hs,hz,q⟩:=h; obtain ⟨t,rfl⟩:=rx; obtain ⟨u,rfl,ru⟩:=zcX rs
 obtain rfl:u=Value.ref a:=ru
 rcases hs with hs | hs
 ·obtain ⟨its,r,p,_⟩:=I.list hs
  obtain ⟨o,n,e1,e2,e3,e4⟩:=p
  exact join_list (items:=its.toArray) ⟨o,e1,e2,n,by first | exact e3 | exact e4⟩ (zeu (by simpa using r)) hz fun t' k=>⟨.str _,H,I.tok _,⟨_,rfl⟩,q⟩
 ·obtain ⟨its,r,p,_⟩:=I.tuple hs
  exact join_tuple p (zeu (by simpa using r)) hz fun t' k=>⟨.str _,H,I.tok _,⟨_,rfl⟩,q⟩
end
end L2
namespace PL
open PySem L2
def zaT (c:Nat):List (List Nat)->List Nat
 | []=>[]
 | [a]=>a
 | a :: b :: r=>a ++ c :: zaT c (b :: r)
def spl (c:Nat):List Nat->List (List Nat)
 | []=>[[]]
 | x :: r=>if x=c then [] :: spl c r else match spl c r with
  | []=>[[x]]
  | a :: t=>(x :: a) :: t
theorem spl_ne (c:Nat):∀ l,spl c l≠[]
 | []=>by simp [spl]
 | x :: r=>by
  unfold spl; split
  ·simp
  ·split <;> simp
theorem zfF {c:Nat} {a:List Nat} {t:List (List Nat)} (h:t≠[]):zaT c (a :: t)=a ++ c :: zaT c t:=by
 cases t with
 | nil=>exact yM rfl h
 | cons b r=>rfl
theorem zg4 (c:Nat):∀ l,zaT c (spl c l)=l
 | []=>rfl
 | x :: r=>by
  have ih:=zg4 c r; unfold spl; split
  ·rename_i h
   rw [zfF (spl_ne c r),ih,h]; rfl
  ·split
   ·rename_i h
    exact yM h (spl_ne c r)
   ·rename_i a t h
    rw [h] at ih
    cases t with
    | nil =>
     show x :: a=x :: r
     rw [<- ih]; rfl
    | cons b r' =>
     rw [zfF (by simp)] at ih ⊢
     rw [<- ih]; rfl
theorem zgv (c:Nat):∀ l,∀ a ∈ spl c l,c ∉ a
 | [],a,h=>by
  simp [spl] at h; rw [h]; simp
 | x :: r,a,h=>by
  have ih:=zgv c r; unfold spl at h; split at h
  ·rcases yJ.mp h with rfl | h
   ·simp
   ·exact ih a h
  ·rename_i hx
   split at h
   ·rcases yJ.mp h with rfl | h
    ·simpa using Ne.symm hx
    ·simp at h
   ·rename_i b t e
    rw [e] at ih
    rcases yJ.mp h with rfl | h
    ·have:=ih b yR
     simp only [yJ,not_or]; exact ⟨Ne.symm hx,this⟩
    ·exact ih a (yI _ h)
theorem zj5 {c:Nat}:∀ {a b x y:List Nat},c ∉ a->c ∉ b->a ++ c :: x=b ++ c :: y->a=b/\x=y
 | [],[],x,y,_,_,h=>⟨rfl,(List.cons.inj h).2⟩
 | [],z :: b,x,y,_,hb,h=>yM (List.cons.inj h).1 fun e=>hb (by rw [e]; exact yR)
 | z :: a,[],x,y,ha,_,h=>yM (List.cons.inj h).1 fun e=>ha (by rw [<- e]; exact yR)
 | z :: a,w :: b,x,y,ha,hb,h=>by
  have h':=List.cons.inj h
  obtain ⟨e1,e2⟩:=zj5 (a:=a) (b:=b) (fun z=>ha (yI _ z)) (fun z=>hb (yI _ z)) h'.2
  exact ⟨by rw [h'.1,e1],e2⟩
theorem zfE {c:Nat}:∀ {L M:List (List Nat)},L≠[]->M≠[]->(∀ a ∈ L,c ∉ a)->(∀ a ∈ M,c ∉ a)->zaT c L=zaT c M->L=M
 | [],_,h,_,_,_,_=>yM rfl h
 | _,[],_,h,_,_,_=>yM rfl h
 | [a],[b],_,_,_,_,h=>by rw [show a=b from h]
 | [a],b :: b' :: M,_,_,hL,_,h=>by
  have:c ∈ a:=by
   rw [show a=b ++ c :: zaT c (b' :: M) from h]
   simp
  exact yM this (hL a yR)
 | a :: a' :: L,[b],_,_,_,hM,h=>by
  have:c ∈ b:=by
   rw [<- show a ++ c :: zaT c (a' :: L)=b from h]
   simp
  exact yM this (hM b yR)
 | a :: a' :: L,b :: b' :: M,_,_,hL,hM,h=>by
  obtain ⟨e1,e2⟩:=zj5 (hL a yR) (hM b yR) (show a ++ c :: zaT c (a' :: L)=b ++ c :: zaT c (b' :: M) from h)
  rw [e1,zfE (L:=a' :: L) (M:=b' :: M) (by simp) (by simp) (fun x hx=>hL x (yI _ hx)) (fun x hx=>hM x (yI _ hx)) e2]
theorem zd8 {c:Nat} {L:List (List Nat)} (h:L≠[]) (hf:∀ a ∈ L,c ∉ a):spl c (zaT c L)=L:=zfE (spl_ne c _) h (zgv c _) hf (zg4 c _)
theorem zgr (c:Nat):∀ L:List (List Nat),Txt.join (st [c]) (L.map st)=st (zaT c L):=by
 intro L
 show PySem.Builtin.Str.glued (st [c]) (L.map st)=_
 rw [StrLaws.glued_eq_join]
 induction L with
 | nil=>rfl
 | cons a t ih =>
  cases t with
  | nil=>rfl
  | cons b r =>
   show st a ++ st [c] ++ Str.join (st [c]) (st b :: r.map st)=st (a ++ c :: zaT c (b :: r))
   rw [show Str.join (st [c]) (st b :: r.map st)=st (zaT c (b :: r)) from ih]
   show (⟨(a.toArray ++ #[c]) ++ (zaT c (b :: r)).toArray⟩:Str)=⟨(a ++ c :: zaT c (b :: r)).toArray⟩
   simp
theorem zk1 (c:Nat) (l:List Nat):Txt.split (st l) (st [c])=(spl c l).map st:=by
 have h1:Txt.split (st l) (st [c])=((Txt.split (st l) (st [c])).map fun z=>z.cps.toList).map st:=by
  rw [yt]
  conv=>lhs; rw [<- List.map_id (Txt.split (st l) (st [c]))]
  exact YC fun z _=>zp1 z
 have hne:((Txt.split (st l) (st [c])).map fun z=>z.cps.toList)≠[]:=by
  have:=PyProof.Rows.split_pos (st l) (st [c])
  intro z; rw [List.map_eq_nil_iff] at z; rw [z] at this
  simp at this
 have hfr:∀ a ∈ (Txt.split (st l) (st [c])).map (fun z=>z.cps.toList),c ∉ a:=by
  intro a ha; obtain ⟨z,hz,rfl⟩:=yT.mp ha; exact StrLaws.split_free (st l) c z hz
 have hj:=StrLaws.join_split (st l) (st [c]); rw [<- StrLaws.glued_eq_join] at hj
 have hj2:Txt.join (st [c]) (Txt.split (st l) (st [c]))=st l:=hj
 rw [h1,zgr] at hj2
 have hj3:zaT c ((Txt.split (st l) (st [c])).map fun z=>z.cps.toList)=l:=by
  have:=yp (fun z:Str=>z.cps.toList) hj2
  simpa [zaW] using this
 rw [h1,zfE hne (spl_ne c l) hfr (zgv c l) (by rw [hj3,zg4])]
section
variable {X:Cx}
theorem zfN {K:W.Frag} {H:Hp}:∀ {vs:List V} {ls:List (List Nat)},zbC K H vs (ls.map .str)->vs=(ls.map st).map V.str
 | _,[],.nil=>rfl
 | _,l :: ls,.cons r t=>by rw [r.strI,zfN t]; rfl
theorem zhn {K:W.Frag} {H:Hp}:∀ (ls:List (List Nat)),zbC K H ((ls.map st).map V.str) (ls.map .str)
 | []=>.nil
 | l :: ls=>.cons (.str l) (zhn ls)
def zo9:RM':=fun x ds Q=>∃ l c,x=.str l/\ds=[.str [c]]/\l.length+2<=sizeLine/\Q (.lst ((spl c l).map .str))
theorem zg1:Met X "str" "str.split" zo9:=⟨_,zoj,by
 rintro Hi H x vs dx ds Q Q2 s d1 dl ⟨l,c,rfl,rfl,hl,q⟩ fin
 obtain ⟨v,rfl,den⟩:=zdi dl
 refine ⟨_,_,d1.strI,by rw [den.strI],rfl,by rw [zbZ]; exact hl,fun p hp=>?_⟩
 rw [zk1]; have e:=Ext.new s hp (.lst (((spl c l).map st).map V.str)); exact fin _ _ _ _ e (Den.mkL (SqL.of zv) (zhn _)) q⟩
def znE:RM':=fun x ds Q=>∃ c ls,x=.str [c]/\(ds=[.lst (ls.map .str)]\/ds=[.tup (ls.map .str)])/\(ls.map (·.length)).sum+ls.length<=16777216/\Q (.str (zaT c ls))
theorem zeo:Met X "str" "str.join" znE:=⟨_,zq3,by
 rintro Hi H x vs dx ds Q Q2 s d1 dl ⟨c,ls,rfl,hd,hl,q⟩ fin
 have hz:(((ls.map st).map (·.length)).sum+(ls.map st).length * (st [c]).length)<=16777216:=by
  rw [yt,zbZ]
  have:(ls.map ((fun z:Str=>z.length) ∘ st))=ls.map (·.length):=YC fun z _=>zbZ z
  rw [this,yD]
  simpa using hl
 rcases hd with rfl | rfl
 ·obtain ⟨v,rfl,den⟩:=zdi dl
  obtain ⟨a,us,rfl,h1,h2⟩:=den.lstI; rw [zfN h2] at h1; refine ⟨_,a,ls.map st,d1.strI,rfl,.inl (zak s.sub h1),hz,?_⟩; rw [zgr]; exact fin Hi H _ _ (Ext.refl s) (.str _) q
 ·obtain ⟨v,rfl,den⟩:=zdi dl
  obtain ⟨a,us,rfl,h1,h2⟩:=den.tupI; rw [zfN h2] at h1; refine ⟨_,a,ls.map st,d1.strI,rfl,.inr (zaN s.sub h1),hz,?_⟩; rw [zgr]; exact fin Hi H _ _ (Ext.refl s) (.str _) q⟩
instance:MRM znE:=⟨fun _ _ _ _ h ⟨l,c,a,b,d,q⟩=>⟨l,c,a,b,d,h _ q⟩⟩
def zC (ta:TO') (tb:TE'):TO':=fun Γ Q=>ta Γ fun o Γ1=>∃ xs,o=.lst xs/\tb Γ1 fun d Γ2=>∃ k:Int,d=.int k/\-(2 ^ 63)<=k/\k<2 ^ 63/\xs.length * k.toNat<=sizeLine/\Q (.lst (List.replicate k.toNat xs).flatten) Γ2
theorem ziv {K:W.Frag} {H:Hp} {vs:List V} {ds:List D} (h:zbC K H vs ds):∀ k,zbC K H (List.replicate k vs).flatten (List.replicate k ds).flatten
 | 0=>.nil
 | k+1=>by
  rw [Yn,Yn,JL,JL]; exact paired_app h (ziv h k)
theorem zqr {a b:Expr} {ta:TO'} {tb:TE'} {pos:Pos} (ha:PO' X a ta) (hb:PE' X b tb):PO' X (.BinOp a .Mult b pos) (zC ta tb):=by
 refine ⟨PE.weak (zqE zsO ha.h hb.h) ?_⟩
 rintro σ H Q ⟨W,Hi,Γ,Q',g,h,fin⟩
 refine ⟨W,Hi,Γ,_,g,h,?_⟩
 rintro p H1 Hi1 Γ1 o s1 g1 nw ⟨xs,rfl,h1⟩
 obtain ⟨vs,hv,dv⟩:=nw.own; refine ⟨W,upd Hi1 p (.lst vs),Γ1,_,g1.freezeA nw.hi nw.h0 nw.ne hv,h1,?_⟩
 rintro y H2 ⟨Hi2,d,Γ2,s2,g2,den2,k,rfl,k1,k2,k3,q⟩
 have hp2:H2 p=some (.lst vs):=g2.sub _ _ (s2 _ _ zv)
 refine ⟨p,k,vs,rfl,den2.intI,hp2,k1,k2,by rw [zk dv]; exact k3,fun l hl=>?_⟩
 have ex:=Ext.newO g2.fz hl (.lst (List.replicate k.toNat vs).flatten) (fun _ z=>by cases z)
 have hs:zaS Hi1 Hi2:=(zaO nw.hi _).trans s2
 exact fin l _ Hi2 Γ2 (.lst (List.replicate k.toNat xs).flatten) (s1.trans hs) (g2.ext ex) (New.mk' g2 hl ⟨_,zv,ziv (dv.mono hs) _⟩) q
instance {ta:TO'} {tb:TE'} [MO ta] [ME tb]:MO (zC ta tb):=⟨fun Γ _ _ h q=>MO.mono (t:=ta) _ _ _ (fun _ _ ⟨xs,e,z⟩=>⟨xs,e,ME.mono (t:=tb) _ _ _ (fun _ _ ⟨k,a,b,c,d,y⟩=>⟨k,a,b,c,d,h _ _ y⟩) z⟩) q⟩
end
section
variable {X:Cx} {k:Nat} {x:Str} {ps:List Str} {sp:zoX} {p pos:Pos} {e:Expr} {es:List Expr} {t:TA'}
end
theorem zdL {X:Cx} (K:W.Frag) (h:X.K=K):Cal X (.builtin "isinstance") (zfY K):=by
 subst h; exact ztC
theorem zrE {X:Cx} (K:W.Frag) (h:X.K=K):Cal X (.builtin "isinstance") (zqf K):=by
 subst h; exact ztB
end PL
namespace L2
open PySem PySem.Spec PyProof.Rows
def skB (es:Array DictEntry):Bool:=es.toList.all fun e=>match e.key with | .str _ _=>true | _=>false
section
variable {K:W.Frag} {C M N NM f:Addr} {c cM:Value} {d dM od:Option Addr} {es eM:Array DictEntry} {ep epM:Nat} {sl slM sf:Array (Option Value)}
theorem zlV (l:K.lookup N=some ⟨c,d,.dict es ep,sl⟩) (sk:skB es=true) {h:Heap} (X:K.In h):h.Ns N (nsFind es):=by
 refine ⟨_,es,ep,X _ _ l,rfl,fun e he=>?_,fun _=>rfl⟩
 have z:=yY.mp sk e (Array.mem_toList_iff.mpr he)
 revert z
 cases hk:e.key <;> intro z <;> first | exact ⟨_,_,rfl⟩ | exact yM z (by simp)
theorem zpi (l:K.lookup N=some ⟨c,d,.dict es ep,sl⟩) {name:Str} {v:Option Value} (e:W.nsIn K N name=some v):nsFind es name=v:=by
 unfold W.nsIn at e; rw [l] at e
 dsimp only at e
 unfold nsFind findBy; rw [<- Array.find?_toList]
 cases hf:es.toList.find? (·.key.isStr name) with
 | none =>
  rw [hf] at e
  dsimp only at e
  split at e
  ·cases e
  ·exact Option.some.inj e
 | some x =>
  rw [hf] at e; exact Option.some.inj e
theorem zrZ {nm q nmM qM:Str} {bs bsM bmM:List Value} {hd hdM:Bool} {sn snM:List Str} {sub subM:List Value} {ab abM:Bool} {col colM:Option Bool} {dd ddM:Option Addr} {k0 k1 k2 k3 k5 j0 j1 j2 j3 j5:Option Value} {nid:String}
  (bC:K.lookup C=some (excClassObj nm q C N bs (.ref M :: vbm) hd sn sub ab col dd k0 k1 k2 k3 k5 "ValueError.__new__")) (bM:K.lookup M=some (excClassObj nmM qM M NM bsM bmM hdM snM subM abM colM ddM j0 j1 j2 j3 j5 nid))
  (lM:K.lookup NM=some ⟨cM,dM,.dict eM epM,slM⟩) (skM:skB eM=true) (iM:W.nsIn K NM "__init__"=some none) (kp:W.keepIn K (.ref C)=true):XCl K C N (.ref M :: vbm) where
 xc:=fun h X=>⟨_,_,_,_,_,_,_,_,_,_,_,_,_,_,X _ _ bC⟩
 tail:=fun h X=>.own (X _ _ bM) (zlV lM skM X) (zpi lM iM) .base
 base:=by simp [vbm]
 kp:=kp
theorem zj1 (hd:W.hasDictIn K C=true):(W.clsIn K C).isSome=true:=by
 obtain ⟨cd,e,_⟩:=W.any_some hd; rw [e]; rfl
theorem zpB {b:Bool} (hd:W.hasDictIn K M=true) (ty:W.typeIn K (.ref M)=some (.type "type")) (mb:W.mroIn K M (.type "BaseException")=some true) (m:W.mroIn K C (.ref M)=some b):W.exmOne K (.ref C) (.ref M)=some b:=by
 unfold W.exmOne
 rw [show W.subIn K (.ref M) (.type "BaseException")=some true from mb,yS (by decide)]
 show (if ((W.clsIn K M).isSome && W.typeIn K (.ref M) == some (.type "type"))=true then W.subIn K (.ref C) (.ref M) else none)=some b
 rw [zj1 hd,ty,yS (by simp)]
 exact m
theorem zor:W.kitOne K (.ref C) (.ref C)=some true:=by
 unfold W.kitOne
 rw [yS (by simp)]
theorem zte {n:String} {b:Bool} (hk:W.kitMeta n=true) (m:W.mroIn K C (.type n)=some b):W.kitOne K (.ref C) (.type n)=some b:=by
 unfold W.kitOne
 rw [yQ (by simp)]
 show (if W.kitMeta n=true then W.subIn K (.ref C) (.type n) else none)=some b
 rw [yS hk]; exact m
theorem zck {t c:Value} {r:List Value} {b:Bool} (h:W.kitOne K t c=some false) (hr:W.kitAny K t r=some b):W.kitAny K t (c :: r)=some b:=by
 unfold W.kitAny; rw [h]; exact hr
end
end L2
namespace L2
open PySem
end L2
namespace L2
open PySem PySem.Spec PyProof.Rows
section
variable {X:Cx}
end
end L2
namespace PL
open PySem L2
section
variable {X:Cx} {k:Nat} {C:Addr} {m:Str} {ps:List Str} {sp:Sp'} {spx:zoX} {apos pos:Pos} {o e:Expr} {es:List Expr} {to:TE'} {t:TA'}
def zaI (C:Addr) (m:Str) (sp:zoX) (to:TE') (t:TA'):zmP:=fun Γ Q E=>to Γ fun d Γ1=>∃ fs,d=.obj C fs/\fs.lookup m=none/\t Γ1 fun ds Γ2=>sp (.obj C fs :: ds) (fun r=>Q r.toD Γ2) fun C' fs'=>E C' fs' Γ2
abbrev zmO:=List D->Sts->(Sts->Prop)->Prop
def zwD (K:W.Frag) (n:Nat) (g:zmO):TGs:=fun vs σ H Q2=>∃ W Hi Γ ds Q,Good K n W Hi Γ σ H/\zbC K Hi vs ds/\g ds Γ Q/\∀ σ' H' Hi' Γ',zaS Hi Hi'->Good K n W Hi' Γ' σ' H'->Q Γ'->Q2 σ' H'
structure PGs' (X:Cx) (es:List Expr) (g:zmO):Prop where
 h:PGs X es (zwD X.K X.N.length g)
theorem PGs.weak {es:List Expr} {t t2:TGs} (h:PGs X es t) (w:∀ vs σ H Q,t2 vs σ H Q->t vs σ H Q):PGs X es t2:=fun pins s σ H vs us Q I r q=>h pins s σ H vs us Q I r (w _ _ _ _ q)
def zao:zmO:=fun ds Γ Q=>ds=[]/\Q Γ
def zA (t:TG') (u:zmO):zmO:=fun ds Γ Q=>∃ d r,ds=d :: r/\t d Γ fun Γ1=>u r Γ1 Q
def zan (n:Nat) (t:zmO):TG':=fun d Γ Q=>∃ ds,d=.tup ds/\ds.length=n/\t ds Γ Q
theorem zjC:PGs' X [] zao:=by
 refine ⟨PGs.weak zqA ?_⟩
 rintro vs σ H Q ⟨W,Hi,Γ,ds,Q',g,dl,⟨rfl,q⟩,fin⟩
 cases dl; exact ⟨rfl,fin σ H Hi Γ (zaS.refl _) g q⟩
theorem zeh {e:Expr} {es:List Expr} {t:TG'} {u:zmO} (h1:PG' X e t) (h2:PGs' X es u) (hs:(assignEach (e :: es) X.env).map (·.2)=assign e X.env :: (assignEach es X.env).map (·.2):=by rfl):PGs' X (e :: es) (zA t u):=by
 refine ⟨PGs.weak (znY h1.h h2.h hs) ?_⟩
 rintro vs σ H Q ⟨W,Hi,Γ,ds,Q',g,dl,⟨d,r,rfl,q⟩,fin⟩
 cases dl with
 | cons r0 rr =>
  refine ⟨_,_,rfl,W,Hi,Γ,d,_,g,r0,q,?_⟩; intro σ1 H1 Hi1 Γ1 s1 g1 q1
  exact ⟨W,Hi1,Γ1,r,Q',g1,zbC.mono rr s1,q1,fun σ2 H2 Hi2 Γ2 s2=>fin σ2 H2 Hi2 Γ2 (s1.trans s2)⟩
theorem zlG {es:List Expr} {k n:Nat} {t:zmO} (h:PGs' X es t) (hc:X.calm=true:=by rfl) (hn:(assignEach es X.env).length=n:=by rfl) (hst:(assignEach es X.env).findIdx? (·.1)=none:=by rfl):PG' X (.Tuple es k pos) (zan n t):=by
 refine ⟨PG.weak (zsE hc h.h hn hst) ?_⟩
 rintro v σ H Q ⟨W,Hi,Γ,d,Q',g,den,⟨ds,rfl,hl,q⟩,fin⟩
 obtain ⟨a,vs,rfl,ha,dl⟩:=den.tupI
 exact ⟨a,vs,rfl,zaN g.sub ha,by rw [zk dl]; exact hl,W,Hi,Γ,ds,Q',g,dl,q,fin⟩
end
section
variable {X:Cx}
end
section
variable {P:Program} {w:World} {K:PySem.W.Frag} {mg:Str->Option Value} {base:Heap}
end
end PL
namespace Mu
open PySem PySem.Builtin
theorem noFill_tup:fillsNumberSlot (.type "tuple") "mul"=pure false :=
 fillsNumberSlot_seq (id:="tuple.__mul__") (r:=some (.builtin "tuple.__rmul__")) PySem.F.slot_tuple_mul.lookup (by decide +kernel) PySem.F.slot_tuple_rmul.lookup (by decide +kernel)
theorem rep_tup:seqRepeat? (.type "tuple")=pure (some (.builtin "tuple.__mul__")):=by
 unfold seqRepeat?
 rw [seqSlot_of (T:="tuple") (name:="__mul__") (id:="tuple.__mul__") PySem.F.slot_tuple_mul.lookup (by decide +kernel),seqSlot_of (T:="tuple") (name:="__rmul__") (id:="tuple.__rmul__") PySem.F.slot_tuple_rmul.lookup (by decide +kernel)]
 rfl
theorem rmul_tup (a:Int) (t:Tok) (l:Addr) (o:Obj) (xs:Array Value) (n:Nat) (hc:o.cls=.type "tuple") (hd:o.data=.seq xs n):Meets (Builtin.«int.__rmul__» ⟨[.int a t,.ref l],[]⟩) (fun _ R s=>s.heap.get? l=some o/\R (.ok (.ret Value.notImplemented)) s) :=
 .of_wp fun prog w A R s h=>by
  obtain ⟨hp,g,d,tk,os⟩:=s; obtain ⟨hl,h⟩:=h; obtain ⟨oc,od,dt,sl⟩:=o
  dsimp only at hc hd
  subst hc hd
  wp_walk
  exact ⟨_,rfl,h⟩
theorem mul_tup (k:Nat) (t:Tok) (l:Addr) (o:Obj) (xs:Array Value) (n:Nat) (hc:o.cls=.type "tuple") (hd:o.data=.seq xs n) (hk:2<=k) (hk2:k<=100) (hz:xs.size * k<=10000) :
  Meets (Builtin.«tuple.__mul__» ⟨[.ref l,.int k t],[]⟩) (fun _ R s=>s.heap.get? l=some o/\(xs.isEmpty=true->R (.ok (.ret (.ref l))) s) /\
   (xs.isEmpty=false->R (.ok (.ret (.ref s.heap.objs.size))) { s with heap:=s.heap.push { cls:=.type "tuple",data:=.seq ((List.replicate k xs).foldl (· ++ ·) #[]) } })) :=
 .of_wp fun prog w A R s h=>by
  obtain ⟨hp,g,d,tk,os⟩:=s; obtain ⟨hl,h1,h2⟩:=h; obtain ⟨oc,od,dt,sl⟩:=o
  dsimp only at hc hd
  subst hc hd
  have e1:(decide ((k:Int)< -(2 ^ 63)) || decide ((k:Int) >= 2 ^ 63))=false:=by
   rw [yV (by omega),yV (by omega)]
   rfl
  have e2:((k:Int) == 1)=false:=by rw [beq_eq_false_iff_ne]; omega
  have e3:decide ((k:Int)<=0)=false:=yV (by omega)
  have e4:¬ ((xs.size:Int) * (k:Int) > (2 ^ 63-1) / 8):=by
   have:((xs.size * k:Nat):Int)<=10000:=by omega
   rw [Int.natCast_mul] at this; omega
  have e5:Builtin.Tuple.tupleTooMany ((xs.size:Int) * (k:Int))=false:=by
   unfold Builtin.Tuple.tupleTooMany
   have:((xs.size * k:Nat):Int)<=10000:=by omega
   rw [Int.natCast_mul] at this
   have b:10000<sizeLine:=by decide
   exact yV (by omega)
  wp_walk
  rw [yQ (by rw [e1]; exact yP)]
  wp_walk
  cases he:xs.isEmpty with
  | true =>
   wp_walk
   exact ⟨_,rfl,h1 he⟩
  | false =>
   wp_walk
   rw [yQ (by rw [e3]; decide)]
   dsimp only
   rw [yQ e4,yQ (by rw [e5]; decide),JM]
   have hsz:(List.foldl (fun x1 x2=>x1 ++ x2) #[] (List.replicate k xs)).size<=sizeLine:=by
    have e:=L2.foldl_rep xs.toList k []
    have e':List.foldl (fun x1 x2=>x1 ++ x2) #[] (List.replicate k xs)=([] ++ (List.replicate k xs.toList).flatten).toArray:=by simpa using e
    rw [e',yO,JI,L2.len_rep,YI,Nat.mul_comm]
    have b:10000<sizeLine:=by decide
    omega
   unfold Builtin.Tuple.tupleExact; exact yA (yj (yE ⟨_,rfl,h2 he⟩) hsz)
end Mu
namespace L2
open PySem PySem.Spec PyProof.Rows
section
variable {X:Cx}
def zuO:R2:=fun x y H Q=>∃ (l:Addr) (k:Nat) (xs:List V),x=.ref l/\y=.int k/\H l=some (.tup xs)/\2<=k/\k<=100/\xs.length * k<=10000/\(xs=[]->Q (.ref l) H)/\(xs≠[]->∀ p,H p=none->Q (.ref p) (upd H p (.tup (List.replicate k xs).flatten)))
theorem zqP:OpR X (binaryOp .Mult) zuO:=by
 intro pins s σ H x y v u Q I rx ry h; obtain ⟨l,k,xs,rfl,rfl,hH,h1,h2,hz,q1,q2⟩:=h; cases rx; obtain ⟨t,rfl⟩:=ry
 obtain ⟨z,its,r,o,ho,hc,n,hd⟩:=(show zbM X.prog X.w H s.heap l (.tup xs) from I.hok l _ hH)
 have hl:=r.length
 refine wpAny_binaryOp_repeat_ref (T:="tuple") (U:="int") (by decide) ⟨_,ho,hc⟩ (fun s'=>typeIs_int s' k t) Mu.noFill_tup PySem.F.fills_int_mul PySem.F.slot_int_rmul Mu.rep_tup PySem.F.slot_int_index.lookup
  (call_meets PySem.F.slot_int_rmul (typeIs_int s k t) PySem.F.entry_int_rmul (PySem.F.args_int_rmul_2 _ _) (Mu.rmul_tup k t l o its.toArray n hc hd) ⟨ho,rfl,⟨_,ho,hc⟩,call_meets PySem.F.slot_tuple_mul ⟨_,ho,hc⟩ PySem.F.entry_tuple_mul (PySem.F.args_tuple_mul_2 _ _) (Mu.mul_tup k t l o its.toArray n hc hd h1 h2 (by rw [yO,<- hl]; exact hz)) ⟨ho,fun e=>?_,fun e=>?_⟩⟩)
 ·have:xs=[]:=JF (by rw [hl]; simpa using e)
  exact ⟨.ref l,H,I,rfl,q1 this⟩
 ·have hne:xs≠[]:=fun z=>by
   rw [z] at hl
   have:its=[]:=JF hl.symm
   rw [this] at e
   simp at e
  have e':List.foldl (fun x1 x2=>x1 ++ x2) #[] (List.replicate k its.toArray)=(List.replicate k its).flatten.toArray:=by
   have:=foldl_rep its k []
   rw [JI] at this; exact this
  rw [e']
  have hlen:(List.replicate k xs).flatten.length<=sizeLine:=by
   rw [len_rep,Nat.mul_comm]
   have b:10000<sizeLine:=by decide
   omega
  refine ⟨.ref _,upd H s.heap.objs.size (.tup (List.replicate k xs).flatten),I.laid (t':=s.toks) (fun _ _ q=>yB _ q) (yG _) ⟨hlen,(List.replicate k its).flatten,r.rep k,⟨_,yK _ rfl,rfl,_,rfl⟩⟩,rfl,q2 hne _ I.fresh⟩
end
end L2
namespace PL
open PySem L2
section
variable {X:Cx}
def zhC:R2':=fun x y Q=>∃ (ds:List D) (k:Nat),x=.tup ds/\y=.int k/\2<=k/\k<=100/\ds.length * k<=10000/\Q (.tup (List.replicate k ds).flatten)
theorem zsZ:Op2 X (binaryOp .Mult) zhC:=⟨_,zqP,by
 rintro Hi H x y dx dy Q Q2 s d1 d2 ⟨ds,k,rfl,rfl,h1,h2,h3,q⟩ fin
 obtain ⟨a,vs,rfl,ha,dl⟩:=d1.tupJ; have hl:=zk dl
 refine ⟨a,k,vs,rfl,d2.intI,s.sub _ _ ha,h1,h2,by rw [hl]; exact h3,fun e=>?_,fun _ p hp=>?_⟩
 ·have:ds=[]:=JF (by rw [<- hl,e]; rfl)
  subst this; refine fin Hi H _ (.tup []) (Ext.refl s) d1 ?_
  simpa using q
 ·have e:=Ext.new s hp (.tup (List.replicate k vs).flatten)
  exact fin _ _ _ _ e (Den.mkT zv (ziv (dl.mono e.hi) k)) q⟩
instance:MR2 zhC:=⟨fun _ _ _ _ h ⟨ds,k,a,b,c,d,e,q⟩=>⟨ds,k,a,b,c,d,e,h _ q⟩⟩
end
section
variable {X:Cx} {Q:D->Prop}
def znD:R2':=fun x y Q=>rI' zpK (fun i j=>.int (i * j)) x y Q\/zhC x y Q
theorem zjF:Op2 X (binaryOp .Mult) znD:=zu9.or zsZ
instance:MR2 znD:=⟨fun _ _ _ _ h q=>q.imp (MR2.mono (r:=rI' zpK fun i j=>.int (i * j)) _ _ _ _ h) (MR2.mono (r:=zhC) _ _ _ _ h)⟩
@[simp] theorem zsk (i j:Int):znD (.int i) (.int j) Q↔zpK i j/\Q (.int (i * j)):=by simp [znD,zhC]
def zsr:RC':=fun ds Q=>∃ b:Bool,ds=[.bl b]/\Q (.int (if b then 1 else 0))
theorem ztD:Cal X (.type "int") zsr:=⟨_,zmI,by
 rintro Hi H vs ds Q Q2 s dl ⟨b,rfl,q⟩ fin
 obtain ⟨v,rfl,den⟩:=zdi dl
 exact .inr ⟨b,by rw [den.blI],fin Hi H _ _ (Ext.refl s) (.int _) q⟩⟩
def zss:RC':=fun ds Q=>zsq ds Q\/zsr ds Q
theorem zpH:Cal X (.type "int") zss:=zvC.or ztD
end
end PL
namespace Zp
open PySem
structure Src (prog:Program) (w:World) (it:Addr) (xs:List Value) (fp:List Addr) (nx:Nat->Heap->Prop):Prop where
 mem:it ∈ fp
 fr:∀ i h h',nx i h->(∀ c ∈ fp,∀ o,h.get? c=some o->h'.get? c=some o)->nx i h'
 at_:∀ i h,nx i h->∃ o,h.get? it=some o/\∀ v,o.data≠.cell v
 item:∀ (A:Around) (s:Shared) (i:Nat) (x:Value) (Q:Value->Shared->Prop) (E:Value->Shared->Prop),nx i s.heap->xs[i]?=some x->(∀ h',nx (i+1) h'->Heap.SameBut it s.heap h'->Q x { s with heap:=h' })->wpAny (model prog w) A (Builtin.SmallTypes.nextOf (.ref it)) Q E s
 stop:∀ (A:Around) (s:Shared) (i:Nat) (Q:Value->Shared->Prop) (E:Value->Shared->Prop),A.handled=none->nx i s.heap->xs[i]?=none ->
  (∀ h' e,Heap.ExtBut it s.heap h'->(∃ o,h'.get? e=some o/\o.cls=.type "StopIteration")->E (.ref e) { s with heap:=h' })->wpAny (model prog w) A (Builtin.SmallTypes.nextOf (.ref it)) Q E s
theorem zac {a:Addr} {h h':Heap} (x:Heap.SameBut a h h'):∀ c o,c≠a->h.get? c=some o->h'.get? c=some o:=fun c o n e=>x.extBut _ _ n e
theorem znm {prog:Program} {w:World} {it l:Addr} {xs:List Value} (ne:l≠it):Src prog w it xs [it,l] (fun i h=>h.IsListIter it l i/\h.IsList l xs.toArray) where
 mem:=by simp
 fr:=fun i h h' ⟨a,b⟩ k=>⟨a.at fun o e=>k it (by simp) o e,b.at fun o e=>k l (by simp) o e⟩
 at_:=fun i h ⟨⟨o,e,_,d⟩,_⟩=>⟨o,e,fun v z=>by rw [d] at z; cases z⟩
 item:=fun A s i x Q E ⟨a,b⟩ hx q=>wpAny_nextOf_list_item a b (by simpa using hx) fun h' n sb=>q h' ⟨n,b.at fun o e=>zac sb _ o ne e⟩ sb
 stop:=fun A s i Q E hh ⟨a,b⟩ hx q=>wpAny_nextOf_list_end hh a b (by simpa using hx) q
theorem zlc {prog:Program} {w:World} {it l:Addr} {xs:List Value} (ne:l≠it):Src prog w it xs [it,l] (fun i h=>h.IsTupleIter it l i/\h.IsTuple l xs.toArray) where
 mem:=by simp
 fr:=fun i h h' ⟨a,⟨ol,e,r⟩⟩ k=>⟨a.at fun o e=>k it (by simp) o e,⟨ol,k l (by simp) ol e,r⟩⟩
 at_:=fun i h ⟨⟨o,e,_,d⟩,_⟩=>⟨o,e,fun v z=>by rw [d] at z; cases z⟩
 item:=by
  intro A s i x Q E ⟨a,b⟩ hx q
  obtain ⟨oi,gi,ci,di⟩:=id a; obtain ⟨ot,gt,ct,nt,dt⟩:=id b; unfold Builtin.SmallTypes.nextOf; refine yA (wpAny_callSpecial?_slot (name:=Str.ofString "__next__") a.typeIs Yy (YJ Yy a.typeIs PySem.F.entry_tuple_iterator_next ?_ (PySem.F.args_tuple_iterator_next_1 _)))
  show wpAny _ _ (field (.ref it) 0 >>= _) _ _ _
  refine yA (yw gi di (x:=.ref l) rfl ?_)
  show wpAny _ _ (if (Value.ref l == Value.none)=true then _ else _) _ _ _
  rw [yQ (by simp)]
  show wpAny _ _ (field (.ref it) 1 >>= _) _ _ _
  refine yA (yw gi di (x:=.int i 0) rfl ?_)
  show wpAny _ _ (seqItems? (.ref l) >>= _) _ _ _
  refine yA (Yr gt dt ?_)
  have hx':xs.toArray[i]?=some x:=by simpa using hx
  simp only [JM,hx']
  refine yA (YX gi di (by simp) (yE ⟨x,rfl,yE (q _ ⟨⟨_,YR _ gi (Obj.isFreed_of_fields (Yt di _)),(Obj.cls_mapFields ..).trans ci,by rw [Yt di]; simp [rawInt]⟩,?_⟩ (Heap.SameBut.update ..))⟩))
  exact ⟨ot,(YA _ _ (Ne.symm ne)).trans gt,ct,nt,dt⟩
 stop:=by
  intro A s i Q E hh ⟨a,b⟩ hx q
  obtain ⟨oi,gi,ci,di⟩:=id a; obtain ⟨ot,gt,ct,nt,dt⟩:=id b; unfold Builtin.SmallTypes.nextOf; refine yA (wpAny_callSpecial?_slot (name:=Str.ofString "__next__") a.typeIs Yy (YJ Yy a.typeIs PySem.F.entry_tuple_iterator_next ?_ (PySem.F.args_tuple_iterator_next_1 _)))
  show wpAny _ _ (field (.ref it) 0 >>= _) _ _ _
  refine yA (yw gi di (x:=.ref l) rfl ?_)
  show wpAny _ _ (if (Value.ref l == Value.none)=true then _ else _) _ _ _
  rw [yQ (by simp)]
  show wpAny _ _ (field (.ref it) 1 >>= _) _ _ _
  refine yA (yw gi di (x:=.int i 0) rfl ?_)
  show wpAny _ _ (seqItems? (.ref l) >>= _) _ _ _
  refine yA (Yr gt dt ?_)
  have hx':xs.toArray[i]?=none:=by simpa using hx
  simp only [JM,hx']
  refine yA (wpAny_rule (yA (YX gi di (by simp) ?_)))
  show wpAny _ _ (newExc (.type "StopIteration") [] >>= _) _ _ _
  refine yA ?_; simp only [newExc,newTuple]
  refine yA (yj ?_ (by size_fits))
  refine yA (m:=firstArgMember _ _) (Yg (a:=Value.none) (by first | rfl | (simp only [firstArgMember]; rfl)) ?_)
  refine yj ?_ (by size_fits)
  simp only [raiseNew]; refine yA (wpAny_handled ?_)
  first | rw [show A.in1.handled=none from hh] | rw [hh]
  exact yA (yE (wpAny_throw (q _ _ (((Heap.SameBut.update ..).extBut.push _).push _) ⟨_,yK _ rfl,rfl⟩)))
structure Apart (z TI TO i1 i2:Addr) (f1 f2:List Addr):Prop where
 z1:z ∉ f1
 z2:z ∉ f2
 o1:TO ∉ f1
 o2:TO ∉ f2
 i21:i2 ∉ f1
 i12:i1 ∉ f2
 iz:TI≠z
 oz:TO≠z
 io:TI≠TO
 ii1:TI≠i1
 ii2:TI≠i2
section
variable {prog:Program} {w:World} {A:Around} {E:Value->Shared->Prop} {s:Shared} {z TI TO i1 i2:Addr} {f1 f2:List Addr} {n1 n2:Nat->Heap->Prop} {xs ys:List Value} {k:Nat} {a b x y:Value}
theorem Src.but {it:Addr} {zs:List Value} {fp:List Addr} {nx:Nat->Heap->Prop} (S:Src prog w it zs fp nx) {i:Nat} {h h':Heap} {c:Addr} (g:nx i h) (sb:Heap.SameBut c h h') (hc:c ∉ fp):nx i h':=S.fr i h h' g fun d hd o e=>zac sb d o (fun q=>hc (q ▸ hd)) e
theorem zm7 {Q:Value->Shared->Prop} (S1:Src prog w i1 xs f1 n1) (S2:Src prog w i2 ys f2 n2) (D:Apart z TI TO i1 i2 f1 f2) (wz:IsZip s.heap z TI TO .none) (wI:IsPair s.heap TI (.ref i1) (.ref i2)) (wO:IsPair s.heap TO a b) (g1:n1 k s.heap) (g2:n2 k s.heap) (hx:xs[k]?=some x) (hy:ys[k]?=some y)
  (q:∀ h',IsZip h' z TI TO (rawInt s.heap.objs.size)->IsPair h' TO x y->n1 (k+1) h'->n2 (k+1) h'->IsPair h' s.heap.objs.size x y->h'.objs.size=s.heap.objs.size+1->(∀ c o,c≠z->c≠TO->c≠i1->c≠i2->s.heap.get? c=some o->h'.get? c=some o)->Q (.ref s.heap.objs.size) { s with heap:=h' }) :
  wpAny (model prog w) A (Builtin.«zip.__next__» ⟨[.ref z],[]⟩) (fun fin s'=>∃ v,fin=.done (.ret v)/\Q v s') E s:=by
 have ne1:i1≠z:=fun e=>D.z1 (e ▸ S1.mem)
 have ne2:i2≠z:=fun e=>D.z2 (e ▸ S2.mem)
 have no1:i1≠TO:=fun e=>D.o1 (e ▸ S1.mem)
 have no2:i2≠TO:=fun e=>D.o2 (e ▸ S2.mem)
 show wpAny _ _ (field (.ref z) 2 >>= _) _ _ _
 refine yA (yw wz rfl (x:=.bool false) rfl ?_)
 show wpAny _ _ (field (.ref z) 3 >>= _) _ _ _
 refine yA (yw wz rfl (x:=.ref TI) rfl ?_); refine yA (Yr wI rfl ?_)
 show wpAny _ _ (Builtin.SmallTypes.ownedTupleIsFree (.ref z) >>= _) _ _ _
 refine yA ?_; unfold Builtin.SmallTypes.ownedTupleIsFree; refine yA (yw wz rfl (x:=.none) rfl (yE ?_)); simp only [if_true]; refine yA (wpAny_rule ?_); refine yA (yw wz rfl (x:=.ref TO) rfl ?_)
 refine yA (JG wz (by simp) fun ha za sa=>?_)
 have za:IsZip ha z TI TO .ellipsis:=za
 refine yA ?_; simp only [List.zipIdx_cons,List.zipIdx_nil,List.forIn_cons,List.forIn_nil]; refine yA (yA (wpAny_onRaise ?_))
 show wpAny _ _ (Builtin.SmallTypes.nextOf (.ref i1) >>= _) _ _ _
 refine yA (S1.item _ { s with heap:=ha } k x _ _ (S1.but g1 sa D.z1) hx fun hb g1b sb=>yE ?_)
 have ob:IsPair hb TO a b:=zac sb _ _ (Ne.symm no1) (zac sa _ _ D.oz wO)
 refine yA (Yr ob rfl ?_)
 refine yA (wpAny_updateSeq_pair ob fun hc oc sc=>?_)
 have oc:IsPair hc TO x b:=oc
 refine yA (wpAny_letGo (yE ?_)); refine yA (yA (wpAny_onRaise ?_))
 show wpAny _ _ (Builtin.SmallTypes.nextOf (.ref i2) >>= _) _ _ _
 refine yA (S2.item _ { s with heap:=hc } k y _ _ (S2.but (S2.but (S2.but g2 sa D.z2) sb D.i12) sc D.o2) hy fun hd g2d sd=>yE ?_)
 have od:IsPair hd TO x b:=zac sd _ _ (Ne.symm no2) oc
 refine yA (Yr od rfl ?_)
 refine yA (wpAny_updateSeq_pair od fun he oe se=>?_)
 have oe:IsPair he TO x y:=oe
 refine yA (wpAny_letGo (yE (yE ?_))); refine yA (Yr oe rfl ?_); refine yA (wpAny_newTuple ?_)
 have hsz:he.objs.size=s.heap.objs.size:=by rw [se.1,sd.1,sc.1,sb.1,sa.1]
 have ze:IsZip he z TI TO .ellipsis:=zac se _ _ (Ne.symm D.oz) (zac sd _ _ (Ne.symm ne2) (zac sc _ _ (Ne.symm D.oz) (zac sb _ _ (Ne.symm ne1) za)))
 have hk:∀ c o,c≠z->c≠TO->c≠i1->c≠i2->s.heap.get? c=some o->he.get? c=some o:=fun c o c1 c2 c3 c4 e=>zac se _ _ c2 (zac sd _ _ c4 (zac sc _ _ c2 (zac sb _ _ c3 (zac sa _ _ c1 e))))
 have g1e:n1 (k+1) he:=S1.but (S1.but (S1.but g1b sc D.o1) sd D.i21) se D.o1
 have g2e:n2 (k+1) he:=S2.but g2d se D.o2
 have zlt:z<he.objs.size:=yN ze
 show wpAny _ _ (Builtin.SmallTypes.ownedTupleHandOut (.ref z) (.ref he.objs.size) >>= _) _ _ _
 refine yA ?_; unfold Builtin.SmallTypes.ownedTupleHandOut
 have zf:IsZip (he.push { cls:=.type "tuple",data:=.seq #[x,y] }) z TI TO .ellipsis:=yB _ ze
 refine yA (JG zf (by simp) fun hg zg sg=>?_)
 have zg:IsZip hg z TI TO (rawInt he.objs.size):=zg
 refine JG zg (by simp) fun hh zh sh=>?_
 have zh:IsZip hh z TI TO (rawInt he.objs.size):=zh
 have up:∀ c o,c≠z->he.get? c=some o->hh.get? c=some o:=fun c o c1 e=>zac sh _ _ c1 (zac sg _ _ c1 (yB _ e))
 have tp:IsPair hh he.objs.size x y:=zac sh _ _ (Yf zlt) (zac sg _ _ (Yf zlt) (yK _ rfl))
 have hs8:hh.objs.size=he.objs.size+1:=by rw [sh.1,sg.1,YT]
 rw [hsz] at zh tp hs8; refine yE ⟨_,rfl,?_⟩
 show Q (.ref he.objs.size) _
 rw [hsz]
 exact q hh zh (up _ _ D.oz oe) (S1.fr _ he hh g1e fun c hc o e=>up c o (fun z'=>D.z1 (z' ▸ hc)) e) (S2.fr _ he hh g2e fun c hc o e=>up c o (fun z'=>D.z2 (z' ▸ hc)) e) tp hs8 fun c o c1 c2 c3 c4 e=>up c o c1 (hk c o c1 c2 c3 c4 e)
theorem zm6 {Q:PySem.Fin->Shared->Prop} (hh:A.handled=none) (S1:Src prog w i1 xs f1 n1) (S2:Src prog w i2 ys f2 n2) (D:Apart z TI TO i1 i2 f1 f2) (wz:IsZip s.heap z TI TO .none) (wI:IsPair s.heap TI (.ref i1) (.ref i2)) (wO:IsPair s.heap TO a b) (g1:n1 k s.heap) (g2:n2 k s.heap) (hend:xs[k]?=none\/ys[k]?=none)
  (q:∀ h' e,(∀ c o,c≠z->c≠TO->c≠i1->c≠i2->s.heap.get? c=some o->h'.get? c=some o)->(∃ o,h'.get? e=some o/\o.cls=.type "StopIteration")->E (.ref e) { s with heap:=h' }) :
  wpAny (model prog w) A (Builtin.«zip.__next__» ⟨[.ref z],[]⟩) Q E s:=by
 have ne1:i1≠z:=fun e=>D.z1 (e ▸ S1.mem)
 have ne2:i2≠z:=fun e=>D.z2 (e ▸ S2.mem)
 have no1:i1≠TO:=fun e=>D.o1 (e ▸ S1.mem)
 show wpAny _ _ (field (.ref z) 2 >>= _) _ _ _
 refine yA (yw wz rfl (x:=.bool false) rfl ?_)
 show wpAny _ _ (field (.ref z) 3 >>= _) _ _ _
 refine yA (yw wz rfl (x:=.ref TI) rfl ?_); refine yA (Yr wI rfl ?_)
 show wpAny _ _ (Builtin.SmallTypes.ownedTupleIsFree (.ref z) >>= _) _ _ _
 refine yA ?_; unfold Builtin.SmallTypes.ownedTupleIsFree; refine yA (yw wz rfl (x:=.none) rfl (yE ?_)); simp only [if_true]; refine yA (wpAny_rule ?_); refine yA (yw wz rfl (x:=.ref TO) rfl ?_)
 refine yA (JG wz (by simp) fun ha za sa=>?_)
 have za:IsZip ha z TI TO .ellipsis:=za
 refine yA ?_; simp only [List.zipIdx_cons,List.zipIdx_nil,List.forIn_cons,List.forIn_nil]; refine yA (yA (wpAny_onRaise ?_))
 show wpAny _ _ (Builtin.SmallTypes.nextOf (.ref i1) >>= _) _ _ _
 cases hx:xs[k]? with
 | none =>
  refine yA (S1.stop _ { s with heap:=ha } k _ _ hh (S1.but g1 sa D.z1) hx fun hb e sb st=>?_)
  obtain ⟨ox,gx,cx⟩:=st
  have zb:IsZip hb z TI TO .ellipsis:=sb _ _ (Ne.symm ne1) za
  have ez:e≠z:=fun c=>by subst c; rw [zb] at gx; cases gx; simp at cx
  exact JG zb (by simp) fun hc _ sc=>q hc e (fun c o c1 _ c3 _ v=>zac sc _ _ c1 (sb _ _ c3 (zac sa _ _ c1 v))) ⟨ox,zac sc _ _ ez gx,cx⟩
 | some x =>
  have hy:ys[k]?=none:=by rcases hend with h | h; rw [hx] at h; cases h; exact h
  refine yA (S1.item _ { s with heap:=ha } k x _ _ (S1.but g1 sa D.z1) hx fun hb g1b sb=>yE ?_)
  have ob:IsPair hb TO a b:=zac sb _ _ (Ne.symm no1) (zac sa _ _ D.oz wO)
  refine yA (Yr ob rfl ?_)
  refine yA (wpAny_updateSeq_pair ob fun hc oc sc=>?_)
  refine yA (wpAny_letGo (yE ?_)); refine yA (yA (wpAny_onRaise ?_))
  show wpAny _ _ (Builtin.SmallTypes.nextOf (.ref i2) >>= _) _ _ _
  refine yA (S2.stop _ { s with heap:=hc } k _ _ hh (S2.but (S2.but (S2.but g2 sa D.z2) sb D.i12) sc D.o2) hy fun hd e sd st=>?_)
  obtain ⟨ox,gx,cx⟩:=st
  have zd:IsZip hd z TI TO .ellipsis:=sd _ _ (Ne.symm ne2) (zac sc _ _ (Ne.symm D.oz) (zac sb _ _ (Ne.symm ne1) za))
  have ez:e≠z:=fun c=>by subst c; rw [zd] at gx; cases gx; simp at cx
  exact JG zd (by simp) fun he _ se=>q he e (fun c o c1 c2 c3 c4 v=>zac se _ _ c1 (sd _ _ c4 (zac sc _ _ c2 (zac sb _ _ c3 (zac sa _ _ c1 v))))) ⟨ox,zac se _ _ ez gx,cx⟩
theorem zl2 {Q:Option Value->Shared->Prop} (S1:Src prog w i1 xs f1 n1) (S2:Src prog w i2 ys f2 n2) (D:Apart z TI TO i1 i2 f1 f2) (wz:IsZip s.heap z TI TO .none) (wI:IsPair s.heap TI (.ref i1) (.ref i2)) (wO:IsPair s.heap TO a b) (g1:n1 k s.heap) (g2:n2 k s.heap) (hx:xs[k]?=some x) (hy:ys[k]?=some y)
  (q:∀ h',IsZip h' z TI TO (rawInt s.heap.objs.size)->IsPair h' TO x y->n1 (k+1) h'->n2 (k+1) h'->IsPair h' s.heap.objs.size x y->h'.objs.size=s.heap.objs.size+1->(∀ c o,c≠z->c≠TO->c≠i1->c≠i2->s.heap.get? c=some o->h'.get? c=some o)->Q (some (.ref s.heap.objs.size)) { s with heap:=h' }) :
  wpAny (model prog w) A (pyNext (.ref z)) Q E s:=by
 have ty:s.TypeIs (.ref z) "zip":=⟨_,wz,rfl⟩
 unfold pyNext
 exact yA (Yq (wpAny_callSpecial?_slot (name:=Str.ofString "__next__") ty PySem.F.slot_zip_next (YJ PySem.F.slot_zip_next ty PySem.F.entry_zip_next (zm7 S1 S2 D wz wI wO g1 g2 hx hy fun h' c1 c2 c3 c4 c5 c6 c7=>yE (q h' c1 c2 c3 c4 c5 c6 c7)) (PySem.F.args_zip_next_1 _))))
theorem zl1 {Q:Option Value->Shared->Prop} (hh:A.handled=none) (S1:Src prog w i1 xs f1 n1) (S2:Src prog w i2 ys f2 n2) (D:Apart z TI TO i1 i2 f1 f2) (wz:IsZip s.heap z TI TO .none) (wI:IsPair s.heap TI (.ref i1) (.ref i2)) (wO:IsPair s.heap TO a b) (g1:n1 k s.heap) (g2:n2 k s.heap) (hend:xs[k]?=none\/ys[k]?=none)
  (q:∀ h',(∀ c o,c≠z->c≠TO->c≠i1->c≠i2->s.heap.get? c=some o->h'.get? c=some o)->Q none { s with heap:=h' }):wpAny (model prog w) A (pyNext (.ref z)) Q E s:=by
 have ty:s.TypeIs (.ref z) "zip":=⟨_,wz,rfl⟩
 unfold pyNext
 refine yA (Yq (wpAny_callSpecial?_slot (name:=Str.ofString "__next__") ty PySem.F.slot_zip_next (YJ PySem.F.slot_zip_next ty PySem.F.entry_zip_next (zm6 hh S1 S2 D wz wI wO g1 g2 hend fun h' e ke st=>?_) (PySem.F.args_zip_next_1 _))))
 obtain ⟨ox,gx,cx⟩:=st; exact yA (wpAny_isInstance (T:="StopIteration") (b:=true) ⟨ox,gx,cx⟩ isSubtype_stop (yE (q _ ke)))
end
abbrev tIt (l:Addr):Obj:={ cls:=.type "tuple_iterator",data:=.fields #[.ref l,.int 0 0] }
abbrev zt1 (h:Heap) (l1:Addr):Heap:=h.push (tIt l1)
abbrev zt2 (h:Heap) (l1 l2:Addr):Heap:=(zt1 h l1).push (tIt l2)
abbrev zt3 (h:Heap) (l1 l2:Addr):Heap:=(zt2 h l1 l2).push { cls:=.type "tuple",data:=.seq #[.ref h.objs.size,.ref (zt1 h l1).objs.size] }
abbrev zt4 (h:Heap) (l1 l2:Addr):Heap:=(zt3 h l1 l2).push { cls:=.type "tuple",data:=.seq #[.none,.none] }
abbrev zt5 (h:Heap) (l1 l2:Addr):Heap:=(zt4 h l1 l2).push { cls:=.type "zip",data:=.fields #[.none,.bool false,.bool false,.ref (zt2 h l1 l2).objs.size,.ref (zt3 h l1 l2).objs.size] }
theorem zs6 (l1 l2:Addr) (us vs:Array Value):Meets (Builtin.«zip.__new__» ⟨[.type "zip",.ref l1,.ref l2],[]⟩) (fun _ R s=>s.heap.IsTuple l1 us/\s.heap.IsTuple l2 vs/\R (.ok (.ret (.ref (zt4 s.heap l1 l2).objs.size))) { s with heap:=zt5 s.heap l1 l2 }) :=
 .of_wp fun prog w A R s h=>by
  obtain ⟨hp,g,d,tk,os⟩:=s; obtain ⟨t1,t2,h⟩:=h; have sb:=sub_zip
  have T1:Heap.IsTuple (Shared.heap ⟨hp,g,d,tk,os⟩) l1 us:=t1
  have T2:Heap.IsTuple (Shared.heap ⟨hp.push (tIt l1),g,d,tk,os⟩) l2 vs:=Heap.IsTuple.push t2 _
  wp_walk using wpAny_pyIter_tuple T1,wpAny_pyIter_tuple T2
  exact ⟨_,rfl,h⟩
section
variable {prog:Program} {w:World} {A:Around} {E:Value->Shared->Prop} {s:Shared}
theorem zrD {l1 l2:Addr} {us vs:Array Value} {Q:Value->Shared->Prop} (t1:s.heap.IsTuple l1 us) (t2:s.heap.IsTuple l2 vs)
  (q:∀ h',IsZip h' (s.heap.objs.size+4) (s.heap.objs.size+2) (s.heap.objs.size+3) .none->IsPair h' (s.heap.objs.size+2) (.ref s.heap.objs.size) (.ref (s.heap.objs.size+1))->IsPair h' (s.heap.objs.size+3) .none .none ->
   h'.IsTupleIter s.heap.objs.size l1 0->h'.IsTupleIter (s.heap.objs.size+1) l2 0->(∀ c o,s.heap.get? c=some o->h'.get? c=some o)->Q (.ref (s.heap.objs.size+4)) { s with heap:=h' }) :
  wpAny (model prog w) A (call (.type "zip") [.ref l1,.ref l2]) Q E s:=by
 refine callType_new PySem.F.called_zip (by decide) (PySem.F.typeCall_zip_2 _ _) (PySem.F.newCall_zip_2 _ _) (fun obj=>PySem.F.args_object_init_3 obj _ _) PySem.F.entry_zip_new (zs6 l1 l2 us vs) ⟨t1,t2,?_⟩
 have s1:(zt1 s.heap l1).objs.size=s.heap.objs.size+1:=YT ..
 have s2:(zt2 s.heap l1 l2).objs.size=s.heap.objs.size+2:=by rw [YT,s1]
 have s3:(zt3 s.heap l1 l2).objs.size=s.heap.objs.size+3:=by rw [YT,s2]
 have s4:(zt4 s.heap l1 l2).objs.size=s.heap.objs.size+4:=by rw [YT,s3]
 have e5:(zt5 s.heap l1 l2).get? (zt4 s.heap l1 l2).objs.size=some _:=yK _ rfl
 have e4:(zt5 s.heap l1 l2).get? (zt3 s.heap l1 l2).objs.size=some _:=yB _ (yK _ rfl)
 have e3:(zt5 s.heap l1 l2).get? (zt2 s.heap l1 l2).objs.size=some _:=yB _ (yB _ (yK _ rfl))
 have e2:(zt5 s.heap l1 l2).get? (zt1 s.heap l1).objs.size=some _:=yB _ (yB _ (yB _ (yK _ rfl)))
 have e1:(zt5 s.heap l1 l2).get? s.heap.objs.size=some _:=yB _ (yB _ (yB _ (yB _ (yK _ rfl))))
 show _/\_
 rw [s2,s3,s4] at e5; rw [s1,s2] at e3; rw [s3] at e4; rw [s1] at e2; rw [s4]
 exact ⟨⟨_,e5,rfl⟩,q _ e5 e3 e4 ⟨_,e1,rfl,rfl⟩ ⟨_,e2,rfl,rfl⟩ fun c o v=>yB _ (yB _ (yB _ (yB _ (yB _ v))))⟩
end
end Zp
namespace L2
open PySem PySem.Spec PyProof.Rows
section
variable {X:Cx} {pins:List (Addr × Obj)} {σ:St} {H:Hp} {s:Shared} {h':Heap}
theorem Inv.turnedNew {t':Nat} {ch:List Addr} {p:Addr} {o:HO} (I:Inv X pins σ H s) (hch:∀ b ∈ ch,zeT X pins H b) (k:∀ b u,b ∉ ch->s.heap.get? b=some u->h'.get? b=some u) (hp:s.heap.objs.size<=p) (new:zbM X.prog X.w (upd H p o) h' p o) :
  Inv X pins σ (upd H p o) { s with heap:=h',toks:=t' }:=by
 have fr:H p=none:=I.hok.fresh hp
 have sm:∀ b u,H b=some u->upd H p o b=some u:=fun b u e=>by rw [zI (za3 e fr)]; exact e
 have nch:∀ b u,H b=some u->b ∉ ch:=fun b u e z=>by rw [(hch b z).1] at e; cases e
 refine I.step (g':=s.gens) (d':=s.drawn) (ch:=ch) (fun b hb=>?_) (fun b u _ _ hc e _=>k b u hc e) (fun b u _ _ hc e _=>⟨u.slots,k b u hc e⟩) (fun b u hc e n=>?_) (fun b u hc e=>⟨u,k b u hc e⟩) (fun b xs e=>sm _ _ e) (fun b ob u e=>sm _ _ e) (fun b ps e=>⟨#[],by rw [sm _ _ e]; simp⟩) (fun m hm=>?_) (fun b u e=>?_) I.bare
 ·obtain ⟨_,y1,_,y3,y4,y5⟩:=hch b hb
  exact ⟨y3,y1,y4,y5⟩
 ·rw [zI (yd (yW (yN e) hp))]
  exact n
 ·obtain ⟨ob,es,ep,ho,r⟩:=hm
  exact ⟨ob,es,ep,k _ ob (fun z=>(hch _ z).2.1 rfl) ho,r⟩
 ·by_cases z:b=p
  ·subst z
   rw [zv] at e; cases e; exact new
  ·rw [zI z] at e
   refine (I.hok b u e).stay (fun c v hc q=>k c v ?_ q) (fun c q=>sm _ _ q) fun c xs q=>sm _ _ q
   rcases hc with rfl | hc
   ·exact nch _ u e
   ·exact nch c _ hc
theorem Inv.turnedL {t':Nat} {ch:List Addr} (I:Inv X pins σ H s) (hch:∀ b ∈ ch,zeT X pins H b) (k:∀ b u,b ∉ ch->s.heap.get? b=some u->h'.get? b=some u):Inv X pins σ H { s with heap:=h',toks:=t' }:=by
 have nch:∀ b u,H b=some u->b ∉ ch:=fun b u e z=>by rw [(hch b z).1] at e; cases e
 refine I.step (g':=s.gens) (d':=s.drawn) (ch:=ch) (fun b hb=>?_) (fun b u _ _ hc e _=>k b u hc e) (fun b u _ _ hc e _=>⟨u.slots,k b u hc e⟩) (fun b u hc e n=>n) (fun b u hc e=>⟨u,k b u hc e⟩) (fun b xs e=>e) (fun b ob u e=>e) (fun b ps e=>⟨#[],by rw [e]; simp⟩) (fun m hm=>?_) (fun b u e=>?_) I.bare
 ·obtain ⟨_,y1,_,y3,y4,y5⟩:=hch b hb
  exact ⟨y3,y1,y4,y5⟩
 ·obtain ⟨ob,es,ep,ho,r⟩:=hm
  exact ⟨ob,es,ep,k _ ob (fun z=>(hch _ z).2.1 rfl) ho,r⟩
 ·refine (I.hok b u e).stay (fun c v hc q=>k c v ?_ q) (fun c q=>q) fun c xs q=>q
  rcases hc with rfl | hc
  ·exact nch _ u e
  ·exact nch c _ hc
end
end L2
namespace L2
open PySem PySem.Spec PyProof.Rows Zp
def SqB (lb:Bool) (K:W.Frag) (H:Hp) (a:Addr) (xs:List V):Prop:=match lb with | true=>SqL K H a xs | false=>SqT K H a xs
def ItB (lb:Bool) (h:Heap) (it l:Addr) (i:Nat):Prop:=match lb with | true=>h.IsListIter it l i | false=>h.IsTupleIter it l i
def LsB (lb:Bool) (h:Heap) (l:Addr) (its:List Value):Prop:=match lb with | true=>h.IsList l its.toArray | false=>h.IsTuple l its.toArray
theorem ztO {prog:Program} {w:World} {it l:Addr} {its:List Value} (lb:Bool) (ne:l≠it):Src prog w it its [it,l] (fun i h=>ItB lb h it l i/\LsB lb h l its):=by
 cases lb with
 | true=>exact znm ne
 | false=>exact zlc ne
theorem ItB.at {lb:Bool} {h h':Heap} {it l:Addr} {i:Nat} (x:ItB lb h it l i) (k:∀ o,h.get? it=some o->h'.get? it=some o):ItB lb h' it l i:=by
 cases lb with
 | true=>exact Heap.IsListIter.at x k
 | false=>exact Heap.IsTupleIter.at x k
theorem ItB.obj {lb:Bool} {h:Heap} {it l:Addr} {i:Nat} (x:ItB lb h it l i):∃ o,h.get? it=some o/\∀ v,o.data≠.cell v:=by
 cases lb with
 | true=>obtain ⟨o,e,_,d⟩:=x; exact ⟨o,e,fun v z=>by rw [d] at z; cases z⟩
 | false=>obtain ⟨o,e,_,d⟩:=x; exact ⟨o,e,fun v z=>by rw [d] at z; cases z⟩
section
variable {X:Cx} {pins:List (Addr × Obj)} {σ:St} {H:Hp} {s:Shared} {a b:Addr} {xs ys:List V} {lb:Bool}
theorem zln {u:HO} (h:Rd H a u):∃ o,H a=some o:=by
 rcases h with h | ⟨o,h⟩
 ·exact ⟨_,h⟩
 ·exact ⟨_,h⟩
theorem zmJ (I:Inv X pins σ H s) {o:Obj} (e:X.K.lookup a=some o) (f:zeT X pins H b):a≠b:=by
 have g:=I.ok.mod.kin _ _ e; obtain ⟨_,_,_,f3,_⟩:=f
 rintro rfl
 rcases f3 with z | z
 ·exact I.ok.noex _ _ g z
 ·exact yM (yW (yN g) (yz I.ok.bsz z)) (YS _)
theorem znn (I:Inv X pins σ H s) (h:SqB lb X.K H a xs) (f:zeT X pins H b):a≠b:=by
 have tr:∀ o,H a=some o->a≠b:=fun o e z=>by rw [z,f.1] at e; cases e
 cases lb with
 | true =>
  rcases h with h | ⟨o,its,n,hk,_⟩
  ·obtain ⟨o,e⟩:=zln h; exact tr o e
  ·exact zmJ I hk f
 | false =>
  rcases h with h | ⟨o,its,n,hk,_⟩
  ·obtain ⟨o,e⟩:=zln h; exact tr o e
  ·exact zmJ I hk f
theorem zkd (I:Inv X pins σ H s) (h:SqB lb X.K H a xs):∃ its:List Value,za7 xs its/\LsB lb s.heap a its:=by
 cases lb with
 | true =>
  obtain ⟨its,r,p,_⟩:=I.list h; exact ⟨its,r,p.isList⟩
 | false =>
  obtain ⟨its,r,p,_⟩:=I.tuple h; exact ⟨its,r,p⟩
theorem zo5 (I:Inv X pins σ H s) (h:SqB lb X.K H a xs) (h':SqB lb X.K H a ys):ys=xs:=by
 cases lb with
 | true=>exact I.list_inj h' h
 | false=>exact I.tuple_inj h' h
end
def Itz (lb:Bool) (K:W.Frag) (a b:Addr):It :=
  ⟨fun i H=>∃ xs ys x y,SqB lb K H a xs/\SqB lb K H b ys/\xs[i]?=some x/\ys[i]?=some y,
   fun i H v H'=>∃ p x y,H p=none/\v=.ref p/\H'=upd H p (.tup [x,y])/\(∀ xs,SqB lb K H a xs->xs[i]?=some x)/\∀ ys,SqB lb K H b ys->ys[i]?=some y,
   fun i H=>∃ xs ys,SqB lb K H a xs/\SqB lb K H b ys/\(xs.length<=i\/ys.length<=i)⟩
structure Ap5 (z TI TO i1 i2:Addr):Prop where
 iz:TI≠z
 oz:TO≠z
 io:TI≠TO
 ii1:TI≠i1
 ii2:TI≠i2
 z1:z≠i1
 z2:z≠i2
 o1:TO≠i1
 o2:TO≠i2
 i12:i1≠i2
theorem zne {P:Program} {w:World} {K:W.Frag} {elts:List Expr} {c:Nat} {pos:Pos} (lb:Bool) (a b z TI TO i1 i2:Addr) (D:Ap5 z TI TO i1 i2):Turn P w K (.Tuple elts c pos) (Itz lb K a b) [z,TI,TO,i1,i2] z
  (fun i h=>IsZip h z TI TO .none/\IsPair h TI (.ref i1) (.ref i2)/\(∃ u v,IsPair h TO u v)/\ItB lb h i1 a i/\ItB lb h i2 b i) where
 mem:=by simp
 obj:=by
  rintro i h ⟨wz,wI,⟨u,v,wO⟩,g1,g2⟩ d hd
  simp only [yJ,yu,or_false] at hd
  rcases hd with rfl | rfl | rfl | rfl | rfl
  ·exact ⟨_,wz,fun v z=>by cases z⟩
  ·exact ⟨_,wI,fun v z=>by cases z⟩
  ·exact ⟨_,wO,fun v z=>by cases z⟩
  ·exact g1.obj
  ·exact g2.obj
 keep:=by
  rintro i h h' ⟨wz,wI,⟨u,v,wO⟩,g1,g2⟩ k
  exact ⟨k z (by simp) _ wz,k TI (by simp) _ wI,⟨u,v,k TO (by simp) _ wO⟩,g1.at fun o e=>k i1 (by simp) o e,g2.at fun o e=>k i2 (by simp) o e⟩
 item:=by
  intro X hP hw hK hc i pins s σ H E I hf st hg
  subst hP hw hK
  obtain ⟨wz,wI,⟨u,v,wO⟩,g1,g2⟩:=st
  obtain ⟨xs,ys,x,y,sx,sy,hx,hy⟩:=hg; obtain ⟨us,rx,lx⟩:=zkd I sx; obtain ⟨vs,ry,ly⟩:=zkd I sy; obtain ⟨ux,hux,rux⟩:=rx.get hx; obtain ⟨vy,hvy,rvy⟩:=ry.get hy
  have ne:∀ d,d ∈ [z,TI,TO,i1,i2]->a≠d/\b≠d:=fun d hd=>⟨znn I sx (hf d hd),znn I sy (hf d hd)⟩
  have A0:Apart z TI TO i1 i2 [i1,a] [i2,b]:=by
   have nz:=ne z (by simp)
   have no:=ne TO (by simp)
   have n1:=ne i1 (by simp)
   have n2:=ne i2 (by simp)
   refine ⟨?_,?_,?_,?_,?_,?_,D.iz,D.oz,D.io,D.ii1,D.ii2⟩ <;> simp only [yJ,yu,or_false,not_or]
   ·exact ⟨D.z1,Ne.symm nz.1⟩
   ·exact ⟨D.z2,Ne.symm nz.2⟩
   ·exact ⟨D.o1,Ne.symm no.1⟩
   ·exact ⟨D.o2,Ne.symm no.2⟩
   ·exact ⟨Ne.symm D.i12,Ne.symm n2.1⟩
   ·exact ⟨D.i12,Ne.symm n1.2⟩
  refine zl2 (ztO lb (ne i1 (by simp)).1) (ztO lb (ne i2 (by simp)).2) A0 wz wI wO ⟨g1,lx⟩ ⟨g2,ly⟩ hux hvy fun h' c1 c2 c3 c4 c5 c6 c7=>⟨_,rfl,?_⟩
  refine wpAny_letOwnedTupleGo_zip (s:={ s with heap:=h' }) c1 fun h2 e1 e2=>?_
  have ext:=zac e2
  have pz:s.heap.objs.size≠z:=Yf (yN wz)
  have kk:∀ d o,d ∉ [z,TO,i1,i2]->s.heap.get? d=some o->h2.get? d=some o:=fun d o hd e=>by
   simp only [yJ,yu,or_false,not_or] at hd; exact ext d o hd.1 (c7 d o hd.1 hd.2.1 hd.2.2.1 hd.2.2.2 e)
  have fr:H s.heap.objs.size=none:=I.hok.fresh (yG _)
  have tp:IsPair h2 s.heap.objs.size ux vy:=ext _ _ pz c5
  have I2:Inv X pins σ (upd H s.heap.objs.size (.tup [x,y])) { s with heap:=h2 }:=I.turnedNew (t':=s.toks) (ch:=[z,TO,i1,i2]) (fun d hd=>hf d (by simp at hd ⊢; rcases hd with h | h | h | h <;> simp [h])) kk (yG _)
   ⟨by show 2<=sizeLine; exact YZ (za4 (by decide)),[ux,vy],.cons rux (.cons rvy .nil),⟨_,tp,rfl,_,rfl⟩⟩
  refine ⟨.ref s.heap.objs.size,_,I2,rfl,⟨_,x,y,fr,rfl,rfl,fun xs' h=>by rw [zo5 I sx h]; exact hx,fun ys' h=>by rw [zo5 I sy h]; exact hy⟩,⟨e1,?_,⟨_,_,ext _ _ D.oz c2⟩,?_,?_⟩,fun d hd=>?_⟩
  ·exact kk _ _ (by simp [D.iz,D.io,D.ii1,D.ii2]) wI
  ·exact c3.1.at fun o e=>ext _ o (Ne.symm D.z1) e
  ·exact c4.1.at fun o e=>ext _ o (Ne.symm D.z2) e
  ·obtain ⟨od,gd,_⟩:∃ o,s.heap.get? d=some o/\True:=by
    simp only [yJ,yu,or_false] at hd
    rcases hd with rfl | rfl | rfl | rfl | rfl
    ·exact ⟨_,wz,trivial⟩
    ·exact ⟨_,wI,trivial⟩
    ·exact ⟨_,wO,trivial⟩
    ·obtain ⟨o,e,_⟩:=g1.obj; exact ⟨o,e,trivial⟩
    ·obtain ⟨o,e,_⟩:=g2.obj; exact ⟨o,e,trivial⟩
   rw [zI (yd (yN gd))]; exact (hf d hd).1
 done:=by
  intro X hP hw hK hc i pins s σ H E I hf st hg
  subst hP hw hK
  obtain ⟨wz,wI,⟨u,v,wO⟩,g1,g2⟩:=st
  obtain ⟨xs,ys,sx,sy,hend⟩:=hg; obtain ⟨us,rx,lx⟩:=zkd I sx; obtain ⟨vs,ry,ly⟩:=zkd I sy
  have ne:∀ d,d ∈ [z,TI,TO,i1,i2]->a≠d/\b≠d:=fun d hd=>⟨znn I sx (hf d hd),znn I sy (hf d hd)⟩
  have A0:Apart z TI TO i1 i2 [i1,a] [i2,b]:=by
   have nz:=ne z (by simp)
   have no:=ne TO (by simp)
   have n1:=ne i1 (by simp)
   have n2:=ne i2 (by simp)
   refine ⟨?_,?_,?_,?_,?_,?_,D.iz,D.oz,D.io,D.ii1,D.ii2⟩ <;> simp only [yJ,yu,or_false,not_or]
   ·exact ⟨D.z1,Ne.symm nz.1⟩
   ·exact ⟨D.z2,Ne.symm nz.2⟩
   ·exact ⟨D.o1,Ne.symm no.1⟩
   ·exact ⟨D.o2,Ne.symm no.2⟩
   ·exact ⟨Ne.symm D.i12,Ne.symm n2.1⟩
   ·exact ⟨D.i12,Ne.symm n1.2⟩
  have he:us[i]?=none\/vs[i]?=none:=by
   rcases hend with h | h
   ·exact .inl (List.getElem?_eq_none (by rw [<- rx.length]; exact h))
   ·exact .inr (List.getElem?_eq_none (by rw [<- ry.length]; exact h))
  refine zl1 (I.ok.hd hc) (ztO lb (ne i1 (by simp)).1) (ztO lb (ne i2 (by simp)).2) A0 wz wI wO ⟨g1,lx⟩ ⟨g2,ly⟩ he fun h' k=>⟨rfl,?_⟩
  refine I.turnedL (t':=s.toks) (ch:=[z,TO,i1,i2]) (fun d hd=>hf d (by simp at hd ⊢; rcases hd with h | h | h | h <;> simp [h])) fun d o hd e=>?_
  simp only [yJ,yu,or_false,not_or] at hd; exact k d o hd.1 hd.2.1 hd.2.2.1 hd.2.2.2 e
 self:=fun A i s Q E st q=>wpAny_pyIter_zip st.1 q
theorem zdI {a b:Nat} (h:a≠b):(a:Addr)≠(b:Addr):=h
theorem ap5 (n:Nat):Ap5 (n+4:Nat) (n+2:Nat) (n+3:Nat) n (n+1:Nat):=⟨zdI (by omega),zdI (by omega),zdI (by omega),zdI (by omega),zdI (by omega),zdI (by omega),zdI (by omega),zdI (by omega),zdI (by omega),zdI (by omega)⟩
theorem zoS:bootBuiltins "zip"=some (.type "zip"):=by rfl
section
variable {X:Cx}
def zwA (K:W.Frag) (ta:TA):TI:=fun σ H R=>ta σ H fun vs H1=>∃ a b xs ys lb,vs=[.ref a,.ref b]/\SqB lb K H1 a xs/\SqB lb K H1 b ys/\R (Itz lb K a b) H1
theorem zsB {e1 e2:Expr} {elts:List Expr} {c:Nat} {ta:TA} {p pos tp:Pos} (hg:Gl X "zip") (hm:X.mg "zip"=none) (ha:PA X [e1,e2] ta) (hs:starEach [e1,e2] X.env=(false,eval e1 X.env) :: starEach [e2] X.env:=by rfl) (hpl:(backTo pos (starEach [e2] X.env)).any (·.1)=false:=by rfl) :
  PI X (.Tuple elts c tp) (.Call (.Name "zip" p) [e1,e2] [] pos) (zwA X.K ta):=by
 intro pins s σ H R I h
 refine Call_ (zcA I hg hm zoS (yq (thn (ha pos pins s σ H _ I h) fun us s1 ⟨vs,H1,I1,r1,q1⟩=>?_) hs hpl))
 obtain ⟨a,b,xs,ys,lb,e,sx,sy,q⟩:=q1; subst e; obtain ⟨u,v,rfl,ru,rv⟩:=znc r1
 obtain rfl:u=Value.ref a:=ru
 obtain rfl:v=Value.ref b:=rv
 obtain ⟨us,rx,lx⟩:=zkd I1 sx; obtain ⟨vs,ry,ly⟩:=zkd I1 sy
 have fin:∀ h',IsZip h' (s1.heap.objs.size+4) (s1.heap.objs.size+2) (s1.heap.objs.size+3) .none->IsPair h' (s1.heap.objs.size+2) (.ref s1.heap.objs.size) (.ref (s1.heap.objs.size+1))->IsPair h' (s1.heap.objs.size+3) .none .none ->
   ItB lb h' s1.heap.objs.size a 0->ItB lb h' (s1.heap.objs.size+1) b 0->(∀ c o,s1.heap.get? c=some o->h'.get? c=some o) ->
   wpAny (model X.prog X.w) X.A (pyIter (.ref (s1.heap.objs.size+4))) (PIE X pins σ (.Tuple elts c tp) R) X.xe { s1 with heap:=h' }:=by
  intro h' z1 z2 z3 z4 z5 k
  refine wpAny_pyIter_zip (s:={ s1 with heap:=h' }) z1 ?_
  refine ⟨s1.heap.objs.size+4,[s1.heap.objs.size+4,s1.heap.objs.size+2,s1.heap.objs.size+3,s1.heap.objs.size,s1.heap.objs.size+1],_,_,H1,rfl,I1.kept (t':=s1.toks) k,zne lb a b _ _ _ _ _ (ap5 _),⟨z1,z2,⟨_,_,z3⟩,z4,z5⟩,fun d hd=>?_,q⟩
  have hd':s1.heap.objs.size<=d:=by
   simp only [yJ,yu,or_false] at hd
   rcases hd with rfl | rfl | rfl | rfl | rfl <;> omega
  exact I1.fpOk hd' (I1.hok.fresh hd')
 cases lb with
 | true=>exact call_zip_2 lx ly fun h' z1 z2 z3 z4 z5 _ k=>fin h' z1 z2 z3 z4 z5 k
 | false=>exact zrD lx ly fun h' z1 z2 z3 z4 z5 k=>fin h' z1 z2 z3 z4 z5 k
end
end L2
namespace PL
open PySem L2
theorem zjk {lb:Bool} {K:W.Frag} {H H':Hp} {a:Addr} {vs:List V} (s:zaS H H') (h:SqB lb K H a vs):SqB lb K H' a vs:=by
 cases lb with
 | true=>exact zak s h
 | false=>exact zaN s h
theorem zmf {K:W.Frag} {Hi:Hp} {a b:Addr} {us vs:List V} {ds es:List D} {lb:Bool} (h1:SqB lb K Hi a us) (r1:zbC K Hi us ds) (h2:SqB lb K Hi b vs) (r2:zbC K Hi vs es):ItD K Hi (Itz lb K a b) ((ds.zip es).map fun p=>.tup [p.1,p.2]):=by
 intro Hi' H' s1 s2
 have q1:SqB lb K H' a us:=zjk (s1.trans s2.sub) h1
 have q2:SqB lb K H' b vs:=zjk (s1.trans s2.sub) h2
 refine ⟨fun i d e=>?_,us,vs,q1,q2,?_⟩
 ·rw [yL] at e
  obtain ⟨⟨d1,d2⟩,hz,rfl⟩:=Option.map_eq_some_iff.mp e
  obtain ⟨e1,e2⟩:=List.getElem?_zip_eq_some.mp hz; obtain ⟨u,hu,ru⟩:=za6 r1 e1; obtain ⟨v,hv,rv⟩:=za6 r2 e2; refine ⟨⟨us,vs,u,v,q1,q2,hu,hv⟩,?_⟩
  rintro x H'' ⟨p,x1,y1,hp,rfl,rfl,k1,k2⟩
  have ex:x1=u:=by have:=k1 us q1; rw [hu] at this; exact (Option.some.inj this).symm
  have ey:y1=v:=by have:=k2 vs q2; rw [hv] at this; exact (Option.some.inj this).symm
  subst ex ey
  have ex:=Ext.new s2 hp (.tup [x1,y1]); exact ⟨_,ex,Den.mkT zv (.cons (ru.mono (s1.trans ex.hi)) (.cons (rv.mono (s1.trans ex.hi)) .nil))⟩
 ·rw [yD,List.length_zip,zk r1,zk r2]
  omega
section
variable {X:Cx}
def zaF (t:TA'):TI':=fun Γ Q=>t Γ fun ds Γ1=>∃ xs ys,(ds=[.tup xs,.tup ys]\/ds=[.lst xs,.lst ys])/\Q ((xs.zip ys).map fun p=>.tup [p.1,p.2]) Γ1
theorem zqv {e1 e2:Expr} {elts:List Expr} {c:Nat} {t:TA'} {p pos tp:Pos} (hm:X.mg "zip"=none) (ha:PA' X [e1,e2] t) (hg:Gl X "zip":=by rfl):PI' X (.Tuple elts c tp) (.Call (.Name "zip" p) [e1,e2] [] pos) (zaF t):=by
 refine ⟨PI.weak (zsB hg hm ha.pa (zby (zaY ha.pl).1) (zbK (zaY ha.pl).2)) ?_⟩
 rintro σ H R ⟨W,Hi,Γ,Q,g,h,fin⟩
 refine ⟨W,Hi,Γ,_,g,h,?_⟩
 rintro vs H1 Hi1 Γ1 ds s1 g1 dl ⟨xs,ys,hd,q⟩
 rcases hd with rfl | rfl
 ·obtain ⟨v,w,rfl,d1,d2⟩:=zi3 dl
  obtain ⟨a,us,rfl,h1,r1⟩:=d1.tupI; obtain ⟨b,ws,rfl,h2,r2⟩:=d2.tupI; exact ⟨a,b,us,ws,false,rfl,zaN g1.sub h1,zaN g1.sub h2,fin _ H1 Hi1 Γ1 _ s1 g1 (zmf (lb:=false) h1 r1 h2 r2) q⟩
 ·obtain ⟨v,w,rfl,d1,d2⟩:=zi3 dl
  obtain ⟨a,us,rfl,h1,r1⟩:=d1.lstI; obtain ⟨b,ws,rfl,h2,r2⟩:=d2.lstI; exact ⟨a,b,us,ws,true,rfl,zak g1.sub h1,zak g1.sub h2,fin _ H1 Hi1 Γ1 _ s1 g1 (zmf (lb:=true) h1 r1 h2 r2) q⟩
end
end PL
namespace Lb
def Dig (c:Nat):Prop:=48<=c/\c<=57
def Sml (c:Nat):Prop:=97<=c/\c<=122
def zs8:List Nat:=[97,98,99,100,101,102,103,104,105,106,107,108,109,110,111,112,113,114,115,116,117,118,119,120,121,122]
def zrR:List Nat:=[48,49,50,51,52,53,54,55,56,57]
theorem zok (c:Nat):c ∈ zs8↔Sml c:=by
 show c ∈ List.range' 97 26↔_
 rw [List.mem_range'_1]; unfold Sml; omega
theorem ze1 (c:Nat):c ∈ zrR↔Dig c:=by
 show c ∈ List.range' 48 10↔_
 rw [List.mem_range'_1]; unfold Dig; omega
theorem zdE {p:Nat->Bool}:∀ (ls ds:List Nat),(∀ c ∈ ls,p c=true)->(∀ c ∈ ds,p c=false)->(ls ++ ds).takeWhile p=ls
 | [],[],_,_=>rfl
 | [],d :: ds,_,h=>by rw [JI,List.takeWhile_cons,h d (yR ..)]; rfl
 | l :: ls,ds,h1,h2=>by
  rw [List.cons_append,List.takeWhile_cons,h1 l (yR ..),yS rfl,zdE ls ds (fun c hc=>h1 c (yI _ hc)) h2]
theorem zkc {p:Nat->Bool} {ds ls:List Nat} (h1:∀ c ∈ ls,p c=true) (h2:∀ c ∈ ds,p c=false):(((ds ++ ls).reverse).takeWhile p).length=ls.length:=by
 rw [List.reverse_append,zdE _ _ (fun c hc=>h1 c (List.mem_reverse.mp hc)) (fun c hc=>h2 c (List.mem_reverse.mp hc)),ym]
def dig (c:Nat):Bool:=decide (c ∈ zrR)
def sml (c:Nat):Bool:=decide (c ∈ zs8)
def wsg:List Nat:=zs8 ++ zrR
def cut (l:List Nat):List Nat:=(l.reverse.dropWhile sml).reverse
def zd4 (l:List Nat):List Nat:=(l.reverse.takeWhile sml).reverse
theorem zdk (l:List Nat):cut l ++ zd4 l=l:=by
 unfold cut zd4; rw [<- List.reverse_append,List.takeWhile_append_dropWhile,List.reverse_reverse]
theorem zdF {p:Nat->Bool}:∀ l:List Nat,∀ c ∈ l.takeWhile p,p c=true
 | [],c,h=>by simp at h
 | a :: r,c,h=>by
  rw [List.takeWhile_cons] at h; split at h
  ·rename_i ha
   rcases yJ.mp h with e | e
   ·rw [e]; exact ha
   ·exact zdF r c e
  ·simp at h
theorem zgu (l:List Nat):∀ c ∈ zd4 l,sml c=true:=fun c hc=>zdF _ c (List.mem_reverse.mp hc)
theorem zfM {c:Nat} (h:dig c=true):sml c=false:=by
 have a:=(ze1 c).mp (of_decide_eq_true h)
 refine yV fun z=>?_
 have b:=(zok c).mp z; unfold Dig at a; unfold Sml at b; omega
theorem ztw {ds ls:List Nat} (h1:∀ c ∈ ls,sml c=true) (h2:∀ c ∈ ds,sml c=false):cut (ds ++ ls)=ds:=by
 have e:=zkc h1 h2; have a:=zdk (ds ++ ls)
 have hl:(zd4 (ds ++ ls)).length=ls.length:=by
  unfold zd4; rw [ym]; exact e
 have hl2:(cut (ds ++ ls)).length=ds.length:=by
  have:=yp List.length a
  rw [yH,yH] at this; omega
 exact (List.append_inj a hl2).1
def zY (l:List Nat):Bool:=decide (1<=(cut l).length/\(cut l).length<=9) && decide ((cut l)[0]?≠some 48) && (cut l).all dig && decide (l.length-(cut l).length<=3)
end Lb
namespace M11
open PySem L2 Lb PL
theorem zh1:∀ (m:Nat),1<=m->∃ c r,Nat.toDigits 10 m=c :: r/\c.toNat≠48
 | m,h=>by
  by_cases hm:m<10
  ·refine ⟨_,[],Nat.toDigits_of_lt_base hm,?_⟩
   have:∀ k:Fin 10,k.1≠0->(Nat.digitChar k.1).toNat≠48:=by decide
   exact this ⟨m,hm⟩ (Nat.pos_iff_ne_zero.mp h)
  ·obtain ⟨c,r,e,hc⟩:=zh1 (m / 10) (by omega)
   exact ⟨c,r ++ [(m % 10).digitChar],by rw [Nat.toDigits_of_base_le (by decide) (by omega),e]; rfl,hc⟩
termination_by m=>m
decreasing_by omega
theorem zqY {n:Int} (h0:1<=n) (h1:n<10 ^ 9):(∀ c ∈ zlU n,dig c=true)/\1<=(zlU n).length/\(zlU n).length<=9/\(zlU n)[0]?≠some 48:=by
 have hl:=PyProof.Rows.toString_length_le (v:=n) (by omega) (k:=9) (by decide) h1
 obtain ⟨m,rfl⟩:=Int.eq_ofNat_of_zero_le (show 0<=n by omega)
 have hs:=W.KIN.signs_num m
 obtain ⟨c,r,e,hc⟩:=zh1 m (by omega)
 unfold zlU
 refine ⟨fun c hc=>?_,?_,?_,?_⟩
 ·rw [hs] at hc
  obtain ⟨d,hd,rfl⟩:=yT.mp hc
  have hdig:=Nat.isDigit_of_mem_toDigits (by decide) (by decide) hd
  simp only [Char.isDigit,yX,yk] at hdig; exact YB ((ze1 _).mpr ⟨hdig.1,hdig.2⟩)
 ·rw [hs,e]
  simp
 ·rw [show (Str.ofString (toString (m:Int))).cps.toList.length=(Str.ofString (toString (m:Int))).length by simp [Str.length]]
  exact hl
 ·rw [hs,e]
  simpa using hc
theorem ztb {ds ls:List Nat} (h1:∀ c ∈ ds,dig c=true) (h2:1<=ds.length) (h3:ds.length<=9) (h4:ds[0]?≠some 48) (h5:∀ c ∈ ls,sml c=true) (h6:ls.length<=3):zY (ds ++ ls)=true:=by
 have e:cut (ds ++ ls)=ds:=ztw h5 fun c hc=>zfM (h1 c hc)
 unfold zY; rw [e]
 have ha:ds.all dig=true:=yY.mpr h1
 rw [ha,YB (⟨h2,h3⟩:1<=ds.length/\ds.length<=9),YB h4,YB (show (ds ++ ls).length-ds.length<=3 by rw [yH]; omega)]
 rfl
theorem prog_facts {l:List Nat} (h:zY l=true):46 ∉ l/\l.length<=12/\l≠[]:=by
 unfold zY at h; simp only [yX,yk] at h
 obtain ⟨⟨⟨⟨a1,a2⟩,_⟩,a3⟩,a4⟩:=h
 have el:=yp List.length (zdk l); rw [yH] at el
 refine ⟨fun hm=>?_,by omega,fun z=>?_⟩
 ·rw [<- zdk l] at hm
  rcases yU.mp hm with hm | hm
  ·have:=yY.mp a3 46 hm
   revert this
   decide
  ·have:=zgu l 46 hm
   revert this
   decide
 ·rw [z] at a1
  revert a1
  decide
def labelsIn (l:List Nat):List (List Nat):=if l=[46] then [] else spl 46 l
def textOf (L:List (List Nat)):List Nat:=if L=[] then [46] else zaT 46 L
theorem spl_short (c:Nat):∀ l,∀ a ∈ spl c l,a.length<=l.length
 | [],a,h=>by simp [spl] at h; simp [h]
 | x :: r,a,h=>by
  have ih:=spl_short c r; unfold spl at h; split at h
  ·rcases yJ.mp h with rfl | h
   ·simp
   ·have:=ih a h; simp; omega
  ·split at h
   ·rcases yJ.mp h with rfl | h
    ·simp
    ·simp at h
   ·rename_i b t e
    rw [e] at ih
    rcases yJ.mp h with rfl | h
    ·have:=ih b yR
     simp; omega
    ·have:=ih a (yI _ h)
     simp; omega
theorem labels_text {L:List (List Nat)} (h:L.all zY=true):labelsIn (textOf L)=L:=by
 have hp:=yY.mp h; unfold labelsIn textOf
 by_cases hL:L=[]
 ·rw [yS hL,yS rfl,hL]
 ·rw [yQ hL,zd8 hL fun a ha=>(prog_facts (hp a ha)).1,yQ ?_]
  intro z
  -- a single point is not the join of labels
  cases L with
  | nil=>exact hL rfl
  | cons a t =>
   have ha:=prog_facts (hp a yR)
   cases t with
   | nil =>
    apply ha.1
    rw [show a=[46] from z]
    simp
   | cons b r =>
    have e:a ++ 46 :: zaT 46 (b :: r)=[46]:=z
    have el:=yp List.length e
    have:1<=a.length:=List.length_pos_iff.mpr ha.2.2
    simp at el
    omega
theorem sum_join (c:Nat):∀ L:List (List Nat),(zaT c L).length<=(L.map (·.length)).sum+L.length
 | []=>by simp [zaT]
 | [a]=>by simp [zaT]
 | a :: b :: r=>by
  have ih:=sum_join c (b :: r)
  show (a ++ c :: zaT c (b :: r)).length<=_
  simp at ih ⊢
  omega
theorem sum_le {B:Nat}:∀ {L:List (List Nat)},(∀ a ∈ L,a.length<=B)->(L.map (·.length)).sum<=B * L.length
 | [],_=>by simp
 | a :: t,h=>by
  have ih:=sum_le (L:=t) fun x hx=>h x (yI _ hx)
  have:=h a yR
  simp [Nat.mul_add]; omega
end M11
namespace MT
open PySem L2 PL
abbrev Pl:=List (List Nat)
inductive Tr where
 | node (l:List Nat) (ws:Pl) (ks:List Tr)
def Tr.lab:Tr->List Nat
 | .node l _ _=>l
def Tr.wds:Tr->Pl
 | .node _ ws _=>ws
def Tr.kds:Tr->List Tr
 | .node _ _ ks=>ks
mutual
def trD:Tr->D
 | .node l ws ks=>.tup [.str l,plc ws,.tup (zmT ks)]
def zmT:List Tr->List D
 | []=>[]
 | t :: r=>trD t :: zmT r
end
theorem zjf:∀ ks:List Tr,zmT ks=ks.map trD
 | []=>by simp [zmT]
 | t :: r=>by simp [zmT,zjf r]
theorem zbI (t:Tr):trD t=.tup [.str t.lab,plc t.wds,.tup (t.kds.map trD)]:=by
 cases t with
 | node l ws ks=>simp [trD,zjf,Tr.lab,Tr.wds,Tr.kds]
def zbB (l:List Nat) (ks:List Tr):Option Tr:=ks.find? fun k=>decide (k.lab=l)
def zpg:Option Tr->D
 | none=>.non
 | some t=>trD t
def zbG:Tr->Pl->Option Tr
 | t,[]=>some t
 | t,l :: p=>match zbB l t.kds with
  | none=>none
  | some k=>zbG k p
theorem zka (t:Tr):trD t≠.non:=by rw [zbI]; simp
theorem zdY:∀ (p:Pl) (t:Tr) (l:List Nat),zbG t (p ++ [l])=match zbG t p with
  | none=>none
  | some k=>zbB l k.kds
 | [],t,l=>by
  simp only [JI,zbG]
  cases zbB l t.kds <;> rfl
 | m :: p,t,l=>by
  simp only [List.cons_append,zbG]
  cases zbB m t.kds with
  | none=>rfl
  | some k=>exact zdY p k l
end MT
namespace L2
open PySem PySem.Spec PyProof.Rows
def PU (X:Cx) (e:Expr) (t:TE):Prop:=∀ (pins:List (Addr × Obj)) (s:Shared) (σ:St) (H:Hp) (Q:VK) (i:Nat) (x:Str) (pos pos':Pos) (D:Ends),Inv X pins σ H s->t σ H Q->X.N.Nodup->X.N[i]?=some x->X.env.scope.names.lookup x=some .local ->
 swapsWith e (some (.Name x pos')) pos.line X.env=pure true->(∀ v H',Q v H'->D.nx (σ.set i (some v)) H')->wpAny (model X.prog X.w) X.A (exec (.Assign [.Name x pos'] e pos) X.env) (SP X pins D) X.xe s
theorem PU.weak {X:Cx} {e:Expr} {t t2:TE} (h:PU X e t) (w:∀ σ H Q,t2 σ H Q->t σ H Q):PU X e t2:=fun pins s σ H Q i x pos pos' D I q=>h pins s σ H Q i x pos pos' D I (w _ _ _ q)
theorem zqh {X:Cx} {elt tg iter:Expr} {ifs:List Expr} {sc fsc:Scope} {pos:Pos} {wi:TI} {g:TG} {tc:TT} {te:TE} {N N':List Str} {src:List (Option Nat)} (B:Blk N N' src fsc sc) (hi:PI X tg iter wi)
  (hg:∀ cl C s H fp pn,PG (blk X N' sc cl C s H fp pn) tg g) (ht:∀ cl C s H fp pn,PTs (blk X N' sc cl C s H fp pn) ifs tc) (he:∀ cl C s H fp pn,PE (blk X N' sc cl C s H fp pn) elt te)
  (hx:X.xe=(fun _ _=>False):=by rfl) (hc:X.calm=true:=by rfl) (hN:X.N=N:=by rfl) (hs:X.env.scope=fsc:=by rfl)
  (hf:∀ x,foldedSetIterable iter X.env x=pure x:=by intro _; rfl):PU X (.ListComp elt [⟨tg,iter,ifs,0⟩] sc pos) (zr8 wi src g tc te):=by
 intro pins s σ H Q i0 x0 p0 p1 D0 I h hNd hi0 hx0 hsw fin; rw [exec_Assign_Name_used _ _ _ _ hsw]; refine yA (wpAny_standAt (yA ?_))
 show wpAny _ _ (do let _ <- comprehension (.ListComp elt [⟨tg,iter,ifs,0⟩] sc pos) sc X.env _ (newList []) false (eval iter X.env) (some (assign (.Name x0 p1) X.env))) _ _ _
 have hfr:∀ y ∈ sc.names,y.2=.free->∃ c,X.env.cells.lookup y.1=some c:=fun y hy e=>I.ok.has y.1 (.inl (by have:=B.free y hy e; rw [<- hs] at this; exact this))
 refine yA (yx (wpAny_comprehension_free (use:=some (assign (.Name x0 p1) X.env)) (Q:=fun _ s'=>SP X pins D0 .next s') (cl:=zdK X.env.cells sc.names []) rfl hf (zgl hfr) B.kind B.names ?_) (fun _ s' hq=>yE (yE hq)) fun _ _ e=>e)
 refine thn (hi pins s σ H _ I h) fun v s1 h1=>thn h1 fun itv s2 h2=>?_
 obtain ⟨it,fp,tn,J,H2,e,I2,T,st2,f2,q⟩:=h2; subst e
 obtain ⟨W,⟨m0,w0⟩,turn⟩:=q s2.heap.objs.size (I2.hok.fresh (yG _))
 refine yj (wpAny_newFunctionEnv B.cell (by intro y hy; simp at hy) (fun h1 hns hsb=>?_) B.kind)
 dsimp only at hns hsb ⊢
 have I3:Inv X pins σ (upd H2 s2.heap.objs.size (.lst [])) { s2 with heap:=s2.heap.push { cls:=.type "list",dict:=none,data:=.seq ([]:List Value).toArray } } :=
  I2.laid (t':=s2.toks) (fun b o e=>yB _ e) (yG _) ⟨yo _,[],0,.nil,yK _ rfl⟩
 have fb:∀ b ∈ fp,b<s2.heap.objs.size:=fun b hb=>by
  obtain ⟨o,e,_⟩:=T.obj 0 _ st2 b hb; exact yN e
 have f3:∀ b ∈ fp,zeT X pins (upd H2 s2.heap.objs.size (.lst [])) b:=fun b hb=>by
  refine ⟨?_,(f2 b hb).2⟩; rw [zI (yd (fb b hb))]; exact (f2 b hb).1
 generalize hh3:s2.heap.push { cls:=.type "list",dict:=none,data:=.seq ([]:List Value).toArray }=h3 at hns hsb I3 ⊢
 have z3:s2.heap.objs.size<h3.objs.size:=by rw [<- hh3,YT]; exact Nat.lt_succ_self _
 have k3:∀ b o,h3.get? b=some o->h1.get? b=some o:=fun b o e=>hsb.extBut b o (yd (yN e)) (yB _ e)
 have I4:=zpI (tk:=s2.toks+([]:List (Str × Value)).length) I3 B hN hs f3 (fun b hb=>Nat.lt_trans (fb b hb) z3) hns k3
 have st4:tn 0 h1:=T.keep 0 _ _ st2 fun b hb o e=>k3 b o (by rw [<- hh3]; exact yB _ e)
 have fok:∀ {H':Hp},(∀ b ∈ fp,H' b=none)->∀ b ∈ fp,zeT (blk X N' sc (zdK X.env.cells sc.names []) h3.objs.size { s2 with heap:=h3 } (upd H2 s2.heap.objs.size (.lst [])) fp (X.pn ++ pins)) [] H' b:=fun hn b hb=>by
  obtain ⟨_,g1,g2,g3,g4,g5⟩:=f3 b hb
  refine ⟨hn b hb,yd (Nat.lt_trans (fb b hb) z3),fun z=>?_,.inl hb,fun x c e=>g4 x c (zes sc.names [] hfr (fun _ _ z=>by simp at z) e),fun p hp=>g5 p (by rw [YG] at hp; exact hp)⟩
  rcases yJ.mp (I3.stkSub b z) with e | e
  ·exact g1 e
  ·exact g2 e
 have loop:∀ s4:Shared,s4={ s2 with heap:=h1,toks:=s2.toks+([]:List (Str × Value)).length } ->
   codeAny (model X.prog X.w) X.A (.compLoop (.ListComp elt [⟨tg,iter,ifs,0⟩] sc pos) 0 (.ref it) (.ref s2.heap.objs.size) (compEnvC sc (zdK X.env.cells sc.names []) h3.objs.size X.env))
    (compPost (model X.prog X.w) X.A X.xe (some (assign (.Name x0 p1) X.env)) (fun _ s'=>SP X pins D0 .next s') (.ref s2.heap.objs.size) h3.objs.size) s4:=by
  rintro s4 rfl
  refine zia (fun k s'=>∃ i σ5 H5,Inv (blk X N' sc (zdK X.env.cells sc.names []) h3.objs.size { s2 with heap:=h3 } (upd H2 s2.heap.objs.size (.lst [])) fp (X.pn ++ pins)) [] σ5 H5 s'/\tn i s'.heap/\(∀ b ∈ fp,H5 b=none)/\W i k σ5 H5) ?_ m0
   ⟨0,_,_,I4,st4,fun b hb=>(f3 b hb).1,w0⟩
  rintro k s5 ⟨i,σ5,H5,I5,st5,fr5,w5⟩
  rcases turn i k σ5 H5 w5 with ⟨stop,qd⟩ | ⟨go,M,hM,step⟩
  ·refine thn (T.done (blk X N' sc (zdK X.env.cells sc.names []) h3.objs.size { s2 with heap:=h3 } (upd H2 s2.heap.objs.size (.lst [])) fp (X.pn ++ pins)) rfl rfl rfl hc i [] s5 σ5 H5 _ I5 (fok fr5) st5 stop) fun r s6 ⟨hr,I6⟩=>?_
   subst hr; obtain ⟨m6,hn6,_⟩:=id I6.loc
   have I7:Inv X pins σ H5 s6:=I3.call' (s':=s6) (ch:=fp) I6.os (Un.same I6.base (Heap.SameBut.refl ..) (yG _)) (HOk.same I6.hok (Heap.SameBut.refl ..) I6.free) I6.bare fun b hb=>⟨(f3 b hb).2.2.2.1,(f3 b hb).2.1,(f3 b hb).2.2.2.2.1,(f3 b hb).2.2.2.2.2⟩
   obtain ⟨c0,c1,c2,c3,c4,c5⟩:=I3.fpOk (H':=H5) (b:=h3.objs.size) (yG _) I6.free
   show wpAny _ _ (assign (.Name x0 p1) X.env (.ref s2.heap.objs.size)) _ _ _
   refine wpAny_assign_Name (zhq (v:=.ref s2.heap.objs.size) I7 hNd hi0 (.inl hx0) rfl (fun s8 I8 sb=>?_) (.inr hx0))
   obtain ⟨a8,sb8,ha8⟩:=sb
   have ne8:h3.objs.size≠a8:=by
    rcases ha8 with e | e
    ·rw [e]; exact c1
    ·exact fun z=>c4 _ _ e z.symm
   exact ⟨m6,hn6.sameBut sb8 ne8,fun h' hsb'=>⟨_,H5,I8.turned (t':=s8.toks) (fun b o hb e=>(hsb'.2 b hb).trans e) c0 c1 c3 c4 c5,fin _ _ qd⟩⟩
  ·refine thn (T.item (blk X N' sc (zdK X.env.cells sc.names []) h3.objs.size { s2 with heap:=h3 } (upd H2 s2.heap.objs.size (.lst [])) fp (X.pn ++ pins)) rfl rfl rfl hc i [] s5 σ5 H5 _ I5 (fok fr5) st5 go) fun r s6 ⟨u,hr,h6⟩=>?_
   subst hr
   refine thn h6 fun _ s7 ⟨x,H7,I7,r7,y7,st7,fr7⟩=>?_
   have I7':=I7.pinned (fok fr7) (T.obj _ _ st7)
   have back:∀ {σ8:St} {H8:Hp} {s8:Shared},Inv (blk X N' sc (zdK X.env.cells sc.names []) h3.objs.size { s2 with heap:=h3 } (upd H2 s2.heap.objs.size (.lst [])) fp (X.pn ++ pins)) ([] ++ zgf fp s7.heap) σ8 H8 s8->tn (i+1) s8.heap/\∀ b ∈ fp,H8 b=none:=fun {σ8 H8 s8} I8=>by
    have pn8:∀ b ∈ fp,∀ o,s7.heap.get? b=some o->s8.heap.get? b=some o/\H8 b=none:=fun b hb o e=>by
     have q:=I8.pin (b,o) (yf _ (yf _ (zdB hb e))); exact ⟨q.1,q.2.1⟩
    refine ⟨T.keep _ _ _ st7 fun b hb o e=>(pn8 b hb o e).1,fun b hb=>?_⟩
    obtain ⟨o,e,_⟩:=T.obj _ _ st7 b hb; exact (pn8 b hb o e).2
   have xf:∀ {α:Type} {t:Sem α} {Q1 Q2:α->Shared->Prop} {z:Shared},wpAny (model X.prog X.w) X.A t Q1 X.xe z->(∀ a z',Q1 a z'->Q2 a z')->wpAny (model X.prog X.w) X.A t Q2 (fun _ _=>False) z:=fun g1 g2=>by
    rw [hx] at g1; exact thn g1 g2
   refine xf (hg _ _ _ _ _ _ _ s7 σ5 H7 x u _ I7' r7 (step x H7 y7)) fun _ s8 ⟨σ8,H8,I8,q8⟩=>?_
   refine xf (ht _ _ _ _ _ _ _ s8 σ8 H8 _ I8 q8) fun b s9 ⟨H9,I9,q9⟩=>?_
   cases b with
   | false =>
    obtain ⟨m',hm,w'⟩:=hM σ8 H9 (by simpa using q9)
    obtain ⟨g1,g2⟩:=back I9; exact ⟨m',hm,i+1,σ8,H9,I9.unpinned,g1,g2,w'⟩
   | true =>
    rw [yS rfl] at q9 ⊢
    refine xf (he _ _ _ _ _ _ _ s9 σ8 H9 _ I9 q9) fun y s10 ⟨yv,H10,I10,r10,ys,hy,hz,w⟩=>?_
    obtain ⟨m',hm,w'⟩:=hM _ _ w
    refine xf (zel (X:=(blk X N' sc (zdK X.env.cells sc.names []) h3.objs.size { s2 with heap:=h3 } (upd H2 s2.heap.objs.size (.lst [])) fp (X.pn ++ pins))) _ s10 σ8 H10 (.ref s2.heap.objs.size) [yv] _ [y] (fun _ H11=>H11=upd H10 s2.heap.objs.size (.lst (ys ++ [yv]))) I10 rfl (.cons r10 .nil) ⟨_,ys,yv,rfl,rfl,hy,hz,rfl⟩) fun _ s11 ⟨_,H11,I11,_,e11⟩=>?_
    subst e11; obtain ⟨g1,g2⟩:=back I11; exact ⟨m',hm,i+1,σ8,_,I11.unpinned,g1,g2,w'⟩
 exact codeAny_compStart_list (loop _ rfl) (T.self _ 0 _ _ _ st4 (loop _ rfl))
end L2
namespace PL
open PySem L2
structure PU' (X:Cx) (e:Expr) (t:TO'):Prop where
 h:PU X e (oOf X.K X.N.length t)
section
variable {X:Cx} {pos:Pos}
theorem zjy {elt tg iter:Expr} {ifs:List Expr} {sc fsc:Scope} {ti:TI'} {g:TG'} {tc:TT'} {te:TE'} {N N':List Str} {src:List (Option Nat)} (B:Blk N N' src fsc sc) (hi:PI' X tg iter ti)
  (hg:∀ cl C s H fp pn,PG' (blk X N' sc cl C s H fp pn) tg g) (ht:∀ cl C s H fp pn,PTs' (blk X N' sc cl C s H fp pn) ifs tc) (he:∀ cl C s H fp pn,PE' (blk X N' sc cl C s H fp pn) elt te)
  (hx:X.xe=(fun _ _=>False):=by rfl) (hc:X.calm=true:=by rfl) (hN:X.N=N:=by rfl) (hs:X.env.scope=fsc:=by rfl)
  (hf:∀ x,foldedSetIterable iter X.env x=pure x:=by intro _; rfl):PU' X (.ListComp elt [⟨tg,iter,ifs,0⟩] sc pos) (zF ti src g tc te):=by
 refine ⟨PU.weak (zqh (g:=gOf X.K N'.length g) (tc:=zrK X.K N'.length tc) (te:=tOf X.K N'.length te) B hi.h (fun a b c d e f=>(hg a b c d e f).h) (fun a b c d e f=>(ht a b c d e f).h) (fun a b c d e f=>(he a b c d e f).h) hx hc hN hs hf) ?_⟩
 rintro σ H Q2 ⟨W,Hi,Γ,Q,gd,h,fin⟩
 refine ⟨W,Hi,Γ,_,gd,h,?_⟩
 rintro J H1 Hi1 Γ1 ds s1 g1 itd ⟨hlen,q⟩
 intro A hA
 -- the state between two turns
 have hn':src.length=N'.length:=B.len
 refine zh8 (n:=ds.length) (fun i σ' H'=>∃ Hi' acc vs Γ',zaS Hi1 Hi'/\Fz Hi' H'/\(∀ b o,H1 b=some o->H' b=some o)/\(∀ b o,H1 b=some o->Hi' b=Hi1 b)/\Hi' A=none/\H' A=some (.lst vs)/\zbC X.K Hi' vs acc/\vs.length<=i/\σ'.length=N'.length /\
   (∀ (j:Nat) s,Γ'[j]?=some s->s=.emp\/∃ d,s=.val d/\∃ v,σ'[j]?=some (some v)/\Den X.K Hi' v d)/\zeY g tc te (fun acc=>Q (.lst acc) Γ1) (ds.drop i) acc Γ') ?_ ?_ ?_
 ·refine ⟨Hi1,[],[],zm3 src Γ1,zaS.refl _,(Ext.newO g1.fz hA _ (fun _ z=>by cases z)).fz,fun b o e=>zaO hA _ b o e,fun b o e=>rfl,g1.sub.free hA,zv,.nil,yo _,?_,fun j s e=>?_,by simpa using q⟩
  ·unfold zns; rw [yD,hn']
  ·unfold zm3 at e
   rw [yL] at e
   cases hj:src[j]? with
   | none=>rw [hj] at e; cases e
   | some o =>
    rw [hj] at e
    cases o with
    | none=>cases e; exact .inl rfl
    | some i =>
     have e':(match Γ1[i]? with | some (.val d)=>Slot.val d | _=>.emp)=s:=Option.some.inj e
     cases hΓ:Γ1[i]? with
     | none=>rw [hΓ] at e'; exact .inl e'.symm
     | some sl =>
      rw [hΓ] at e'
      cases sl with
      | val d =>
       refine .inr ⟨d,e'.symm,?_⟩; obtain ⟨v,h1,h2⟩:=g1.val i d hΓ; refine ⟨v,?_,h2⟩; unfold zns; rw [yL,hj]
       show some ((some i).bind fun i=>(σ[i]?).join)=some (some v)
       show some ((σ[i]?).join)=some (some v)
       rw [h1]; rfl
      | emp=>exact .inl e'.symm
      | own o=>exact .inl e'.symm
      | bk _ _ _=>exact .inl e'.symm
 ·rintro i σ' H' hlt ⟨Hi',acc,vs,Γ',s2,s3,k1,k2,hA1,hA2,dl,hv,hl,hsl,q⟩
  have hd:ds.drop i=ds[i] :: ds.drop (i+1):=Yd hlt
  rw [hd] at q; obtain ⟨go,yl⟩:=(itd Hi' H' s2 s3).1 i ds[i] (yC hlt)
  refine ⟨go,fun x H'' y=>?_⟩
  obtain ⟨Hi'',ex,den⟩:=yl x H'' y
  have gb:Good X.K N'.length ⟨H'',Hi'',[]⟩ Hi'' Γ' σ' H'':=by
   refine ⟨hl,ex.fz,fun b o e _=>e,fun b o e=>⟨o,e⟩,fun b o e=>rfl,fun j d e=>?_,fun j o e=>?_,fun j k o o' b e=>?_,fun j d b xs e=>?_⟩
   ·rcases hsl j _ e with z | ⟨d',z,v,h1,h2⟩
    ·cases z
    ·cases z; exact ⟨v,h1,h2.mono ex.hi⟩
   ·rcases hsl j _ e with z | ⟨d',z,_⟩ <;> cases z
   ·rcases hsl j _ e with z | ⟨d',z,_⟩ <;> cases z
   ·rcases hsl j _ e with z | ⟨d',z,_⟩ <;> cases z
  refine ⟨⟨H'',Hi'',[]⟩,Hi'',Γ',ds[i],_,gb,den,q,?_⟩; intro σ3 H3 Hi3 Γ3 s4 g3 q3; refine ⟨⟨H'',Hi'',[]⟩,Hi3,Γ3,_,g3,q3,?_⟩; intro b H4 Hi4 Γ4 s5 g4 q4
  -- what the state is behind a turn
  have back:∀ {Γ5:Sts} {Hi5 H5:Hp},zaS Hi4 Hi5->Good X.K N'.length ⟨H'',Hi'',[]⟩ Hi5 Γ5 σ3 H5 ->
    zaS Hi1 Hi5/\Fz Hi5 H5/\(∀ b o,H1 b=some o->H5 b=some o)/\(∀ b o,H1 b=some o->Hi5 b=Hi1 b)/\Hi5 A=none/\H5 A=some (.lst vs)/\zaS Hi' Hi5:=fun {Γ5 Hi5 H5} s6 g5=>by
   have sx:zaS Hi' Hi5:=ex.hi.trans (s4.trans (s5.trans s6))
   have hA3:H'' A=some (.lst vs):=ex.h _ _ hA2
   refine ⟨s2.trans sx,g5.fz,fun b o e=>g5.keep b o (ex.h _ _ (k1 b o e)) (by simp),fun b o e=>?_,?_,g5.keep A _ hA3 (by simp),sx⟩
   ·rw [g5.fro b o (ex.h _ _ (k1 b o e))]
    show Hi'' b=Hi1 b
    rw [ex.fro b o (k1 b o e),k2 b o e]
   ·rw [g5.fro A _ hA3]
    show Hi'' A=none
    rw [ex.fro A _ hA2,hA1]
  have sl:∀ {Γ5:Sts} {Hi5 H5:Hp},Good X.K N'.length ⟨H'',Hi'',[]⟩ Hi5 Γ5 σ3 H5->∀ (j:Nat) s,(vo Γ5)[j]?=some s->s=.emp\/∃ d,s=.val d/\∃ v,σ3[j]?=some (some v)/\Den X.K Hi5 v d:=fun {Γ5 Hi5 H5} g5 j s e=>by
   unfold vo at e; rw [yL] at e
   cases hj:Γ5[j]? with
   | none=>rw [hj] at e; cases e
   | some sl =>
    rw [hj] at e
    cases sl with
    | val d =>
     cases e; exact .inr ⟨d,rfl,g5.val j d hj⟩
    | emp=>cases e; exact .inl rfl
    | own o=>cases e; exact .inl rfl
    | bk _ _ _=>cases e; exact .inl rfl
  cases b with
  | false =>
   simp only [YU,if_false] at q4 ⊢; obtain ⟨b1,b2,b3,b4,b5,b6,b7⟩:=back (zaS.refl _) g4
   exact ⟨Hi4,acc,vs,vo Γ4,b1,b2,b3,b4,b5,b6,dl.mono b7,by omega,g4.len,sl g4,q4⟩
  | true =>
   simp only [if_true] at q4 ⊢; refine ⟨⟨H'',Hi'',[]⟩,Hi4,Γ4,_,g4,q4,?_⟩
   rintro y' H5 ⟨Hi5,dy,Γ5,s6,g5,den5,q5⟩
   obtain ⟨b1,b2,b3,b4,b5,b6,b7⟩:=back s6 g5
   refine ⟨vs,b6,by omega,Hi5,acc ++ [dy],vs ++ [y'],vo Γ5,b1,?_,?_,b4,b5,zv,paired_app (dl.mono b7) (.cons den5 .nil),by rw [yH]; simp; omega,g5.len,sl g5,q5⟩
   ·refine ⟨fun b o e=>?_,fun b xs e=>?_⟩
    ·rw [zI (fun z=>by rw [z,b5] at e; cases e)]
     exact b2.sub b o e
    ·by_cases hb:b=A
     ·subst hb; rw [zv] at e; cases e
     ·rw [zI hb] at e; exact b2.tups b xs e
   ·intro b o e
    rw [zI (za3 e hA)]; exact b3 b o e
 ·rintro σ' H' ⟨Hi',acc,vs,Γ',s2,s3,k1,k2,hA1,hA2,dl,hv,hl,hsl,q⟩
  refine ⟨(itd Hi' H' s2 s3).2,?_⟩; rw [Yp (yG _)] at q
  have ex:Ext Hi1 H1 Hi' H':=⟨s2,k1,s3,k2⟩
  refine fin A H' Hi' Γ1 (.lst acc) (s1.trans s2) (g1.ext ex) ⟨hA1,?_,⟨fun j o' e z=>?_,fun j d xs e=>?_⟩,vs,hA2,dl⟩ q
  ·cases hq:W.H₀ A with
   | none=>rfl
   | some w =>
    obtain ⟨w',hw⟩:=g1.there A w hq
    rw [hA] at hw; cases hw
  ·obtain ⟨a,h1,_,_,h4⟩:=g1.own j o' e
   rw [z] at h1; cases h1; obtain ⟨w,hw⟩:=h4.there
   rw [hA] at hw; cases hw
  ·obtain ⟨w,hw⟩:=(g1.bk j d A xs e).at_.there
   rw [hA] at hw; cases hw
theorem zjz (i:Nat) {x:Str} {e:Expr} {te:TO'} {pos':Pos} (hN:X.N.Nodup) (he:PU' X e te) (hi:X.N[i]?=some x:=by rfl) (hx:X.env.scope.names.lookup x=some .local:=by rfl) (hs:swapsWith e (some (.Name x pos')) pos.line X.env=pure true:=by rfl):PS' X (.Assign [.Name x pos'] e pos) (zah (zaE te) (zw i)):=by
 refine ⟨fun pins s σ H N2 I q=>?_⟩
 obtain ⟨W,Hi,Γ,N,g,h,l⟩:=q
 refine he.h pins s σ H (fun v H'=>N2.nx (σ.set i (some v)) H') i x pos pos' N2 I ⟨W,Hi,Γ,_,g,h,?_⟩ hN hi hx hs fun _ _ z=>z
 intro a H1 Hi1 Γ1 o s1 g1 nw q; obtain ⟨u,hu⟩:=nw.own.there; exact l.nx _ H1 (upd Hi1 a u) _ (s1.trans (zaO nw.hi u)) ((g1.freezeA nw.hi nw.h0 nw.ne hu).set (yF.mp hi).1 (nw.own.den nw.hi hu)) q
end
def zwM:OD->Prop
 | .lst ds=>∀ d,d ∈ ds->Imm d
 | _=>False
def zV (n:Nat) (t:TO'):TO':=fun Γ Q=>t (zae n Γ) fun o _=>zwM o/\Q o Γ
section
variable {X:Cx}
end
abbrev SpB:=(D->D)->List D->List D->(D->List D->Prop)->Prop
section
variable {X:Cx} {k:Nat} {C:Addr} {m x y:Str} {ps:List Str} {sp:SpB} {apos pos p q:Pos} {e:Expr} {es:List Expr} {t:TA'}
def zX (i:Nat) (sp:SpB) (t:TA'):TE':=fun Γ Q=>(∃ d b xs,Γ[i]?=some (.bk d b (.lst xs)))/\t Γ fun ds Γ1=>∃ d b xs,Γ1[i]?=some (.bk d b (.lst xs))/\sp d xs ds fun r ys=>Q r (Γ1.set i (.bk d b (.lst ys)))
end
section
variable {P:Program} {w:World} {K:W.Frag} {mg:Str->Option Value} {base:Heap}
end
end PL
namespace L2
open PySem PySem.Spec PyProof.Rows
def Itw (K:W.Frag) (a:Addr) (vs:List V):It :=
 ⟨fun i H=>SqL K H a vs/\i<vs.length,fun i H x H'=>H'=H/\vs[vs.length-1-i]?=some x,fun i H=>SqL K H a vs/\vs.length<=i⟩
theorem zb8 {h:Heap} {a:Addr} {its:Array Value} (p:PlainL h a its):h.IsList a its:=by
 obtain ⟨o,n,e,c,d,e2⟩:=p
 first | exact ⟨o,e,c,n,e2⟩ | exact ⟨o,e,c,n,d⟩
theorem zng {P:Program} {w:World} {K:W.Frag} {tg:Expr} (a it:Addr) (vs:List V):Turn P w K tg (Itw K a vs) [it] it (fun i h=>i<=vs.length/\h.IsRevIter it a ((vs.length:Int)-1-(i:Int))) where
 mem:=by simp
 obj:=fun i h st b hb=>by
  have e:b=it:=by simpa using hb
  subst e; obtain ⟨o,ho,hc,hd⟩:=st.2
  exact ⟨o,ho,fun v z=>by rw [hd] at z; cases z⟩
 keep:=fun i h h' st k=>⟨st.1,st.2.at fun o e=>k it (by simp) o e⟩
 item:=by
  intro X hP hw hK hc i pins s σ H E I hf st hg
  subst hP hw hK
  obtain ⟨hq,hi⟩:=hg; obtain ⟨its,rv,p,hz⟩:=I.list hq
  obtain ⟨f0,f1,f2,f3,f4,f5⟩:=hf it (by simp)
  have hl:=rv.length
  have hx:vs[vs.length-1-i]?=some (vs[vs.length-1-i]'(by omega)):=yC (by omega)
  obtain ⟨u,hu,ru⟩:=rv.get hx; have st2:=st.2
  rw [show (vs.length:Int)-1-(i:Int)=((vs.length-1-i:Nat):Int) by omega] at st2
  refine wpAny_pyNext_rev_item st2 (zb8 p) (x:=u) (by simpa using hu) fun h' st' sb=>?_
  have I1:Inv X pins σ H { s with heap:=h',toks:=s.toks }:=I.turned (t':=s.toks) (fun b o hb e=>(sb.2 b hb).trans e) f0 f1 f3 f4 f5
  have st3:h'.IsRevIter it a ((vs.length:Int)-1-((i+1:Nat):Int)):=by
   rw [show (vs.length:Int)-1-((i+1:Nat):Int)=((vs.length-1-i:Nat):Int)-1 by omega]
   exact st'
  obtain ⟨o,ho,hc',hd⟩:=id st3
  exact ⟨u,rfl,zhW (s:={ s with heap:=h',toks:=s.toks }) (n:="list_reverseiterator") ho hc' hd (by decide) ⟨_,H,I1,ru,⟨rfl,hx⟩,⟨by omega,st3⟩,fun b hb=>(hf b hb).1⟩⟩
 done:=by
  intro X hP hw hK hc i pins s σ H E I hf st hg
  subst hP hw hK
  obtain ⟨hq,hi⟩:=hg
  obtain ⟨f0,f1,f2,f3,f4,f5⟩:=hf it (by simp)
  have st2:=st.2
  rw [show (vs.length:Int)-1-(i:Int)=-1 by have:=st.1; omega] at st2
  exact wpAny_pyNext_rev_end (I.ok.hd hc) st2 fun h' eb=>⟨rfl,I.turned (t':=s.toks) (fun b o hb e=>eb b o hb e) f0 f1 f3 f4 f5⟩
 self:=fun _ _ _ _ _ st h=>wpAny_pyIter_revIter st.2 h
section
variable {X:Cx} {tg:Expr}
def zwC (K:W.Frag) (ta:TA):TI:=fun σ H R=>ta σ H fun xs H1=>∃ a vs,xs=[.ref a]/\SqL K H1 a vs/\R (Itw K a vs) H1
theorem zsD {a:Expr} {ta:TA} {p pos:Pos} (hg:Gl X "reversed") (hm:X.mg "reversed"=none) (ha:PA X [a] ta) (hs:starEach [a] X.env=[(false,eval a X.env)]:=by rfl):PI X tg (.Call (.Name "reversed" p) [a] [] pos) (zwC X.K ta):=by
 intro pins s σ H R I h
 refine Call_ (zcA I hg hm boot_reversed (yq (thn (ha pos pins s σ H _ I h) fun us s1 ⟨vs,H1,I1,r1,q1⟩=>?_) hs rfl))
 obtain ⟨b,xs,e,hq,q⟩:=q1; subst e; obtain ⟨u,rfl,rx⟩:=zcX r1; cases rx; obtain ⟨its,rv,p,hz⟩:=I1.list hq; have hl:=rv.length; refine call_reversed_list (zb8 p) ?_
 have st:(s1.heap.push (revObj b ((its.toArray.size:Int)-1))).IsRevIter s1.heap.objs.size b ((xs.length:Int)-1-((0:Nat):Int)):=by
  have e:(xs.length:Int)-1-((0:Nat):Int)=(its.toArray.size:Int)-1:=by rw [yO,<- hl]; omega
  rw [e]; exact ⟨_,yK _ rfl,rfl,rfl⟩
 refine wpAny_pyIter_revIter (s:={ s1 with heap:=s1.heap.push (revObj b ((its.toArray.size:Int)-1)) }) st ?_
 refine ⟨s1.heap.objs.size,[s1.heap.objs.size],_,_,H1,rfl,I1.kept (t':=s1.toks) fun b o e=>yB _ e,zng b _ xs,⟨yo _,st⟩,fun c hc=>?_,q⟩
 have e:c=s1.heap.objs.size:=by simpa using hc
 subst e; exact I1.fpOk (yG _) (I1.hok.fresh (yG _))
end
end L2
namespace PL
open PySem L2
theorem zro {K:W.Frag} {Hi:Hp} {a:Addr} {vs:List V} {ds:List D} (h:SqL K Hi a vs) (r:zbC K Hi vs ds):ItD K Hi (Itw K a vs) ds.reverse:=by
 intro Hi' H' s1 s2
 have hq:SqL K H' a vs:=zak (s1.trans s2.sub) h
 have hl:=zk r
 refine ⟨fun i d e=>?_,hq,by rw [ym,hl]; exact yG _⟩
 have hi:i<ds.length:=by
  have:=(yF.mp e).1
  rwa [ym] at this
 refine ⟨⟨hq,by omega⟩,?_⟩
 rintro x H'' ⟨rfl,hx⟩
 rw [Yw hi] at e; refine ⟨Hi',Ext.refl s2,(paired_get _ r hx ?_).mono s1⟩; rw [hl]; exact e
def zam (t:TA'):TI':=fun Γ Q=>t Γ fun ds Γ1=>∃ es,ds=[.lst es]/\Q es.reverse Γ1
theorem zqy {X:Cx} {tg a:Expr} {t:TA'} {p pos:Pos} (hg:Gl X "reversed") (hm:X.mg "reversed"=none) (ha:PA' X [a] t) (hs:starEach [a] X.env=[(false,eval a X.env)]:=by rfl):PI' X tg (.Call (.Name "reversed" p) [a] [] pos) (zam t):=by
 refine ⟨PI.weak (zsD hg hm ha.pa hs) ?_⟩
 rintro σ H R ⟨W,Hi,Γ,Q',g,h,fin⟩
 refine ⟨W,Hi,Γ,_,g,h,?_⟩
 rintro vs H1 Hi1 Γ1 ds s1 g1 dl ⟨es,rfl,q⟩
 obtain ⟨v,rfl,den⟩:=zdi dl; obtain ⟨a,us,rfl,h1,h2⟩:=den.lstI; exact ⟨a,us,rfl,zak g1.sub h1,fin _ H1 Hi1 Γ1 _ s1 g1 (zro h1 h2) q⟩
section
variable {X:Cx}
theorem zu8:Op2 X (binaryOp .Pow) (rI' zvK fun i j=>.int (i ^ j.toNat)):=⟨_,zsP,zjJ _ fun i j _=>.int _⟩
def zaK (t:TE'):TE':=fun Γ Q=>t Γ fun d Γ1=>∃ i:Int,d=.int i/\Q (.int (-i)) Γ1
theorem zkr {α β:Type} {R:α->β->Prop} {l:List α} {m:List β} (h:Paired R l m):Paired R l.reverse m.reverse:=by
 have hl:=zk h
 refine zb0 (by simp [hl]) fun i a b h1 h2=>?_
 have i1:i<l.length:=by have:=(yF.mp h1).1; simpa using this
 rw [Yw i1] at h1
 rw [Yw (by omega)] at h2
 rw [<- hl] at h2; exact paired_get _ h h1 h2
end
end PL
namespace L2
open PySem PySem.Spec PyProof.Rows
section
variable {X:Cx}
end
end L2
namespace PL
open PySem L2
section
variable {X:Cx}
end
class MGs (t:zmO):Prop where
 mono:∀ ds Γ (Q Q':Sts->Prop),(∀ Γ,Q Γ->Q' Γ)->t ds Γ Q->t ds Γ Q'
instance:MGs zao:=⟨fun _ _ _ _ h ⟨a,q⟩=>⟨a,h _ q⟩⟩
instance {t:TG'} {u:zmO} [MG t] [MGs u]:MGs (zA t u):=⟨fun _ _ _ _ h ⟨d,r,e,q⟩=>⟨d,r,e,MG.mono (g:=t) _ _ _ _ (fun _ z=>MGs.mono (t:=u) _ _ _ _ h z) q⟩⟩
instance {n:Nat} {t:zmO} [MGs t]:MG (zan n t):=⟨fun _ _ _ _ h ⟨ds,e,l,q⟩=>⟨ds,e,l,MGs.mono (t:=t) _ _ _ _ h q⟩⟩
end PL
namespace So
open PySem PySem.W PyProof.Rows
def run (lt:Nat->Nat->Bool) {α:Type}:KasT α->α
 | .ret a=>a
 | .ask i j k=>run lt (k (lt i j))
theorem zdx (lt:Nat->Nat->Bool) {α β:Type} (f:α->KasT β):∀ t:KasT α,run lt (t.bind f)=run lt (f (run lt t))
 | .ret _=>rfl
 | .ask i j k=>zdx lt f (k (lt i j))
def g (p:Array Nat) (i:Nat):Nat:=p.getD i 0
theorem g_eq (p:Array Nat) (i:Nat):g p i=(p[i]?).getD 0:=by
 unfold g; simp [Array.getD_eq_getD_getElem?]
theorem za2 {p:Array Nat} {i j:Nat} (hj:j<=p.size) (k:Nat):g (kas_rev p i j) k=if i<=k/\k<j then g p (i+j-1-k) else g p k:=by
 unfold kas_rev; rw [g_eq,getElem?_mirror_all hj]
 split <;> rw [g_eq]
theorem zoJ {p:Array Nat} {src d:Nat} (hs:src<p.size) (hd:d<=src) (k:Nat):g (bubble p src d) k=if k=src-d then g p src else if src-d<k/\k<=src then g p (k-1) else g p k:=by
 rw [g_eq,getElem?_bubble hs d hd]; split
 ·rw [g_eq]
 ·split <;> rw [g_eq]
structure Ord (lt:Nat->Nat->Bool):Prop where
 asym:∀ a b,lt a b=true->lt b a=false
 tr:∀ a b c,lt b a=false->lt c b=false->lt c a=false
def L (lt:Nat->Nat->Bool) (a b:Nat):Prop:=lt a b=true\/(lt b a=false/\a<b)
section
variable {lt:Nat->Nat->Bool}
theorem L.le (o:Ord lt) {a b:Nat} (h:L lt a b):lt b a=false:=by
 rcases h with h | h
 ·exact o.asym _ _ h
 ·exact h.1
theorem zl5 (o:Ord lt) {a b c:Nat} (h:lt a b=true) (k:lt c b=false):lt a c=true:=by
 cases e:lt a c with
 | true=>rfl
 | false=>exact yM (o.tr b c a k e) (by rw [h]; exact fun z=>nomatch z)
theorem zq5 (o:Ord lt) {a b c:Nat} (h:lt b a=false) (k:lt b c=true):lt a c=true:=by
 cases e:lt a c with
 | true=>rfl
 | false=>exact yM (o.tr c a b e h) (by rw [k]; exact fun z=>nomatch z)
theorem L.trans (o:Ord lt) {a b c:Nat} (h:L lt a b) (k:L lt b c):L lt a c:=by
 rcases h with h | ⟨h,h'⟩
 ·exact .inl (zl5 o h (L.le o k))
 ·rcases k with k | ⟨k,k'⟩
  ·exact .inl (zq5 o h k)
  ·exact .inr ⟨o.tr _ _ _ h k,Nat.lt_trans h' k'⟩
end
def Srt (lt:Nat->Nat->Bool) (p:Array Nat) (n:Nat):Prop:=∀ i j,i<j->j<n->L lt (g p i) (g p j)
structure B (p:Array Nat) (N n:Nat):Prop where
 size:p.size=N
 low:∀ k,k<n->g p k<n
 high:∀ k,n<=k->k<N->g p k=k
theorem B.succ {p:Array Nat} {N n:Nat} (b:B p N n) (h:n<N):B p N (n+1) where
 size:=b.size
 low:=fun k hk=>by
  by_cases e:k=n
  ·subst e; rw [b.high k (yG _) h]; omega
  ·have:=b.low k (by omega); omega
 high:=fun k h1 h2=>b.high k (by omega) h2
theorem B.mirror {p:Array Nat} {N n i j:Nat} (b:B p N n) (hj:j<=n) (hn:n<=N):B (kas_rev p i j) N n where
 size:=by rw [kas_rev_size,b.size]
 low:=fun k hk=>by
  rw [za2 (by rw [b.size]; omega)]
  split
  ·exact b.low _ (by omega)
  ·exact b.low _ hk
 high:=fun k h1 h2=>by
  rw [za2 (by rw [b.size]; omega),yQ (by omega)]
  exact b.high k h1 h2
section
variable {lt:Nat->Nat->Bool} (o:Ord lt)
include o
theorem Srt.succ {p:Array Nat} {N n:Nat} (b:B p N n) (h1:1<=n) (hn:n<N) (s:Srt lt p n) (q:lt (g p n) (g p (n-1))=false):Srt lt p (n+1):=fun i j hij hj=>by
 by_cases e:j=n
 ·subst e
  have l1:L lt (g p (j-1)) (g p j):=.inr ⟨q,by
   rw [b.high j (yG _) hn]
   exact b.low _ (by omega)⟩
  by_cases e2:i=j-1
  ·subst e2; exact l1
  ·exact (s i (j-1) (by omega) (by omega)).trans o l1
 ·exact s i j hij (by omega)
theorem asc {p:Array Nat} {N:Nat}:∀ (f n:Nat),n+f=N->1<=n->B p N n->Srt lt p n->n<=run lt (kas_asc p f n)/\run lt (kas_asc p f n)<=N/\B p N (run lt (kas_asc p f n))/\Srt lt p (run lt (kas_asc p f n)) /\
  (run lt (kas_asc p f n)<N->lt (g p (run lt (kas_asc p f n))) (g p (run lt (kas_asc p f n)-1))=true)
 | 0,n,h,h1,b,s=>⟨yG _,by show n<=N; omega,b,s,fun z=>yM (show n<N from z) (by omega)⟩
 | f+1,n,h,h1,b,s=>by
  have e:run lt (kas_asc p (f+1) n)=run lt (if lt (g p n) (g p (n-1))=true then KasT.ret n else kas_asc p f (n+1)):=rfl
  rw [e]
  cases q:lt (g p n) (g p (n-1)) with
  | true =>
   rw [yS rfl]
   exact ⟨yG _,by show n<=N; omega,b,s,fun _=>q⟩
  | false =>
   rw [yQ (by decide)]
   obtain ⟨a1,a2,a3,a4,a5⟩:=asc (N:=N) f (n+1) (by omega) (by omega) (b.succ (by omega)) (Srt.succ o b h1 (by omega) s q)
   exact ⟨by omega,a2,a3,a4,a5⟩
structure De (lt:Nat->Nat->Bool) (p:Array Nat) (N n q:Nat):Prop where
 b:B p N n
 le:n<=N
 q1:q+1<=n
 blk:∀ i j,n-(q+1)<=i->i<j->j<n->L lt (g p i) (g p j)/\lt (g p i) (g p j)=false
 str:∀ i j,i<n-(q+1)->n-(q+1)<=j->j<n->lt (g p j) (g p i)=true
 old:∀ i j,i<j->j<n-(q+1)->L lt (g p j) (g p i)
def Fal (lt:Nat->Nat->Bool) (p:Array Nat) (n:Nat):Prop:=∀ i j,i<j->j<n->L lt (g p j) (g p i)
theorem De.turned {p:Array Nat} {N n q:Nat} (d:De lt p N n q):Fal lt (kas_rev p (n-(q+1)) n) n:=fun i j hij hj=>by
 have hs:n<=p.size:=by rw [d.b.size]; exact d.le
 have hq:=d.q1; rw [za2 hs,za2 hs]
 by_cases hi:n-(q+1)<=i
 ·rw [yS ⟨by omega,hj⟩,yS ⟨hi,by omega⟩]
  exact (d.blk _ _ (by omega) (by omega) (by omega)).1
 ·rw [yQ (show ¬ (n-(q+1)<=i/\i<n) by omega)]
  by_cases hj2:n-(q+1)<=j
  ·rw [yS ⟨hj2,hj⟩]
   exact .inl (d.str _ _ (by omega) (by omega) (by omega))
  ·rw [yQ (show ¬ (n-(q+1)<=j/\j<n) by omega)]
   exact d.old i j hij (by omega)
theorem De.fal0 {p:Array Nat} {N n:Nat} (d:De lt p N n 0):Fal lt p n:=fun i j hij hj=>by
 by_cases e:n-1<=j
 ·exact .inl (d.str i j (by omega) (by omega) hj)
 ·exact d.old i j hij (by omega)
theorem De.next {p:Array Nat} {N n:Nat} (b:B p N n) (hn:n<N) (h1:1<=n) (fa:Fal lt p n) (st:∀ i,i<n->lt (g p n) (g p i)=true):De lt p N (n+1) 0 where
 b:=b.succ hn
 le:=hn
 q1:=by omega
 blk:=fun i j h1 h2 h3=>by omega
 str:=fun i j h1 h2 h3=>by
  have e:j=n:=by omega
  subst e
  exact st i (by omega)
 old:=fun i j h1 h2=>fa i j h1 (by omega)
theorem De.st {p:Array Nat} {N n q:Nat} (d:De lt p N n q) (h:lt (g p n) (g p (n-1))=true):∀ i,i<n->lt (g p n) (g p i)=true:=fun i hi=>by
 have hq:=d.q1
 by_cases e:i=n-1
 ·subst e; exact h
 ·refine zl5 o h ?_
  by_cases hb:n-(q+1)<=i
  ·exact (d.blk i (n-1) hb (by omega) (by omega)).2
  ·exact o.asym _ _ (d.str i (n-1) (by omega) (by omega) (by omega))
theorem ztu {N:Nat}:∀ (f:Nat) (p:Array Nat) (n q:Nat),n+f=N->De lt p N n q->∃ p' n' q',run lt (kas_desc f p n q)=(p',n',q')/\De lt p' N n' q'
 | 0,p,n,q,_,d=>⟨p,n,q,rfl,d⟩
 | f+1,p,n,q,h,d=>by
  have hn:n<N:=by omega
  have hq:=d.q1
  have e:run lt (kas_desc (f+1) p n q)=run lt (if lt (g p n) (g p (n-1))=true then (if q > 0 then kas_desc f (kas_rev p (n-(q+1)) n) (n+1) 0 else kas_desc f p (n+1) 0)
   else KasT.ask (p.getD (n-1) 0) (p.getD n 0) fun c=>if c=true then .ret (p,n,q) else kas_desc f p (n+1) (q+1)):=rfl
  rw [e]
  cases c:lt (g p n) (g p (n-1)) with
  | true =>
   rw [yS rfl]
   by_cases hq0:q > 0
   ·rw [yS hq0]
    refine ztu f _ (n+1) 0 (by omega) (De.next o (d.b.mirror (yG _) d.le) hn (by omega) (De.turned o d) fun i hi=>?_)
    have hs:n<=p.size:=by rw [d.b.size]; exact d.le
    rw [za2 hs,za2 hs,yQ (show ¬ (n-(q+1)<=n/\n<n) by omega)]
    split
    ·exact De.st o d c _ (by omega)
    ·exact De.st o d c _ hi
   ·rw [yQ hq0]
    have e0:q=0:=by omega
    subst e0
    exact ztu f _ (n+1) 0 (by omega) (De.next o d.b hn (by omega) (De.fal0 o d) (De.st o d c))
  | false =>
   rw [yQ (by decide)]
   have e2:run lt (KasT.ask (p.getD (n-1) 0) (p.getD n 0) fun c=>if c=true then KasT.ret (p,n,q) else kas_desc f p (n+1) (q+1))=run lt (if lt (g p (n-1)) (g p n)=true then KasT.ret (p,n,q) else kas_desc f p (n+1) (q+1)):=rfl
   rw [e2]
   cases c2:lt (g p (n-1)) (g p n) with
   | true=>rw [yS rfl]; exact ⟨p,n,q,rfl,d⟩
   | false =>
    rw [yQ (by decide)]
    have hb:n+1-(q+1+1)=n-(q+1):=by omega
    have gn:g p n=n:=d.b.high n (yG _) hn
    refine ztu f _ (n+1) (q+1) (by omega) ⟨d.b.succ hn,hn,by omega,fun i j h1 h2 h3=>?_,fun i j h1 h2 h3=>?_,fun i j h1 h2=>?_⟩
    ·rw [hb] at h1
     by_cases ej:j=n
     ·subst ej
      have lo:g p i<g p j:=by rw [gn]; exact d.b.low i h2
      by_cases ei:i=j-1
      ·subst ei; exact ⟨.inr ⟨c,lo⟩,c2⟩
      ·obtain ⟨u1,u2⟩:=d.blk i (j-1) h1 (by omega) (by omega)
       exact ⟨.inr ⟨o.tr _ _ _ (L.le o u1) c,lo⟩,o.tr _ _ _ c2 u2⟩
     ·exact d.blk i j h1 h2 (by omega)
    ·rw [hb] at h1 h2
     by_cases ej:j=n
     ·subst ej
      exact zq5 o c2 (d.str i (j-1) h1 (by omega) (by omega))
     ·exact d.str i j h1 h2 (by omega)
    ·rw [hb] at h2
     exact d.old i j h1 h2
theorem zr3 {p:Array Nat} {N n:Nat} (b:B p N n) (hn:n<=N) (h1:1<=n) (fa:Fal lt p n):∃ m p',run lt (kas_tail3 n N p)=(m,p')/\1<=m/\m<=N/\B p' N m/\Srt lt p' m:=by
 unfold kas_tail3; rw [zdx]
 have hs:n<=p.size:=by rw [b.size]; exact hn
 obtain ⟨a1,a2,a3,a4,_⟩:=asc o (p:=kas_rev p 0 n) (N:=N) (N-n) n (by omega) h1 (b.mirror (yG _) hn) (fun i j hij hj=>by
  rw [za2 hs,za2 hs,yS ⟨by omega,by omega⟩,yS ⟨by omega,hj⟩]
  exact fa _ _ (by omega) (by omega))
 exact ⟨_,_,rfl,by omega,a2,a3,a4⟩
theorem zjW {p:Array Nat} {N n:Nat} (hn:n<N) (d:De lt p N (n+1) 0):∃ m p',run lt (kas_descPart n N p)=(m,p')/\1<=m/\m<=N/\B p' N m/\Srt lt p' m:=by
 unfold kas_descPart; rw [zdx]
 obtain ⟨p',n',q',e,d'⟩:=ztu o (N:=N) (N-(n+1)) p (n+1) 0 (by omega) d
 rw [e]; have hq:=d'.q1
 by_cases h:q' > 0
 ·show ∃ m p'',run lt (if q' > 0 then kas_tail3 n' N (kas_rev p' (n'-(q'+1)) n') else kas_tail3 n' N p')=(m,p'')/\_
  rw [yS h]
  exact zr3 o (d'.b.mirror (yG _) d'.le) d'.le (by omega) (De.turned o d')
 ·show ∃ m p'',run lt (if q' > 0 then kas_tail3 n' N (kas_rev p' (n'-(q'+1)) n') else kas_tail3 n' N p')=(m,p'')/\_
  rw [yQ h]
  have e0:q'=0:=by omega
  subst e0
  exact zr3 o d'.b d'.le (by omega) (De.fal0 o d')
theorem count {p:Array Nat} {N:Nat} (hN:1<=N) (b:B p N 1):∃ m p',run lt (kas_count N p)=(m,p')/\1<=m/\m<=N/\B p' N m/\Srt lt p' m:=by
 unfold kas_count; rw [zdx]
 obtain ⟨a1,a2,a3,a4,a5⟩:=asc o (p:=p) (N:=N) (N-1) 1 (by omega) (yG _) b (fun i j hij hj=>by omega)
 generalize run lt (kas_asc p (N-1) 1)=n at a1 a2 a3 a4 a5 ⊢
 by_cases e:n=N
 ·rw [yS (by rw [e]; exact beq_self_eq_true _)]
  exact ⟨n,p,rfl,a1,a2,a3,a4⟩
 ·have hn:n<N:=by omega
  have hs:n<=p.size:=by rw [a3.size]; exact a2
  rw [yQ (by simpa using e)]
  by_cases h1:n > 1
  ·rw [yS h1]
   show ∃ m p',run lt (if lt (g p 0) (g p (n-1))=true then KasT.ret (n,p) else kas_descPart n N (kas_rev p 0 n))=(m,p')/\_
   cases c:lt (g p 0) (g p (n-1)) with
   | true=>rw [yS rfl]; exact ⟨n,p,rfl,a1,a2,a3,a4⟩
   | false =>
    rw [yQ (by decide)]
    refine zjW o hn (De.next o (a3.mirror (yG _) a2) hn a1 (fun i j hij hj=>?_) fun i hi=>?_)
    ·rw [za2 hs,za2 hs,yS ⟨by omega,hj⟩,yS ⟨by omega,by omega⟩]
     exact a4 _ _ (by omega) (by omega)
    ·rw [za2 hs,za2 hs,yQ (show ¬ (0<=n/\n<n) by omega),yS ⟨by omega,hi⟩]
     refine zl5 o (a5 hn) ?_; generalize hk:0+n-1-i=k
     have hkn:k<n:=by omega
     by_cases k0:k=0
     ·subst k0; exact c
     ·exact o.tr _ _ _ c (L.le o (a4 0 k (by omega) hkn))
  ·rw [yQ h1]
   have e1:n=1:=by omega
   subst e1
   exact zjW o hn (De.next o a3 hn (yG _) (fun i j h1 h2=>by omega) fun i hi=>by
    have e0:i=0:=by omega
    subst e0; exact a5 hn)
theorem znV {p:Array Nat} {k:Nat} (s:Srt lt p k):∀ (f l r:Nat),r-l<=f->l<=r->r<=k->(∀ i,i<l->lt (g p k) (g p i)=false)->(∀ i,r<=i->i<k->lt (g p k) (g p i)=true) ->
  run lt (kas_place p k f l r)<=k/\(∀ i,i<run lt (kas_place p k f l r)->lt (g p k) (g p i)=false)/\∀ i,run lt (kas_place p k f l r)<=i->i<k->lt (g p k) (g p i)=true
 | 0,l,r,h,h1,h2,a,c=>⟨show l<=k by omega,a,fun i (hi:l<=i)=>c i (by omega)⟩
 | f+1,l,r,h,h1,h2,a,c=>by
  have e:run lt (kas_place p k (f+1) l r)=run lt (if l >= r then KasT.ret l else KasT.ask (p.getD k 0) (p.getD ((l+r) / 2) 0) fun c=>if c=true then kas_place p k f l ((l+r) / 2) else kas_place p k f ((l+r) / 2+1) r):=rfl
  rw [e]
  by_cases hlr:l >= r
  ·rw [yS hlr]
   exact ⟨show l<=k by omega,a,fun i (hi:l<=i)=>c i (by omega)⟩
  ·rw [yQ hlr]
   show run lt (if lt (g p k) (g p ((l+r) / 2))=true then kas_place p k f l ((l+r) / 2) else kas_place p k f ((l+r) / 2+1) r)<=k/\(∀ i,i<run lt (if lt (g p k) (g p ((l+r) / 2))=true then kas_place p k f l ((l+r) / 2) else kas_place p k f ((l+r) / 2+1) r)->_)/\∀ i,run lt (if lt (g p k) (g p ((l+r) / 2))=true then kas_place p k f l ((l+r) / 2) else kas_place p k f ((l+r) / 2+1) r)<=i->_
   cases q:lt (g p k) (g p ((l+r) / 2)) with
   | true =>
    rw [yS rfl]
    refine znV s f l _ (by omega) (by omega) (by omega) a fun i hi hk=>?_
    by_cases ei:i=(l+r) / 2
    ·subst ei; exact q
    ·exact zl5 o q (L.le o (s _ i (by omega) hk))
   | false =>
    rw [yQ (by decide)]
    refine znV s f _ r (by omega) (by omega) h2 (fun i hi=>?_) c
    by_cases ei:i=(l+r) / 2
    ·subst ei; exact q
    ·exact o.tr _ _ _ (L.le o (s i ((l+r) / 2) (by omega) (by omega))) q
theorem ins {p:Array Nat} {N k l:Nat} (b:B p N k) (hk:k<N) (s:Srt lt p k) (hl:l<=k) (a:∀ i,i<l->lt (g p k) (g p i)=false) (c:∀ i,l<=i->i<k->lt (g p k) (g p i)=true):B (bubble p k (k-l)) N (k+1)/\Srt lt (bubble p k (k-l)) (k+1):=by
 have hs:k<p.size:=by rw [b.size]; exact hk
 have gk:g p k=k:=b.high k (yG _) hk
 have e:∀ i,g (bubble p k (k-l)) i=if i=l then g p k else if l<i/\i<=k then g p (i-1) else g p i:=fun i=>by
  rw [zoJ hs (by omega),show k-(k-l)=l by omega]
 refine ⟨⟨by rw [bubble_size,b.size],fun i hi=>?_,fun i h1 h2=>?_⟩,fun i j hij hj=>?_⟩
 ·rw [e]
  split
  ·omega
  ·split
   ·have:=b.low (i-1) (by omega); omega
   ·have:=b.low i (by omega); omega
 ·rw [e,yQ (by omega),yQ (by omega)]
  exact b.high i (by omega) h2
 ·rw [e,e]
  have lo:∀ x,x<k->g p x<g p k:=fun x hx=>by rw [gk]; exact b.low x hx
  by_cases h1:i=l
  ·subst h1
   rw [yS rfl,yQ (by omega),yS ⟨hij,by omega⟩]
   exact .inl (c _ (by omega) (by omega))
  ·rw [yQ h1]
   by_cases h2:j=l
   ·subst h2
    rw [yS rfl,yQ (by omega)]
    exact .inr ⟨a i hij,lo i (by omega)⟩
   ·rw [yQ h2]
    split <;> split <;> exact s _ _ (by omega) (by omega)
theorem bin {N:Nat}:∀ (f:Nat) (p:Array Nat) (k:Nat),k+f=N->B p N k->Srt lt p k->B (run lt (kas_bin f p k)) N N/\Srt lt (run lt (kas_bin f p k)) N
 | 0,p,k,h,b,s=>by
  have e:k=N:=by omega
  subst e; exact ⟨b,s⟩
 | f+1,p,k,h,b,s=>by
  have e:run lt (kas_bin (f+1) p k)=run lt ((kas_place p k k 0 k).bind fun l=>kas_bin f (bubble p k (k-l)) (k+1)):=rfl
  rw [e,zdx]
  obtain ⟨a1,a2,a3⟩:=znV o s k 0 k (by omega) (yo _) (yG _) (fun i hi=>yM hi (Nat.not_lt_zero _)) fun i h1 h2=>yM h1 (by omega)
  obtain ⟨b',s'⟩:=ins o b (by omega) s a1 a2 a3
  exact bin f _ (k+1) (by omega) b' s'
theorem sort {N:Nat} (hN:1<=N):B (run lt (kas_sort N)) N N/\Srt lt (run lt (kas_sort N)) N:=by
 unfold kas_sort; rw [zdx]
 have g0:∀ k,k<N->g (List.toArray (List.range N)) k=k:=fun k hk=>by
  rw [g_eq]; simp [hk]
 obtain ⟨m,p',e,h1,h2,b,s⟩:=count o hN (p:=List.toArray (List.range N)) ⟨by simp,fun k hk=>by rw [g0 k (by omega)]; exact hk,fun k h1 h2=>g0 k h2⟩
 rw [e]
 show B (run lt (if m<N then kas_bin (N-max m 1) p' (max m 1) else KasT.ret p')) N N/\Srt lt (run lt (if m<N then kas_bin (N-max m 1) p' (max m 1) else KasT.ret p')) N
 by_cases hm:m<N
 ·rw [yS hm,Nat.max_eq_left h1]
  exact bin o _ _ _ (by omega) b s
 ·rw [yQ hm]
  have e:m=N:=by omega
  subst e; exact ⟨b,s⟩
end
def Ok (lt:Nat->Nat->Bool) (N:Nat) {α:Type}:KasT α->Prop
 | .ret _=>True
 | .ask i j k=>i<N/\j<N/\Ok lt N (k (lt i j))
theorem Ok.bind {lt:Nat->Nat->Bool} {N:Nat} {α β:Type} {f:α->KasT β}:∀ {t:KasT α},Ok lt N t->Ok lt N (f (run lt t))->Ok lt N (t.bind f)
 | .ret _,_,h=>h
 | .ask i j k,⟨h1,h2,h3⟩,h=>⟨h1,h2,Ok.bind (t:=k (lt i j)) h3 h⟩
theorem B.lt {p:Array Nat} {N n k:Nat} (b:B p N n) (hn:n<=N) (hk:k<N):g p k<N:=by
 by_cases h:k<n
 ·have:=b.low k h; omega
 ·rw [b.high k (by omega) hk]; exact hk
section
variable {lt:Nat->Nat->Bool} (o:Ord lt)
include o
theorem zlR {p:Array Nat} {N:Nat} {n0:Nat} (b:B p N n0) (h0:n0<=N):∀ (f n:Nat),n+f=N->Ok lt N (kas_asc p f n)
 | 0,_,_=>trivial
 | f+1,n,h=>⟨b.lt h0 (k:=n) (by omega),b.lt h0 (k:=n-1) (by omega),by
  show Ok lt N (if lt (g p n) (g p (n-1))=true then KasT.ret n else kas_asc p f (n+1))
  split
  ·trivial
  ·exact zlR b h0 f (n+1) (by omega)⟩
theorem zgW {N:Nat}:∀ (f:Nat) (p:Array Nat) (n q:Nat),n+f=N->De lt p N n q->Ok lt N (kas_desc f p n q)
 | 0,_,_,_,_,_=>trivial
 | f+1,p,n,q,h,d=>⟨d.b.lt d.le (k:=n) (by omega),d.b.lt d.le (k:=n-1) (by omega),by
  show Ok lt N (if lt (g p n) (g p (n-1))=true then (if q > 0 then kas_desc f (kas_rev p (n-(q+1)) n) (n+1) 0 else kas_desc f p (n+1) 0)
   else KasT.ask (p.getD (n-1) 0) (p.getD n 0) fun c=>if c=true then .ret (p,n,q) else kas_desc f p (n+1) (q+1))
  have hn:n<N:=by omega
  have hq:=d.q1
  cases c:lt (g p n) (g p (n-1)) with
  | true =>
   rw [yS rfl]
   by_cases hq0:q > 0
   ·rw [yS hq0]
    refine zgW f _ (n+1) 0 (by omega) (De.next o (d.b.mirror (yG _) d.le) hn (by omega) (De.turned o d) fun i hi=>?_)
    have hs:n<=p.size:=by rw [d.b.size]; exact d.le
    rw [za2 hs,za2 hs,yQ (show ¬ (n-(q+1)<=n/\n<n) by omega)]
    split
    ·exact De.st o d c _ (by omega)
    ·exact De.st o d c _ hi
   ·rw [yQ hq0]
    have e0:q=0:=by omega
    subst e0
    exact zgW f _ (n+1) 0 (by omega) (De.next o d.b hn (by omega) (De.fal0 o d) (De.st o d c))
  | false =>
   rw [yQ (by decide)]
   refine ⟨d.b.lt d.le (k:=n-1) (by omega),d.b.lt d.le (k:=n) (by omega),?_⟩
   show Ok lt N (if lt (g p (n-1)) (g p n)=true then KasT.ret (p,n,q) else kas_desc f p (n+1) (q+1))
   cases c2:lt (g p (n-1)) (g p n) with
   | true=>rw [yS rfl]; trivial
   | false =>
    rw [yQ (by decide)]
    have hb:n+1-(q+1+1)=n-(q+1):=by omega
    have gn:g p n=n:=d.b.high n (yG _) hn
    refine zgW f _ (n+1) (q+1) (by omega) ⟨d.b.succ hn,hn,by omega,fun i j h1 h2 h3=>?_,fun i j h1 h2 h3=>?_,fun i j h1 h2=>?_⟩
    ·rw [hb] at h1
     by_cases ej:j=n
     ·subst ej
      have lo:g p i<g p j:=by rw [gn]; exact d.b.low i h2
      by_cases ei:i=j-1
      ·subst ei; exact ⟨.inr ⟨c,lo⟩,c2⟩
      ·obtain ⟨u1,u2⟩:=d.blk i (j-1) h1 (by omega) (by omega)
       exact ⟨.inr ⟨o.tr _ _ _ (L.le o u1) c,lo⟩,o.tr _ _ _ c2 u2⟩
     ·exact d.blk i j h1 h2 (by omega)
    ·rw [hb] at h1 h2
     by_cases ej:j=n
     ·subst ej
      exact zq5 o c2 (d.str i (j-1) h1 (by omega) (by omega))
     ·exact d.str i j h1 h2 (by omega)
    ·rw [hb] at h2
     exact d.old i j h1 h2⟩
theorem zjE {p:Array Nat} {N n:Nat} (b:B p N n) (hn:n<=N):Ok lt N (kas_tail3 n N p):=by
 unfold kas_tail3
 exact Ok.bind (zlR o (b.mirror (yG _) hn) hn _ n (by omega)) trivial
theorem zfw {p:Array Nat} {N n:Nat} (hn:n<N) (d:De lt p N (n+1) 0):Ok lt N (kas_descPart n N p):=by
 unfold kas_descPart
 refine Ok.bind (zgW o _ p (n+1) 0 (by omega) d) ?_
 obtain ⟨p',n',q',e,d'⟩:=ztu o (N:=N) (N-(n+1)) p (n+1) 0 (by omega) d
 rw [e]
 show Ok lt N (if q' > 0 then kas_tail3 n' N (kas_rev p' (n'-(q'+1)) n') else kas_tail3 n' N p')
 split
 ·exact zjE o (d'.b.mirror (yG _) d'.le) d'.le
 ·exact zjE o d'.b d'.le
theorem zn8 {p:Array Nat} {N:Nat} (hN:1<=N) (b:B p N 1):Ok lt N (kas_count N p):=by
 unfold kas_count
 refine Ok.bind (zlR o b hN _ 1 (by omega)) ?_
 obtain ⟨a1,a2,a3,a4,a5⟩:=asc o (p:=p) (N:=N) (N-1) 1 (by omega) (yG _) b (fun i j hij hj=>by omega)
 generalize run lt (kas_asc p (N-1) 1)=n at a1 a2 a3 a4 a5 ⊢
 by_cases e:n=N
 ·rw [yS (by rw [e]; exact beq_self_eq_true _)]
  trivial
 ·have hn:n<N:=by omega
  have hs:n<=p.size:=by rw [a3.size]; exact a2
  rw [yQ (by simpa using e)]
  by_cases h1:n > 1
  ·rw [yS h1]
   refine ⟨a3.lt a2 (k:=0) (by omega),a3.lt a2 (k:=n-1) (by omega),?_⟩
   show Ok lt N (if lt (g p 0) (g p (n-1))=true then KasT.ret (n,p) else kas_descPart n N (kas_rev p 0 n))
   cases c:lt (g p 0) (g p (n-1)) with
   | true=>rw [yS rfl]; trivial
   | false =>
    rw [yQ (by decide)]
    refine zfw o hn (De.next o (a3.mirror (yG _) a2) hn a1 (fun i j hij hj=>?_) fun i hi=>?_)
    ·rw [za2 hs,za2 hs,yS ⟨by omega,hj⟩,yS ⟨by omega,by omega⟩]
     exact a4 _ _ (by omega) (by omega)
    ·rw [za2 hs,za2 hs,yQ (show ¬ (0<=n/\n<n) by omega),yS ⟨by omega,hi⟩]
     refine zl5 o (a5 hn) ?_; generalize hk:0+n-1-i=k
     have hkn:k<n:=by omega
     by_cases k0:k=0
     ·subst k0; exact c
     ·exact o.tr _ _ _ c (L.le o (a4 0 k (by omega) hkn))
  ·rw [yQ h1]
   have e1:n=1:=by omega
   subst e1
   exact zfw o hn (De.next o a3 hn (yG _) (fun i j h1 h2=>by omega) fun i hi=>by
    have e0:i=0:=by omega
    subst e0; exact a5 hn)
theorem zgS {p:Array Nat} {N k:Nat} (b:B p N k) (hk:k<N):∀ (f l r:Nat),r<=k->Ok lt N (kas_place p k f l r)
 | 0,_,_,_=>trivial
 | f+1,l,r,h=>by
  show Ok lt N (if l >= r then KasT.ret l else KasT.ask (p.getD k 0) (p.getD ((l+r) / 2) 0) fun c=>if c=true then kas_place p k f l ((l+r) / 2) else kas_place p k f ((l+r) / 2+1) r)
  by_cases hlr:l >= r
  ·rw [yS hlr]; trivial
  ·rw [yQ hlr]
   refine ⟨b.lt (by omega) (k:=k) hk,b.lt (by omega) (k:=(l+r) / 2) (by omega),?_⟩
   show Ok lt N (if lt (g p k) (g p ((l+r) / 2))=true then kas_place p k f l ((l+r) / 2) else kas_place p k f ((l+r) / 2+1) r)
   split
   ·exact zgS b hk f _ _ (by omega)
   ·exact zgS b hk f _ _ h
theorem zph {N:Nat}:∀ (f:Nat) (p:Array Nat) (k:Nat),k+f=N->B p N k->Srt lt p k->Ok lt N (kas_bin f p k)
 | 0,_,_,_,_,_=>trivial
 | f+1,p,k,h,b,s=>by
  refine Ok.bind (zgS o b (by omega) k 0 k (yG _)) ?_
  obtain ⟨a1,a2,a3⟩:=znV o s k 0 k (by omega) (yo _) (yG _) (fun i hi=>yM hi (Nat.not_lt_zero _)) fun i h1 h2=>yM h1 (by omega)
  obtain ⟨b',s'⟩:=ins o b (by omega) s a1 a2 a3
  exact zph f _ (k+1) (by omega) b' s'
theorem ok_sort {N:Nat} (hN:1<=N):Ok lt N (kas_sort N):=by
 unfold kas_sort
 have g0:∀ k,k<N->g (List.toArray (List.range N)) k=k:=fun k hk=>by
  rw [g_eq]; simp [hk]
 have b0:B (List.toArray (List.range N)) N 1:=⟨by simp,fun k hk=>by rw [g0 k (by omega)]; exact hk,fun k h1 h2=>g0 k h2⟩
 refine Ok.bind (zn8 o hN b0) ?_; obtain ⟨m,p',e,h1,h2,b,s⟩:=count o hN b0; rw [e]
 show Ok lt N (if m<N then kas_bin (N-max m 1) p' (max m 1) else KasT.ret p')
 split
 ·rw [Nat.max_eq_left h1]
  exact zph o _ _ _ (by omega) b s
 ·trivial
end
theorem wp_of {lt:Nat->Nat->Bool} {N:Nat} {J:Shared->Prop} {cmp:Nat->Nat->(Bool->Shared->Prop)->Shared->Prop} (hc:∀ i j C s,i<N->j<N->J s->(∀ s',J s'->C (lt i j) s')->cmp i j C s) {α:Type} {Q:α->Shared->Prop} :
  ∀ (t:KasT α) (s:Shared),Ok lt N t->J s->(∀ s',J s'->Q (run lt t) s')->t.kasWp cmp Q s
 | .ret _,s,_,hj,h=>h s hj
 | .ask i j k,s,⟨h1,h2,h3⟩,hj,h=>hc i j _ s h1 h2 hj fun s' hj'=>wp_of hc (k (lt i j)) s' h3 hj' h
section
variable {prog:Program} {w:World} {A:Around} {E:Value->Shared->Prop} {s:Shared} {a kS:Addr} {vs ks:List Value} {κ:SortKind}
def Fin3 (a kS:Addr) (ks:List Value) (e e1:Nat) (out:List Value) (C:Shared->Prop) (s:Shared):Prop :=
 s.heap.get? kS=some (seqObj "list" ks.toArray e)/\s.heap.get? a=some (seqObj "list" #[] e1) /\
  ∀ h' c c2,(∀ b o,b≠kS->b≠a->s.heap.get? b=some o->h'.get? b=some o)->h'.objs.size=s.heap.objs.size->h'.get? kS=some (seqObj "list" #[] c)->h'.get? a=some (seqObj "list" out.toArray c2)->C { s with heap:=h' }
theorem Fin3.mono {e e1:Nat} {out:List Value} {C C':Shared->Prop} (h:Fin3 a kS ks e e1 out C s) (hc:∀ s,C s->C' s):Fin3 a kS ks e e1 out C' s :=
 ⟨h.1,h.2.1,fun h' c c2 k z x y=>hc _ (h.2.2 h' c c2 k z x y)⟩
theorem zji {st:SortSt} {e e1:Nat} {out:List Value} {P:PySem.Fin->Shared->Prop} (ne:kS≠a) (hout:(arrOf st).map (·.2)=List.toArray out) (hz:out.length<64) (hkz:ks.length<64) (hf:failedOf st=none)
  (h:Fin3 a kS ks e e1 out (fun s'=>P (.done (.ret .none)) s') s):wpAny (model prog w) A (ksk_tail a false e1 (.ref kS) st) P E s:=by
 obtain ⟨hk,ha,k⟩:=h
 have s1:=Heap.SameBut.update s.heap kS (Obj.mapSeq fun _=>(#[]:Array Value))
 obtain ⟨ck,hck⟩:∃ ck,(s.heap.update kS (Obj.mapSeq fun _=>(#[]:Array Value))).get? kS=some (seqObj "list" #[] ck):=⟨_,get?_update_seq hk fun _=>#[]⟩
 have ha1:(s.heap.update kS (Obj.mapSeq fun _=>(#[]:Array Value))).get? a=some (seqObj "list" #[] e1):=(s1.2 a (Ne.symm ne)).trans ha
 have s2:=Heap.SameBut.update (s.heap.update kS (Obj.mapSeq fun _=>(#[]:Array Value))) a (Obj.mapSeq fun _=>List.toArray out)
 obtain ⟨c2,hc2⟩:∃ c2,((s.heap.update kS (Obj.mapSeq fun _=>(#[]:Array Value))).update a (Obj.mapSeq fun _=>List.toArray out)).get? a=some (seqObj "list" (List.toArray out) c2):=⟨_,get?_update_seq ha1 fun _=>List.toArray out⟩
 unfold ksk_tail
 try dsimp only
 rw [hout]
 refine yA (listUpdate_at hk rfl ?_ (by rw [yO,sizeLine_eq]; omega) (yo _))
 refine yA (wpAny_letGo ?_); refine yA (seqEpoch_at ha1 rfl ?_)
 refine yA (listUpdate_at ha1 rfl ?_ (yo _) (by simp only [YU,if_false]; rw [yO,sizeLine_eq]; omega))
 rw [hf]; simp only [bne_self_eq_false,YU,if_false]
 refine yE (k _ ck c2 (fun b o h1 h2 q=>(s2.2 b h2).trans ((s1.2 b h1).trans q)) (by rw [Heap.size_update,Heap.size_update]) ((s2.2 kS ne).trans hck) hc2)
theorem srt_end {e e1:Nat} {P:PySem.Fin->Shared->Prop} (ne:kS≠a) (hl:ks.length=vs.length) (h2:2<=vs.length) (h64:vs.length<64)
  (h:wpAny (model prog w) A (keyKind' (List.toArray ks)) (fun κ s'=>(kas_sort vs.length).kasWp (kas_ask prog w A κ ks) (fun p s''=>Fin3 a kS ks e e1 (p.toList.map fun i=>vs.getD i Value.none) (fun s3=>P (.done (.ret .none)) s3) s'') s') (fun _ _=>False) s) :
  wpAny (model prog w) A (ksk_end a false vs.toArray e1 (.ref kS) (List.toArray ks)) P E s:=by
 have hn2:¬ vs.toArray.size<2:=by rw [yO]; omega
 unfold ksk_end
 try dsimp only
 simp only [YU,if_false]; rw [yQ hn2,yQ hn2]
 refine yA (yx h (fun κ s0 hk=>?_) fun _ _ x=>x.elim)
 refine yA (yx (kat_run (Q:=fun st' s'=>∃ p:Array Nat,p.size=vs.length/\arrOf st'=p.map (kas_item ((List.toArray ks).zip (List.toArray vs)))/\failedOf st'=none /\
   Fin3 a kS ks e e1 (p.toList.map fun i=>vs.getD i Value.none) (fun s3=>P (.done (.ret .none)) s3) s')
  hl h2 h64 (fun p' st' s' a1 a2 a3 a4=>⟨p',a1,a2,a3,a4⟩) hk) ?_ fun _ _ x=>x)
 rintro ⟨⟨⟩,st'⟩ s' ⟨p,hp,har,hf,fin⟩
 try dsimp only
 exact zji ne (kat_snds hl har) (by rw [yD,YI,hp]; exact h64) (by omega) hf fin
theorem srt_end1 {e e1:Nat} {P:PySem.Fin->Shared->Prop} (ne:kS≠a) (hl:ks.length=vs.length) (h2:vs.length<2)
  (h:Fin3 a kS ks e e1 vs (fun s3=>P (.done (.ret .none)) s3) s):wpAny (model prog w) A (ksk_end a false vs.toArray e1 (.ref kS) (List.toArray ks)) P E s:=by
 have hn2:vs.toArray.size<2:=by rw [yO]; omega
 unfold ksk_end
 try dsimp only
 simp only [YU,if_false]; rw [yS hn2,yS hn2]; refine yA (yE ?_); refine yA (m:=StateT.run (pure ()) _) (yE ?_)
 try dsimp only
 refine zji ne ?_ (by omega) (by omega) rfl h
 apply Array.toList_inj.mp
 show (((List.toArray ks).zip (List.toArray vs)).map (·.2)).toList=_
 rw [Array.toList_map,ksk_zip]
 clear h hn2
 cases vs with
 | nil =>
  cases ks with
  | nil=>rfl
  | cons k r=>simp at hl
 | cons v r =>
  cases r with
  | cons v2 r=>exact yM h2 (by simp)
  | nil =>
   cases ks with
   | nil=>simp at hl
   | cons k r =>
    cases r with
    | nil=>rfl
    | cons k2 r=>simp at hl
theorem zjj {f:Value} {n:Nat} {body:Value->PUnit->Sem (ForInStep PUnit)} (J:List Value->Nat->Shared->Prop) (hn:n<64) (all:List Value) (hall:all.length=n)
  (hb:∀ x ks e (s:Shared) (C:Value->Nat->Shared->Prop),List.length ks<64->wpAny (model prog w) A (call f [x]) (fun k s'=>s'.heap.get? kS=some (seqObj "list" ks.toArray e)/\∀ c,(s'.heap.update kS (Obj.mapSeq (·.push k))).get? kS=some (seqObj "list" (List.toArray (ks ++ [k])) c)->C k c { s' with heap:=s'.heap.update kS (Obj.mapSeq (·.push k)) }) (fun _ _=>False) s ->
   wpAny (model prog w) A (body x ⟨⟩) (fun r s'=>r=.yield ⟨⟩/\∃ k c,C k c s') E s)
  (step:∀ ks e s x,all[ks.length]?=some x->J ks e s->wpAny (model prog w) A (call f [x]) (fun k s'=>s'.heap.get? kS=some (seqObj "list" ks.toArray e)/\∀ c,(s'.heap.update kS (Obj.mapSeq (·.push k))).get? kS=some (seqObj "list" (List.toArray (ks ++ [k])) c)->J (ks ++ [k]) c { s' with heap:=s'.heap.update kS (Obj.mapSeq (·.push k)) }) (fun _ _=>False) s) :
  ∀ (r ks:List Value) (e:Nat) (s:Shared),all.drop ks.length=r->ks.length<=n->J ks e s ->
   wpAny (model prog w) A (forIn r PUnit.unit body) (fun _ s'=>∃ ks e,ks.length=n/\J ks e s') E s
 | [],ks,e,s,hl,hle,h=>by
  rw [List.forIn_nil]
  have:all.length<=ks.length:=List.drop_eq_nil_iff.mp hl
  exact yE ⟨ks,e,by omega,h⟩
 | x :: r,ks,e,s,hl,hle,h=>by
  rw [List.forIn_cons]
  have hx:all[ks.length]?=some x:=by
   have:=yp (fun l=>l[0]?) hl
   simpa using this
  have hlt:ks.length<n:=by rw [<- hall]; exact (yF.mp hx).1
  refine yA (yx (hb x ks e s (fun k c s'=>J (ks ++ [k]) c s') (by omega) (step ks e s x hx h)) (fun q s' hq=>?_) fun _ _ x=>x)
  obtain ⟨rfl,k,c,h2⟩:=hq
  show wpAny (model prog w) A (forIn r PUnit.unit body) _ E s'
  refine zjj J hn all hall hb step r (ks ++ [k]) c s' ?_ (by rw [yH,ya]; omega) h2
  rw [yH,ya,<- List.drop_drop,hl]; rfl
theorem srt_rest {f:Value} {e1:Nat} {P:PySem.Fin->Shared->Prop} (J:List Value->Nat->Shared->Prop) (h64:vs.length<64) (hJ:∀ ks e s,J ks e s->s.heap.get? kS=some (seqObj "list" ks.toArray e))
  (step:∀ ks e s x,vs[ks.length]?=some x->J ks e s->wpAny (model prog w) A (call f [x]) (fun k s'=>s'.heap.get? kS=some (seqObj "list" ks.toArray e)/\∀ c,(s'.heap.update kS (Obj.mapSeq (·.push k))).get? kS=some (seqObj "list" (List.toArray (ks ++ [k])) c)->J (ks ++ [k]) c { s' with heap:=s'.heap.update kS (Obj.mapSeq (·.push k)) }) (fun _ _=>False) s)
  (fin:∀ ks e s,ks.length=vs.length->J ks e s->wpAny (model prog w) A (ksk_end a false vs.toArray e1 (.ref kS) (List.toArray ks)) P E s) (h0:J [] 0 s) :
  wpAny (model prog w) A (ksk_rest a f false vs.toArray e1 (.ref kS)) P E s:=by
 unfold ksk_rest; refine yA (wpAny_rule ?_)
 first
  | rw [List.forIn_toArray]
  | (rw [<- Array.forIn_toList]; simp only [List.toList_toArray])
  | rw [<- Array.forIn_toList]
 refine yA (yx (zjj (f:=f) (kS:=kS) J h64 vs rfl (fun x ks e s' C hz hx=>?_) step vs [] 0 s rfl (yo _) h0) (fun _ s' hd=>?_) fun _ _ x=>x)
 ·refine yA (Yq (yx hx (fun k s'' hk=>?_) fun _ _ hF=>hF.elim))
  obtain ⟨nk,c⟩:=hk
  have ea:(List.toArray ks).push k=List.toArray (ks ++ [k]):=by simp
  obtain ⟨c2,hc2⟩:∃ c2,(s''.heap.update kS (Obj.mapSeq (·.push k))).get? kS=some (seqObj "list" (List.toArray (ks ++ [k])) c2):=⟨_,by rw [<- ea]; exact get?_update_seq nk (·.push k)⟩
  try dsimp only
  refine yA (listUpdate_at nk rfl ?_ (by rw [yO,sizeLine_eq]; omega) (yz (Nat.le_of_eq (Array.size_push ..)) (by rw [yO,sizeLine_eq]; omega)))
  exact yE ⟨rfl,k,c2,c c2 hc2⟩
 ·obtain ⟨ks,e,hl,fj⟩:=hd
  try dsimp only
  refine yA (listItems_at (hJ _ _ _ fj) rfl ?_); exact fin ks e s' hl fj
theorem srt_tree {f:Value} {n:Nat} {P:PySem.Fin->Shared->Prop} (ho:s.heap.get? a=some (seqObj "list" vs.toArray n)) (h64:vs.length<64)
  (h:∀ e1 h',(∀ b o,b≠a->s.heap.get? b=some o->h'.get? b=some o)->h'.objs.size=s.heap.objs.size+2->h'.get? (s.heap.objs.size+1)=some (seqObj "list" #[] 0)->h'.get? a=some (seqObj "list" #[] e1) ->
   wpAny (model prog w) A (ksk_rest a f false vs.toArray e1 (.ref (s.heap.objs.size+1))) P E { s with heap:=h' }) :
  wpAny (model prog w) A (ksk_tree a f false) P E s:=by
 have ha:a<s.heap.objs.size:=yN ho
 have s1:=Heap.SameBut.update s.heap a (Obj.mapSeq fun _=>(#[]:Array Value))
 obtain ⟨e1,ho1⟩:∃ e1,(s.heap.update a (Obj.mapSeq fun _=>(#[]:Array Value))).get? a=some (seqObj "list" #[] e1):=⟨_,get?_update_seq ho fun _=>#[]⟩
 have hkS:((s.heap.update a (Obj.mapSeq fun _=>(#[]:Array Value))).push (seqObj "tuple" vs.toArray 0)).objs.size=s.heap.objs.size+1:=by rw [size_push',Heap.size_update]
 unfold ksk_tree; refine yA (listItems_at ho rfl ?_)
 refine yA (listUpdate_at ho rfl ?_ (by rw [yO,sizeLine_eq]; omega) (yo _))
 refine yA (seqEpoch_at ho1 rfl ?_)
 refine yA (wpAny_newTuple ?_ (by show vs.length<=_; rw [sizeLine_eq]; omega))
 refine yA (wpAny_newList ?_ (yo _)); refine YW ?_
 have h':=h e1 (((s.heap.update a (Obj.mapSeq fun _=>(#[]:Array Value))).push (seqObj "tuple" vs.toArray 0)).push (seqObj "list" #[] 0)) (fun b o hb q=>yB _ (yB _ ((s1.2 b hb).trans q)))
  (by rw [size_push',hkS]) (by rw [<- hkS]; exact yK _ rfl) (yB _ (yB _ ho1))
 rw [<- hkS] at h'; exact h'
end
end So
namespace L2
open PySem PySem.Spec PyProof.Rows PySem.W
section
variable {X:Cx} {pins:List (Addr × Obj)} {σ:St} {H:Hp} {s:Shared} {h':Heap}
theorem Inv.turnedOwn {t':Nat} {ch:List Addr} {p:Addr} {o:HO} (I:Inv X pins σ H s) (hch:∀ b ∈ ch,zeT X pins H b) (hp:p ∈ ch) (k:∀ b u,b ∉ ch->s.heap.get? b=some u->h'.get? b=some u) (new:zbM X.prog X.w (upd H p o) h' p o) :
  Inv X pins σ (upd H p o) { s with heap:=h',toks:=t' }:=by
 have fr:H p=none:=(hch p hp).1
 have sm:∀ b u,H b=some u->upd H p o b=some u:=fun b u e=>by rw [zI (za3 e fr)]; exact e
 have nch:∀ b u,H b=some u->b ∉ ch:=fun b u e z=>by rw [(hch b z).1] at e; cases e
 refine I.step (g':=s.gens) (d':=s.drawn) (ch:=ch) (fun b hb=>?_) (fun b u _ _ hc e _=>k b u hc e) (fun b u _ _ hc e _=>⟨u.slots,k b u hc e⟩) (fun b u hc e n=>?_) (fun b u hc e=>⟨u,k b u hc e⟩) (fun b xs e=>sm _ _ e) (fun b ob u e=>sm _ _ e) (fun b ps e=>⟨#[],by rw [sm _ _ e]; simp⟩) (fun m hm=>?_) (fun b u e=>?_) I.bare
 ·obtain ⟨_,y1,_,y3,y4,y5⟩:=hch b hb
  exact ⟨y3,y1,y4,y5⟩
 ·rw [zI (fun z=>hc (by rw [z]; exact hp))]
  exact n
 ·obtain ⟨ob,es,ep,ho,r⟩:=hm
  exact ⟨ob,es,ep,k _ ob (fun z=>(hch _ z).2.1 rfl) ho,r⟩
 ·by_cases z:b=p
  ·subst z
   rw [zv] at e; cases e; exact new
  ·rw [zI z] at e
   refine (I.hok b u e).stay (fun c v hc q=>k c v ?_ q) (fun c q=>sm _ _ q) fun c xs q=>sm _ _ q
   rcases hc with rfl | hc
   ·exact nch _ u e
   ·exact nch c _ hc
theorem zqc {A':Around} {k:Nat} {f:Addr} {fd:FuncData} {ps:List Str} {sp:Sp} {Q:VK} {us:List Value} {vs:List V} (F:FnOk X.prog X.w X.K X.mg X.base CX0 k f fd ps sp) (hr:Room k A') (hA:Env0 X.prog X.w X.K X.mg X.base A' X.stack s H) (hb:zd2 X.K fd ps [])
  (I:Inv X pins σ H s) (r:za7 vs us) (h:sp vs H Q E0):wpAny (model X.prog X.w) A' (call (.ref f) us) (EP X pins σ Q) (fun _ _=>False) s:=by
 have hl:(us ++ []).length=ps.length:=by rw [YG,<- r.length]; exact F.len _ _ _ _ h
 have hb':=hb s us I.kIn hl; rw [YG] at hb'
 refine wpAny_call (codeAny_mono (F.run A' X.stack s H ⟨us,[]⟩ us vs Q E0 hr hA hb' r h) fun r s' hq=>?_)
 cases r with
 | error e=>exact hq.elim
 | ok fl =>
  cases fl with
  | ret u=>exact I.after hq
  | next=>exact False.elim hq
  | brk=>exact False.elim hq
  | cont=>exact False.elim hq
def zrT (sp:Sp) (Fin:List V->Hp->Prop):List V->List V->Hp->Prop
 | [],ks,H=>Fin ks H
 | v :: r,ks,H=>sp [v] H (fun k H'=>zrT sp Fin r (ks ++ [k]) H') E0
def zkT (X:Cx) (ks:List V) (H:Hp) (lt:Nat->Nat->Bool):Prop:=∀ (A':Around) (pins:List (Addr × Obj)) (σ:St) (s:Shared) (kss:List Value),Inv X pins σ H s->za7 ks kss->2<=ks.length ->
 wpAny (model X.prog X.w) A' (keyKind' kss.toArray) (fun κ s'=>Inv X pins σ H s'/\∀ (i j:Nat) (C:Bool->Shared->Prop) s'',i<ks.length->j<ks.length->Inv X pins σ H s''->(∀ s3,Inv X pins σ H s3->C (lt i j) s3)->kas_ask X.prog X.w A' κ kss i j C s'') (fun _ _=>False) s
def zeU (lt:Nat->Nat->Bool) (xs:List V):List V:=if xs.length<2 then xs else (So.run lt (kas_sort xs.length)).toList.map fun i=>xs.getD i .non
theorem zhX {xs:List V} {us:List Value} (r:za7 xs us) (i:Nat) (hi:i<xs.length):zbo (xs.getD i .non) (us.getD i Value.none):=by
 have hl:=r.length; obtain ⟨u,hu,ru⟩:=r.get (yC hi); simp only [List.getD,yC hi,JD]; rw [hu]; exact ru
theorem zjd {xs:List V} {us:List Value} (r:za7 xs us):∀ (l:List Nat),(∀ i,i ∈ l->i<xs.length)->za7 (l.map fun i=>xs.getD i .non) (l.map fun i=>us.getD i Value.none)
 | [],_=>.nil
 | i :: l,h=>.cons (zhX r i (h i (by simp))) (zjd r l fun j hj=>h j (by simp [hj]))
theorem zgx {lt:Nat->Nat->Bool} (o:So.Ord lt) {n:Nat} (hn:1<=n):((So.run lt (kas_sort n)).toList.length=n)/\∀ i,i ∈ (So.run lt (kas_sort n)).toList->i<n:=by
 obtain ⟨b,_⟩:=So.sort o hn
 refine ⟨by rw [YI]; exact b.size,fun i hi=>?_⟩
 obtain ⟨k,hk,e⟩:=List.getElem_of_mem hi
 have hk':k<(So.run lt (kas_sort n)).size:=by simpa using hk
 have:=b.low k (by rw [b.size] at hk'; exact hk')
 rw [So.g_eq] at this; simp only [Array.getElem_toList] at e; rw [yn hk',e] at this; exact this
theorem zic {f:Addr} {sp:Sp} {l:Addr} {xs:List V} {Q:VK} {E':Value->Shared->Prop}
  (hrun:∀ (pins':List (Addr × Obj)) (H':Hp) (s':Shared) (x:V) (u:Value) (Q':VK),Inv X pins' σ H' s'->zbo x u->sp [x] H' Q' E0->wpAny (model X.prog X.w) X.A.in1.in1 (call (.ref f) [u]) (EP X pins' σ Q') (fun _ _=>False) s')
  (I:Inv X pins σ H s) (hl:SqL X.K H l xs) (h64:xs.length<64)
  (h:zrT sp (fun ks H'=>∃ lt,So.Ord lt/\zkT X ks H' lt/\∀ p,H' p=none->Q (.ref p) (upd H' p (.lst (zeU lt xs)))) xs [] H) :
  wpAny (model X.prog X.w) X.A (call (.builtin "sorted") [.ref l] [(Str.ofString "key",.ref f)]) (EP X pins σ Q) E' s:=by
 obtain ⟨vs,rv,pl,hz⟩:=I.list hl; have hlen:=rv.length
 have h64':vs.length<64:=by omega
 refine call_function_entry_kw kind_sorted plain_sorted entry_sorted (ksk_s1 _ _) ?_
 unfold Builtin.«sorted»
 refine yA (m:=checkCount "sorted" 1 1 _) (yE ?_)
 refine yA (collect_list (zb8 pl) ?_ (by rw [sizeLine_eq]; omega))
 refine yA (wpAny_newList ?_ (by rw [sizeLine_eq]; omega))
 have hsz:((s.heap.push (seqObj "list" #[] 0)).update s.heap.objs.size (Obj.mapSeq (· ++ vs.toArray))).objs.size=s.heap.objs.size+1:=by
  rw [Heap.size_update,size_push']
 have hoL:(((s.heap.push (seqObj "list" #[] 0)).update s.heap.objs.size (Obj.mapSeq (· ++ vs.toArray))).push (seqObj "list" vs.toArray 0)).get? (s.heap.objs.size+1)=some (seqObj "list" vs.toArray 0):=by
  rw [<- hsz]; exact yK _ rfl
 have hsz2:(((s.heap.push (seqObj "list" #[] 0)).update s.heap.objs.size (Obj.mapSeq (· ++ vs.toArray))).push (seqObj "list" vs.toArray 0)).objs.size=s.heap.objs.size+2:=by rw [size_push',hsz]
 have keep:∀ b o,s.heap.get? b=some o->(((s.heap.push (seqObj "list" #[] 0)).update s.heap.objs.size (Obj.mapSeq (· ++ vs.toArray))).push (seqObj "list" vs.toArray 0)).get? b=some o:=fun b o q=>by
  have hlt:b<s.heap.objs.size:=yN q
  rw [Heap.get?_push_ne _ _ _ (by rw [hsz]; exact yd (Nat.lt_succ_of_lt hlt)),Heap.get?_update_ne _ _ _ _ (yd hlt),Heap.get?_push_ne _ _ _ (yd hlt)]
  exact q
 show wpAny _ _ _ _ _ { s with heap:=((s.heap.push (seqObj "list" #[] 0)).update s.heap.objs.size (Obj.mapSeq (· ++ vs.toArray))).push (seqObj "list" vs.toArray 0) }
 rw [hsz]; refine yA (YW (wpAny_call_entry_kw slot_list_sort ⟨_,hoL,rfl⟩ entry_list_sort ?body (ksk_l1 _ _)))
 case body =>
  show wpAny (model X.prog X.w) X.A.in1.in1 (Builtin.«list.sort» ⟨[.ref (s.heap.objs.size+1)],[(Str.ofString "key",.ref f)]⟩) _ _ _
  rw [ksk_t1]
  refine So.srt_tree (s:={ s with heap:=((s.heap.push (seqObj "list" #[] 0)).update s.heap.objs.size (Obj.mapSeq (· ++ vs.toArray))).push (seqObj "list" vs.toArray 0) }) hoL h64' fun e1 h' keep' size' hk0 ha0=>?_
  dsimp only at keep' size' hk0
  rw [hsz2] at size' hk0
  have hDk:s.heap.objs.size+2+1≠s.heap.objs.size+1:=by omega
  have hD0:s.heap.objs.size<=s.heap.objs.size+1:=by omega
  have hK0:s.heap.objs.size<=s.heap.objs.size+2+1:=by omega
  have fD:=I.fpOk (H':=H) hD0 (I.hok.fresh hD0); have fK:=I.fpOk (H':=H) hK0 (I.hok.fresh hK0); rw [hsz2]; generalize hkS:s.heap.objs.size+2+1=kS at hk0 hDk fK; generalize hDD:s.heap.objs.size+1=D at ha0 hDk fD
  have I0:Inv X pins σ H { s with heap:=h' }:=I.kept (t':=s.toks) fun b u q=>keep' b u (fun z=>yM (yN q) (by rw [z]; exact Nat.not_lt.mpr (Nat.le_succ _))) (keep b u q)
  have pin2:∀ {H':Hp} {s':Shared} {ks:List Value} {e:Nat},Inv X pins σ H' s'->s'.heap.get? kS=some (seqObj "list" ks.toArray e)->s'.heap.get? D=some (seqObj "list" #[] e1)->H' kS=none->H' D=none->Inv X ((kS,seqObj "list" ks.toArray e) :: (D,seqObj "list" #[] e1) :: pins) σ H' s':=fun I' g1 g2 n1 n2 =>
   I'.pins_of fun p hp=>by
    rcases yJ.mp hp with rfl | hp
    ·exact ⟨g1,n1,fK.2.1,fK.2.2.1,fun v z=>by cases z⟩
    ·rcases yJ.mp hp with rfl | hp
     ·exact ⟨g2,n2,fD.2.1,fD.2.2.1,fun v z=>by cases z⟩
     ·exact I'.pin p (yf _ hp)
  have unpin:∀ {H':Hp} {s':Shared} {ks:List Value} {e:Nat},Inv X ((kS,seqObj "list" ks.toArray e) :: (D,seqObj "list" #[] e1) :: pins) σ H' s'->Inv X pins σ H' s'/\(s'.heap.get? kS=some (seqObj "list" ks.toArray e)/\H' kS=none)/\(s'.heap.get? D=some (seqObj "list" #[] e1)/\H' D=none):=fun I'=>by
   have p1:=I'.pin (kS,_) (yf _ (.head _)); have p2:=I'.pin (D,_) (yf _ (.tail _ (.head _)))
   exact ⟨I'.pins_of fun p hp=>I'.pin p (yf _ (.tail _ (.tail _ hp))),⟨p1.1,p1.2.1⟩,⟨p2.1,p2.2.1⟩⟩
  have fin3:∀ {H':Hp} {s':Shared} {ks:List Value} {e:Nat} {ys:List V} {out:List Value},Inv X ((kS,seqObj "list" ks.toArray e) :: (D,seqObj "list" #[] e1) :: pins) σ H' s'->za7 ys out->ys.length<64->(∀ p,H' p=none->Q (.ref p) (upd H' p (.lst ys)))->So.Fin3 D kS ks e e1 out (EP X pins σ Q (.ref D)) s':=fun {H' s' ks e ys out} I' r hy hq=>by
   obtain ⟨I2,⟨g1,n1⟩,⟨g2,n2⟩⟩:=unpin I'
   refine ⟨g1,g2,fun h2 c c2 kp sz q1 q2=>⟨.ref D,upd H' D (.lst ys),?_,rfl,hq D n2⟩⟩
   refine I2.turnedOwn (t':=s'.toks) (ch:=[kS,D]) (fun b hb=>?_) (by simp) (fun b u hb e=>kp b u (fun z=>hb (by simp [z])) (fun z=>hb (by simp [z])) e) ⟨by rw [sizeLine_eq]; omega,out,c2,r,q2⟩
   simp at hb
   rcases hb with rfl | rfl
   ·exact ⟨n1,fK.2⟩
   ·exact ⟨n2,fD.2⟩
  refine So.srt_rest (J:=fun ks e s'=>∃ (kv:List V) (H':Hp),za7 kv ks/\Inv X ((kS,seqObj "list" ks.toArray e) :: (D,seqObj "list" #[] e1) :: pins) σ H' s'/\zrT sp (fun ks H'=>∃ lt,So.Ord lt/\zkT X ks H' lt/\∀ p,H' p=none->Q (.ref p) (upd H' p (.lst (zeU lt xs)))) (xs.drop ks.length) kv H') h64' ?_ ?_ ?_ ?_
  ·rintro ks e s' ⟨kv,H',_,I',_⟩
   exact (unpin I').2.1.1
  ·rintro ks e s' x hx ⟨kv,H',rk,I',hk⟩
   have hlt:ks.length<xs.length:=by rw [hlen]; exact (yF.mp hx).1
   obtain ⟨x',hx',rx⟩:=rv.get (yC hlt); rw [hx] at hx'; cases hx'; rw [Yd hlt] at hk
   refine yx (hrun _ _ _ _ _ _ I' rx hk) (fun kk s3 he=>?_) fun _ _ z=>z
   obtain ⟨v,H3,I3,r3,hk3⟩:=he
   obtain ⟨I4,⟨g1,n1⟩,⟨g2,n2⟩⟩:=unpin I3
   refine ⟨g1,fun c hc=>⟨kv ++ [v],H3,rk.append (.cons r3 .nil),?_,?_⟩⟩
   ·have sb:=Heap.SameBut.update s3.heap kS (Obj.mapSeq (·.push kk))
    have I5:Inv X pins σ H3 { s3 with heap:=s3.heap.update kS (Obj.mapSeq (·.push kk)) }:=I4.turned (t':=s3.toks) (it:=kS) (fun b o hb e=>(sb.2 b hb).trans e) n1 fK.2.1 fK.2.2.2.1 fK.2.2.2.2.1 fK.2.2.2.2.2
    exact pin2 I5 hc ((sb.2 D (fun z=>hDk z.symm)).trans g2) n1 n2
   ·rw [yH,ya]
    exact hk3
  ·rintro ks e s' hkl ⟨kv,H',rk,I',hk⟩
   have hkl2:kv.length=xs.length:=by rw [rk.length,hkl,hlen]
   rw [show xs.drop ks.length=[] from Yp (by omega)] at hk
   obtain ⟨lt,od,cmp,hq⟩:=hk
   by_cases hn:vs.length<2
   ·refine So.srt_end1 hDk hkl hn ((fin3 (ys:=zeU lt xs) I' ?_ ?_ hq).mono fun s4 hq=>⟨_,rfl,yE ⟨_,rfl,hq⟩⟩)
    ·unfold zeU
     rw [yS (by omega)]
     exact rv
    ·unfold zeU
     rw [yS (by omega)]
     exact h64
   ·have hN:1<=vs.length:=by omega
    have hsm:=zgx od hN
    refine So.srt_end (e:=e) hDk hkl (by omega) h64' (yx (cmp X.A.in1.in1 _ σ s' ks I' rk (by omega)) (fun κ s3 hc=>?_) fun _ _ z=>z)
    obtain ⟨I3,hc⟩:=hc
    refine So.wp_of (lt:=lt) (N:=vs.length) (J:=fun s=>Inv X ((kS,seqObj "list" ks.toArray e) :: (D,seqObj "list" #[] e1) :: pins) σ H' s) (fun i j C s4 hi hj I4 hC=>hc i j C s4 (by omega) (by omega) I4 hC) (kas_sort vs.length) s3 (So.ok_sort od hN) I3 fun s4 I4=>?_
    refine (fin3 (ys:=zeU lt xs) I4 ?_ ?_ hq).mono fun s4 hq=>⟨_,rfl,yE ⟨_,rfl,hq⟩⟩
    ·unfold zeU
     rw [yQ (by omega),hlen]
     exact zjd rv _ fun i hi=>by rw [hlen]; exact hsm.2 i hi
    ·unfold zeU
     rw [yQ (by omega),yD,hlen,hsm.1]
     exact h64'
  ·exact ⟨[],H,.nil,pin2 I0 hk0 ha0 fK.1 fD.1,h⟩
theorem zid {k:Nat} {f:Addr} {fd:FuncData} {ps:List Str} {sp:Sp} {l:Addr} {xs:List V} {Q:VK} {E':Value->Shared->Prop} (F:FnOk X.prog X.w X.K X.mg X.base CX0 k f fd ps sp) (hr:Room (k+2) X.A) (hb:zd2 X.K fd ps []) (I:Inv X pins σ H s) (hl:SqL X.K H l xs) (h64:xs.length<64)
  (h:zrT sp (fun ks H'=>∃ lt,So.Ord lt/\zkT X ks H' lt/\∀ p,H' p=none->Q (.ref p) (upd H' p (.lst (zeU lt xs)))) xs [] H) :
  wpAny (model X.prog X.w) X.A (call (.builtin "sorted") [.ref l] [(Str.ofString "key",.ref f)]) (EP X pins σ Q) E' s :=
 zic (fun _ _ _ _ _ _ I' rx hk=>zqc F hr.in1.in1 I'.env0.in1.in1 hb I' (.cons rx .nil) hk) I hl h64 h
end
section
variable {X:Cx}
def ltI (is:List Int):Nat->Nat->Bool:=fun i j=>decide (is.getD i 0<is.getD j 0)
theorem zu1 (is:List Int):So.Ord (ltI is):=⟨fun a b h=>by
  unfold ltI at h ⊢
  simp at h ⊢
  omega,fun a b c h1 h2=>by
  unfold ltI at h1 h2 ⊢
  simp at h1 h2 ⊢
  omega⟩
theorem zjO:∀ {is:List Int} {us:List Value},za7 (is.map V.int) us->IntsAre us is
 | [],_,.nil=>.nil
 | i :: is,_,.cons r t=>by
  obtain ⟨tk,rfl⟩:=r; exact .cons i tk (zjO t)
theorem zvx (is:List Int) {H:Hp}:zkT X (is.map V.int) H (ltI is):=by
 intro A' pins σ s kss I r h2; rw [yD] at h2; have hi:=zjO r
 have hl:kss.length=is.length:=by have:=r.length; simpa using this.symm
 rw [ksk_kind (keys:=kss.toArray) (kz:=is) (by simpa using hi) (by rw [yO]; omega)]
 refine yE ⟨I,fun i j C s'' h1 h2 I2 hC=>?_⟩
 rw [yD] at h1 h2; unfold kas_ask
 have g:∀ i,i<is.length->∃ t,kss.getD i Value.none=.int (is.getD i 0) t:=fun i h=>by
  have:=zhX r i (by rw [yD]; exact h)
  rw [show (is.map V.int).getD i .non=V.int (is.getD i 0) by simp [List.getD,yL,yC h]] at this
  exact this
 obtain ⟨t1,e1⟩:=g i h1; obtain ⟨t2,e2⟩:=g j h2; rw [e1,e2]; exact kat_lt_int (hC _ I2)
def ltP (ps:List (Int × List Nat)):Nat->Nat->Bool:=fun i j=>decide ((ps.getD i (0,[])).1<(ps.getD j (0,[])).1\/((ps.getD i (0,[])).1=(ps.getD j (0,[])).1/\(ps.getD i (0,[])).2<(ps.getD j (0,[])).2))
theorem ziH (ps:List (Int × List Nat)):So.Ord (ltP ps):=⟨fun a b h=>by
  unfold ltP at h ⊢
  simp only [yk,decide_eq_false_iff_not] at h ⊢; generalize ps.getD a (0,[])=x at h ⊢; generalize ps.getD b (0,[])=y at h ⊢
  rintro (h' | ⟨h',h''⟩)
  ·rcases h with h | ⟨h,_⟩ <;> omega
  ·rcases h with h | ⟨_,h⟩
   ·omega
   ·exact List.lt_irrefl _ (List.lt_trans h h''),fun a b c h1 h2=>by
  unfold ltP at h1 h2 ⊢
  simp only [decide_eq_false_iff_not,not_or,not_and] at h1 h2 ⊢; generalize ps.getD a (0,[])=x at h1 h2 ⊢; generalize ps.getD b (0,[])=y at h1 h2 ⊢; generalize ps.getD c (0,[])=z at h1 h2 ⊢
  refine ⟨by omega,fun e=>?_⟩
  have e1:y.1=x.1:=by omega
  have e2:z.1=y.1:=by omega
  have q1:=h1.2 e1; have q2:=h2.2 e2; intro q; rw [List.not_lt] at q1 q2; exact yM q (List.not_lt.mpr (List.le_trans q1 q2))⟩
def zrU (H:Hp):List Addr->List (Int × List Nat)->Prop:=Paired fun a p=>H a=some (.tup [.int p.1,.str (st p.2)])
theorem ziW {s:Shared} {pins:List (Addr × Obj)} {σ:St} {H:Hp} (I:Inv X pins σ H s) {a:Addr} {p:Int × List Nat} (h:H a=some (.tup [.int p.1,.str (st p.2)])) :
  ∃ o n t1 t2,s.heap.get? a=some o/\o.cls=.type "tuple"/\o.data=.seq (List.toArray [Value.int p.1 t1,Value.str (st p.2) t2]) n:=by
 obtain ⟨its,r,⟨o,e,c,n,d⟩,_⟩:=I.tuple (SqT.of h)
 obtain ⟨u,w',rfl,r1,r2⟩:=znc r; obtain ⟨t1,rfl⟩:=r1; obtain ⟨t2,rfl⟩:=r2; exact ⟨o,n,t1,t2,e,c,d⟩
theorem ztc {s:Shared} {pins:List (Addr × Obj)} {σ:St} {H:Hp} (I:Inv X pins σ H s):∀ {as:List Addr} {ps:List (Int × List Nat)},zrU H as ps->∃ fs:List Value,fs.length=as.length/\KatTups s.heap (as.map Value.ref) fs/\∀ v,v ∈ fs->∃ i t,v=Value.int i t
 | [],[],_=>⟨[],rfl,trivial,fun _ z=>by simp at z⟩
 | a :: as,p :: ps,.cons h t=>by
  obtain ⟨fs,hl,kt,hf⟩:=ztc I t; obtain ⟨o,n,t1,t2,e,c,d⟩:=ziW I h
  refine ⟨.int p.1 t1 :: fs,by simp [hl],KatTups.cons e c d rfl kt,fun v hv=>?_⟩
  rcases yJ.mp hv with rfl | hv
  ·exact ⟨_,_,rfl⟩
  ·exact hf v hv
theorem zjt:∀ {as:List Addr} {us:List Value},za7 (as.map V.ref) us->us=as.map Value.ref
 | [],_,.nil=>rfl
 | a :: as,_,.cons r t=>by rw [zjt t]; cases r; rfl
theorem zg2 {H:Hp}:∀ {as:List Addr} {ps:List (Int × List Nat)} (i:Nat),zrU H as ps->i<as.length->H (as.getD i 0)=some (.tup [.int (ps.getD i (0,[])).1,.str (st (ps.getD i (0,[])).2)])
 | _ :: _,_ :: _,0,.cons h _,_=>h
 | _ :: _,_ :: _,i+1,.cons _ t,hi=>by
  have:=zg2 i t (by simpa using hi)
  simpa using this
theorem zvw {H:Hp} {as:List Addr} {ps:List (Int × List Nat)} (k:zrU H as ps):zkT X (as.map V.ref) H (ltP ps):=by
 intro A' pins σ s kss I r h2; rw [yD] at h2; have e:=zjt r; subst e; obtain ⟨fs,hl,kt,hf⟩:=ztc I k
 refine kat_kind (T:=.type "int") kt (by omega) (fun v hv=>?_) rfl ⟨I,fun i j C s'' h1 h2 I2 hC=>?_⟩
 ·obtain ⟨i,t,rfl⟩:=hf v hv
  exact Looks.of_pure rfl
 ·rw [yD] at h1 h2
  unfold kas_ask
  have g:∀ i,i<as.length->(as.map Value.ref).getD i Value.none=.ref (as.getD i 0):=fun i h=>by simp [List.getD,yL,yC h]
  rw [g i h1,g j h2]; obtain ⟨o,n,t1,t2,e1,c1,d1⟩:=ziW I2 (zg2 i k h1); obtain ⟨o',n',t1',t2',e1',c1',d1'⟩:=ziW I2 (zg2 j k h2); unfold ltP at hC; generalize ps.getD i (0,[])=p at *; generalize ps.getD j (0,[])=q at *; refine kat_lt e1 d1 e1' d1' ?_; refine kat_cons (wpAny_eqBool_int ?_)
  refine kat_go (fun he=>kat_yes (kat_cons (wpAny_eqBool_str (kat_go (fun he2=>kat_yes (kat_nil ?_)) fun he2=>kat_no ?_)))) fun he=>kat_no ?_
  ·have e1:p.1=q.1:=by simpa using he
   have e2:st p.2=st q.2:=by simpa using he2
   have e3:p.2=q.2:=by rw [<- zaW p.2,e2,zaW]
   have hz:=hC _ I2
   rw [show decide (p.1<q.1\/p.1=q.1/\p.2<q.2)=false by rw [e1,e3]; simp] at hz
   exact hz
  ·have e1:p.1=q.1:=by simpa using he
   have hz:=hC _ I2; refine kat_one _ _ (lt_str ?_)
   show C (decide ((st p.2).cps.toList<(st q.2).cps.toList)) s''
   simp only [zaW]
   rw [show decide (p.1<q.1\/p.1=q.1/\p.2<q.2)=decide (p.2<q.2) by rw [e1]; simp] at hz
   exact hz
  ·have e1:¬ p.1=q.1:=by simpa using he
   have hz:=hC _ I2; refine oneLt_int ?_
   rw [show decide (p.1<q.1\/p.1=q.1/\p.2<q.2)=decide (p.1<q.1) by simp [e1]] at hz
   exact hz
def zr6 (K:W.Frag) (X:Cx) (sp:Sp) (t:TA):TE:=fun σ H Q=>t σ H fun vs H1=>∃ l xs,vs=[.ref l]/\SqL K H1 l xs/\xs.length<64/\zrT sp (fun ks H'=>∃ lt,So.Ord lt/\zkT X ks H' lt/\∀ p,H' p=none->Q (.ref p) (upd H' p (.lst (zeU lt xs)))) xs [] H1
theorem znZ {k:Nat} {f:Addr} {fd:FuncData} {ps:List Str} {sp:Sp} {x:Str} {e:Expr} {t:TA} {p q kpos pos:Pos} (F:FnOk X.prog X.w X.K X.mg X.base CX0 k f fd ps sp) (hr:Room (k+2) X.A) (hb:zd2 X.K fd ps []) (hmf:X.mg x=some (.ref f)) (hm:X.mg "sorted"=none) (ha:PA X [e] t)
  (hgs:Gl X "sorted":=by rfl) (hg:Gl X x:=by rfl) (hdb:(x == ("__debug__":Str))=false:=by decide)
  (he:backTo pos (starEach [e] X.env)=(false,eval e X.env) :: backTo pos (starEach [] X.env):=by rfl)
  (hplain:(backTo pos (starEach [e] X.env)).any (·.1)=false:=by rfl) :
  PE X (.Call (.Name "sorted" p) [e] [⟨some "key",.Name x q,kpos⟩] pos) (zr6 X.K X sp t):=by
 intro pins s σ H Q I h; refine Ys (zcA I hgs hm boot_sorted ?_)
 refine callWith_kw (thn (ha pos pins s σ H _ I h) fun us s1 ⟨vs,H1,I1,r,q⟩=>?_) he hplain rfl rfl
 obtain ⟨l,xs,rfl,hl,h64,hk⟩:=q; obtain ⟨u,rfl,ru⟩:=zcX r; cases ru
 refine thn (zqu (nm:=some "key") (kpos:=kpos) (zlJ (v:=.ref f) hg hmf rfl hdb) zsA pos pins s1 σ H1 (fun zs H2=>zs=[.ref f]/\H2=H1) I1 ⟨rfl,rfl⟩) fun ws s2 ⟨zs,H2,I2,rz,e1,e2⟩=>?_
 subst e1 e2
 obtain ⟨w',rfl,rw'⟩:=zcX rz; cases rw'; exact zid F hr hb I2 hl h64 hk
end
end L2
namespace PL
open PySem L2
def zvI (ks:List D) (lt:Nat->Nat->Bool):Prop:=(∃ is:List Int,ks=is.map .int/\lt=ltI is)\/∃ ps:List (Int × List Nat),ks=ps.map (fun p=>.tup [.int p.1,.str p.2])/\lt=ltP ps
def zke (lt:Nat->Nat->Bool) (ds:List D):List D:=if ds.length<2 then ds else (So.run lt (W.kas_sort ds.length)).toList.map fun i=>ds.getD i .non
theorem zvI.ord {ks:List D} {lt:Nat->Nat->Bool} (h:zvI ks lt):So.Ord lt:=by
 rcases h with ⟨is,_,rfl⟩ | ⟨ps,_,rfl⟩
 ·exact zu1 is
 ·exact ziH ps
theorem zh4 {K:W.Frag} {H:Hp}:∀ {vs:List V} {is:List Int},zbC K H vs (is.map .int)->vs=is.map V.int
 | [],[],_=>rfl
 | v :: vs,i :: is,.cons r t=>by rw [r.intI,zh4 t]; rfl
 | [],_ :: _,h=>nomatch h
 | _ :: _,[],h=>nomatch h
theorem zh3 {K:W.Frag} {H:Hp}:∀ {vs:List V} {ps:List (Int × List Nat)},zbC K H vs (ps.map fun p=>.tup [.int p.1,.str p.2])->∃ as:List Addr,vs=as.map V.ref/\zrU H as ps
 | [],[],_=>⟨[],rfl,.nil⟩
 | v :: vs,p :: ps,.cons r t=>by
  obtain ⟨as,rfl,k⟩:=zh3 t; obtain ⟨a,us,rfl,ha,dl⟩:=r.tupJ; obtain ⟨v1,v2,rfl,d1,d2⟩:=zi3 dl; rw [d1.intI,d2.strI] at ha; exact ⟨a :: as,rfl,.cons ha k⟩
 | [],_ :: _,h=>nomatch h
 | _ :: _,[],h=>nomatch h
theorem zhT {H H':Hp} (e:zaS H H'):∀ {as:List Addr} {ps:List (Int × List Nat)},zrU H as ps->zrU H' as ps
 | _,_,.nil=>.nil
 | _,_,.cons h t=>.cons (e _ _ h) (zhT e t)
theorem zoO {K:W.Frag} {H:Hp} {vs:List V} {ds:List D} (h:zbC K H vs ds) (i:Nat) (hi:i<vs.length):Den K H (vs.getD i .non) (ds.getD i .non):=by
 have hl:=zk h
 have:=paired_get i h (yC hi) (yC (by omega:i<ds.length))
 simpa [List.getD,yC hi,yC (by omega:i<ds.length)] using this
theorem zmr {K:W.Frag} {H:Hp} {vs:List V} {ds:List D} (h:zbC K H vs ds):∀ (l:List Nat),(∀ i,i ∈ l->i<vs.length)->zbC K H (l.map fun i=>vs.getD i .non) (l.map fun i=>ds.getD i .non)
 | [],_=>.nil
 | i :: l,q=>.cons (zoO h i (q i (by simp))) (zmr h l fun j hj=>q j (by simp [hj]))
theorem znq {K:W.Frag} {H:Hp} {lt:Nat->Nat->Bool} (o:So.Ord lt) {vs:List V} {ds:List D} (h:zbC K H vs ds):zbC K H (zeU lt vs) (zke lt ds):=by
 have hl:=zk h; unfold zeU zke; rw [hl]; split
 ·exact h
 ·rename_i hn
  exact zmr h _ fun i hi=>by rw [hl]; exact (zgx o (by omega)).2 i hi
section
variable {X:Cx}
def zq (sp:Sp') (t:TA'):TO':=fun Γ Q=>t Γ fun as Γ1=>∃ ds ks lt,as=[.lst ds]/\ds.length<64/\ks.length=ds.length/\(∀ (i:Nat) x k,ds[i]?=some x->ks[i]?=some k->sp [x] fun r=>r=.val k)/\zvI ks lt/\Q (.lst (zke lt ds)) Γ1
theorem zjL {K:W.Frag} {sp:Sp'} {Fin:List V->Hp->Prop} {Hi1 H1:Hp}:∀ (r:List V) (rd kd:List D) (acc:List V) (accD:List D) (Hi H:Hp),Ext Hi1 H1 Hi H->zbC K Hi r rd->kd.length=rd.length->(∀ (i:Nat) x k,rd[i]?=some x->kd[i]?=some k->sp [x] fun r=>r=.val k)->zbC K Hi acc accD ->
  (∀ acc Hi H,Ext Hi1 H1 Hi H->zbC K Hi acc (accD ++ kd)->Fin acc H)->zrT (zno K sp) Fin r acc H
 | [],[],kd,acc,accD,Hi,H,ex,_,hl,_,da,fin=>by
  have:kd=[]:=List.length_eq_zero_iff.mp (by simpa using hl)
  subst this
  exact fin acc Hi H ex (by rw [YG]; exact da)
 | v :: r,d :: rd,k :: kd,acc,accD,Hi,H,ex,.cons d1 t,hl,hsp,da,fin=>by
  refine ⟨Hi,[d],fun r=>r=.val k,ex.fz,.cons d1 .nil,hsp 0 d k rfl rfl,fun Hi' H' v' r' e2 ro hq=>?_⟩
  subst hq
  refine zjL r rd kd (acc ++ [v']) (accD ++ [k]) Hi' H' (ex.trans e2) (zbC.mono t e2.hi) (by simpa using hl) (fun i x k h1 h2=>hsp (i+1) x k (by simpa using h1) (by simpa using h2)) (paired_app (da.mono e2.hi) (.cons ro .nil)) fun acc Hi H e3 da=>?_
  exact fin acc Hi H e3 (by simpa using da)
 | [],_ :: _,_,_,_,_,_,_,h,_,_,_,_=>nomatch h
 | _ :: _,[],_,_,_,_,_,_,h,_,_,_,_=>nomatch h
 | _ :: _,_ :: _,[],_,_,_,_,_,_,hl,_,_,_=>by simp at hl
theorem znS {k:Nat} {x:Str} {ps:List Str} {sp:Sp'} {e:Expr} {t:TA'} {p q kpos pos:Pos} (G:Fn X.prog X.w X.K X.mg X.base k x ps sp) (hr:Room (k+2) X.A) (hm:X.mg "sorted"=none) (ha:PA' X [e] t)
  (hgs:Gl X "sorted":=by rfl) (hg:Gl X x:=by rfl) (hdb:(x == ("__debug__":Str))=false:=by decide)
  (he:backTo pos (starEach [e] X.env)=(false,eval e X.env) :: backTo pos (starEach [] X.env):=by rfl) (hplain:(backTo pos (starEach [e] X.env)).any (·.1)=false:=by rfl) :
  PO' X (.Call (.Name "sorted" p) [e] [⟨some "key",.Name x q,kpos⟩] pos) (zq sp t):=by
 obtain ⟨f,fd,F,b,kp,m,_⟩:=G.ex; refine ⟨PE.weak (znZ F hr b m hm ha.pa hgs hg hdb he hplain) ?_⟩
 rintro σ H Q ⟨W,Hi,Γ,Q',g,h,fin⟩
 refine ⟨W,Hi,Γ,_,g,h,?_⟩
 rintro vs H1 Hi1 Γ1 as s1 g1 dl ⟨ds,ks,lt,rfl,h64,hkl,hsp,hkd,q⟩
 obtain ⟨v,rfl,den⟩:=zdi dl; obtain ⟨l,xs,rfl,hl,dx⟩:=den.lstI
 refine ⟨l,xs,rfl,zak g1.sub hl,by rw [zk dx]; exact h64,?_⟩
 refine zjL xs ds ks [] [] Hi1 H1 (Ext.refl g1.fz) dx hkl hsp .nil fun acc Hi2 H2 ex da=>?_
 rw [JI] at da
 refine ⟨lt,hkd.ord,?_,fun p hp=>?_⟩
 ·rcases hkd with ⟨is,rfl,rfl⟩ | ⟨ps,rfl,rfl⟩
  ·rw [zh4 da]
   exact zvx is
  ·obtain ⟨as,rfl,kt⟩:=zh3 da
   exact zvw (zhT ex.fz.sub kt)
 ·have g2:=g1.ext ex
  exact fin p _ Hi2 Γ1 (.lst (zke lt ds)) (s1.trans ex.hi) (g2.ext (Ext.newO g2.fz hp _ (fun _ z=>by cases z))) (New.mk' g2 hp ⟨_,zv,znq hkd.ord (dx.mono ex.hi)⟩) q
end
end PL
namespace L2
open PySem PySem.Spec PyProof.Rows
section
variable {P:Program} {w:World} {K:PySem.W.Frag} {mg:Str->Option Value} {base:Heap}
end
section
variable {X:Cx} {pins:List (Addr × Obj)} {σ:St} {H:Hp} {s:Shared}
end
section
variable {X:Cx}
end
end L2
namespace PL
open PySem L2
section
variable {P:Program} {w:World} {K:PySem.W.Frag} {mg:Str->Option Value} {base:Heap}
end
section
variable {X:Cx}
end
end PL
namespace L2
open PySem PySem.Spec PyProof.Rows
end L2
namespace PL
open PySem L2
section
variable {P:Program} {w:World} {K:PySem.W.Frag} {mg:Str->Option Value} {base:Heap} {k:Nat} {x qual:Str} {ps:List Str} {sp:Sp'}
end
section
variable {X:Cx} {pos:Pos}
end
end PL
namespace MS
open PySem L2 PL
theorem zl8:∀ (N:Nat) (l:List Nat),l.Nodup->(∀ x,x ∈ l->x<N)->l.length<=N
 | 0,l,_,h=>by
  cases l with
  | nil=>simp
  | cons a r=>exact yM (h a (by simp)) (by omega)
 | N+1,l,hd,h=>by
  by_cases e:N ∈ l
  ·have:=zl8 N (l.erase N) (hd.erase N) fun x hx=>by
    have h1:=h x (List.mem_of_mem_erase hx)
    have h2:x≠N:=fun z=>by rw [z] at hx; exact (hd.not_mem_erase) hx
    omega
   rw [List.length_erase_of_mem e] at this; omega
  ·have:=zl8 N l hd fun x hx=>by
    have h1:=h x hx
    have h2:x≠N:=fun z=>e (z ▸ hx)
    omega
   omega
theorem ztx:∀ (N:Nat) (l:List Nat),l.Nodup->(∀ x,x ∈ l->x<N)->l.length=N->∀ i,i<N->i ∈ l
 | 0,_,_,_,_,i,hi=>yM hi (by omega)
 | N+1,l,hd,h,hl,i,hi=>by
  by_cases e:N ∈ l
  ·by_cases z:i=N
   ·rw [z]; exact e
   ·refine List.mem_of_mem_erase (ztx N (l.erase N) (hd.erase N) (fun x hx=>?_) (by rw [List.length_erase_of_mem e]; omega) i (by omega))
    have h1:=h x (List.mem_of_mem_erase hx)
    have h2:x≠N:=fun z=>by rw [z] at hx; exact (hd.not_mem_erase) hx
    omega
  ·have:=zl8 N l hd fun x hx=>by
    have h1:=h x hx
    have h2:x≠N:=fun z=>e (z ▸ hx)
    omega
   omega
theorem irr {lt:Nat->Nat->Bool} (o:So.Ord lt) {a:Nat} (h:So.L lt a a):False:=by
 rcases h with h | ⟨_,h⟩
 ·have:=o.asym a a h
  rw [h] at this; cases this
 ·omega
theorem zdf {lt:Nat->Nat->Bool} (o:So.Ord lt) {N:Nat} (hN:1<=N):(So.run lt (W.kas_sort N)).toList.Nodup/\(So.run lt (W.kas_sort N)).toList.length=N/\(∀ i,i ∈ (So.run lt (W.kas_sort N)).toList↔i<N):=by
 obtain ⟨b,s⟩:=So.sort o hN
 have hl:(So.run lt (W.kas_sort N)).toList.length=N:=by rw [YI]; exact b.size
 have lo:=(zgx o hN).2
 have gg:∀ i (hi:i<(So.run lt (W.kas_sort N)).toList.length),So.g (So.run lt (W.kas_sort N)) i=(So.run lt (W.kas_sort N)).toList[i]:=fun i hi=>by
  rw [So.g_eq]
  have hi':i<(So.run lt (W.kas_sort N)).size:=by simpa using hi
  rw [yn hi']; simp
 have nd:(So.run lt (W.kas_sort N)).toList.Nodup:=by
  rw [List.nodup_iff_pairwise_ne,List.pairwise_iff_getElem]; intro i j hi hj hij e
  have z:=s i j hij (by omega)
  rw [gg i hi,gg j hj,e] at z; exact irr o z
 exact ⟨nd,hl,fun i=>⟨lo i,ztx N _ nd lo hl i⟩⟩
section
variable {α:Type} {lt:Nat->Nat->Bool}
def srt (lt:Nat->Nat->Bool) (d:α) (ps:List α):List α:=if ps.length<2 then ps else (So.run lt (W.kas_sort ps.length)).toList.map fun i=>ps.getD i d
theorem zp2 (o:So.Ord lt) (d:α) (ps:List α) (q:α):q ∈ srt lt d ps↔q ∈ ps:=by
 unfold srt; split
 ·rfl
 ·rename_i h
  obtain ⟨_,_,m⟩:=zdf o (N:=ps.length) (by omega)
  rw [yT]; constructor
  ·rintro ⟨i,hi,rfl⟩
   have hi':=(m i).mp hi; simp only [List.getD,yC hi',JD]; exact Ye hi'
  ·intro hq
   obtain ⟨i,hi,e⟩:=List.getElem_of_mem hq
   exact ⟨i,(m i).mpr hi,by simp only [List.getD,yC hi,JD]; exact e⟩
theorem zlb (o:So.Ord lt) (d:α) (ps:List α):(srt lt d ps).length=ps.length:=by
 unfold srt; split
 ·rfl
 ·rename_i h
  obtain ⟨_,hl,_⟩:=zdf o (N:=ps.length) (by omega)
  rw [yD,hl]
theorem zla (o:So.Ord lt) (d:α) {ps:List α} (hd:ps.Nodup):(srt lt d ps).Nodup:=by
 unfold srt; split
 ·exact hd
 ·rename_i h
  obtain ⟨nd,_,m⟩:=zdf o (N:=ps.length) (by omega)
  rw [List.nodup_iff_pairwise_ne,List.pairwise_map]; refine List.Pairwise.imp_of_mem ?_ (List.nodup_iff_pairwise_ne.mp nd); intro i j hi hj hij e; have hi':=(m i).mp hi; have hj':=(m j).mp hj; simp only [List.getD,yC hi',yC hj',JD] at e; exact hij ((List.getElem_inj hd).mp e)
theorem zp3 (f:α->D) (d:α) (ps:List α) (o:So.Ord lt):zke lt (ps.map f)=(srt lt d ps).map f:=by
 unfold zke srt; rw [yD]; split
 ·rfl
 ·rename_i h
  obtain ⟨_,_,m⟩:=zdf o (N:=ps.length) (by omega)
  rw [yt]
  refine YC fun i hi=>?_
  have hi':=(m i).mp hi; simp [List.getD,yC hi']
end
end MS
namespace M04
open PySem L2 Lb PL MT MS
abbrev Nd:=List (Pl × Pl)
def keys (ns:Nd):List Pl:=ns.map (·.1)
structure NOk (ns:Nd):Prop where
 nil:[] ∈ keys ns
 nd:(keys ns).Nodup
 len:∀ q,q ∈ keys ns->q.length<=8
 up:∀ q,q ∈ keys ns->q.dropLast ∈ keys ns
 lab:∀ q,q ∈ keys ns->∀ l,l ∈ q->zY l=true
 many:ns.length<=60
def zbH (q:Pl):List Nat:=q.getLast?.getD []
def zde (l:List Nat):Int × List Nat:=((PySem.intText? (st (cut l))).getD 0,zd4 l)
def zvi (q:Pl):Int × List Nat:=zde (zbH q)
def zcB (ns:Nd) (p:Pl):List Pl:=(keys ns).filter fun q=>decide (q.length=p.length+1) && decide (q.dropLast=p)
def zbL (ns:Nd) (p:Pl):List Pl:=srt (ltP ((zcB ns p).map zvi)) [] (zcB ns p)
def zdM (ns:Nd) (p:Pl):Pl:=(ns.lookup p).getD []
theorem zeL (p:Pl) (l:List Nat):zbH (p ++ [l])=l:=by simp [zbH]
theorem zp5 {p q:Pl} (h1:q.length=p.length+1) (h2:q.dropLast=p):q=p ++ [zbH q]:=by
 have hne:q≠[]:=fun z=>by rw [z] at h1; simp at h1
 rw [<- h2]; unfold zbH; rw [List.getLast?_eq_some_getLast hne]; exact (List.dropLast_concat_getLast hne).symm
theorem zfy {ns:Nd} {p q:Pl}:q ∈ zcB ns p↔q ∈ keys ns/\q=p ++ [zbH q]:=by
 unfold zcB; rw [List.mem_filter]; simp only [yX,yk]; constructor
 ·rintro ⟨h,h1,h2⟩
  exact ⟨h,zp5 h1 h2⟩
 ·rintro ⟨h,e⟩
  refine ⟨h,?_,?_⟩
  ·rw [e]; simp
  ·rw [e]; simp
theorem zbx {ns:Nd} {p q:Pl}:q ∈ zbL ns p↔q ∈ keys ns/\q=p ++ [zbH q]:=by
 unfold zbL; rw [zp2 (ziH _),zfy]
theorem zkE {ns:Nd} (o:NOk ns) (p:Pl):(zbL ns p).Nodup:=zla (ziH _) _ (o.nd.sublist List.filter_sublist)
def zaR:Nat->Nd->Pl->Tr
 | 0,ns,p=>.node (zbH p) (zdM ns p) []
 | n+1,ns,p=>.node (zbH p) (zdM ns p) ((zbL ns p).map (zaR n ns))
theorem zdo (n:Nat) (ns:Nd) (p:Pl):(zaR n ns p).lab=zbH p:=by cases n <;> rfl
def zdD:Nat->Nd->Pl->List Pl
 | 0,_,p=>[p]
 | n+1,ns,p=>p :: (zbL ns p).flatMap (zdD n ns)
mutual
def zdV:Tr->Pl->List Pl
 | .node _ _ ks,p=>p :: zdU ks p
def zdU:List Tr->Pl->List Pl
 | [],_=>[]
 | k :: ks,p=>zdV k (p ++ [k.lab]) ++ zdU ks p
end
theorem zjB (p:Pl):∀ ks:List Tr,zdU ks p=ks.flatMap fun k=>zdV k (p ++ [k.lab])
 | []=>by simp [zdU]
 | k :: ks=>by simp [zdU,zjB p ks]
theorem zfq (t:Tr) (p:Pl):zdV t p=p :: t.kds.flatMap fun k=>zdV k (p ++ [k.lab]):=by
 cases t with
 | node l ws ks=>simp [zdV,zjB,Tr.kds]
theorem zf3 {α β:Type} {l:List α} {f g:α->List β} (h:∀ a,a ∈ l->f a=g a):l.flatMap f=l.flatMap g:=by
 induction l with
 | nil=>rfl
 | cons a l ih =>
  rw [List.flatMap_cons,List.flatMap_cons,h a (by simp),ih fun b hb=>h b (by simp [hb])]
theorem zgO (ns:Nd):∀ (n:Nat) (p:Pl),zdV (zaR n ns p) p=zdD n ns p
 | 0,p=>by simp [zaR,zdV,zdU,zdD]
 | n+1,p=>by
  rw [zfq]
  show p :: ((zbL ns p).map (zaR n ns)).flatMap _=p :: _
  rw [List.flatMap_map]
  congr 1
  refine zf3 fun q hq=>?_
  have e:=(zbx.mp hq).2; rw [zdo,<- e]; exact zgO ns n q
theorem zdd {ns:Nd} (o:NOk ns) {p:Pl} (h:8<=p.length):zbL ns p=[]:=by
 rw [List.eq_nil_iff_forall_not_mem]; intro q hq; obtain ⟨h1,h2⟩:=zbx.mp hq
 have:=o.len q h1
 rw [h2] at this
 simp at this
 omega
theorem nodup_len {α:Type} [DecidableEq α]:∀ (l ks:List α),l.Nodup->(∀ x,x ∈ l->x ∈ ks)->l.length<=ks.length
 | [],_,_,_=>by simp
 | a :: l,ks,hd,h=>by
  have ha:=h a (by simp)
  have hd':=YD.mp hd
  have:=nodup_len l (ks.erase a) hd'.2 fun x hx=>(List.mem_erase_of_ne (show x≠a from fun z=>hd'.1 (by rw [<- z]; exact hx))).mpr (h x (by simp [hx]))
  rw [List.length_erase_of_mem ha] at this
  have:0<ks.length:=List.length_pos_of_mem ha
  simp only [yg]; omega
theorem zgi {α β:Type} {f:α->List β}:∀ {l:List α},l.Nodup->(∀ a,a ∈ l->(f a).Nodup)->(∀ a b x,a ∈ l->b ∈ l->x ∈ f a->x ∈ f b->a=b)->(l.flatMap f).Nodup
 | [],_,_,_=>by simp
 | a :: l,hd,h1,h2=>by
  have hd':=YD.mp hd; rw [List.flatMap_cons,JA]
  refine ⟨h1 a (by simp),zgi hd'.2 (fun b hb=>h1 b (by simp [hb])) (fun b c x hb hc=>h2 b c x (by simp [hb]) (by simp [hc])),fun x hx y hy e=>?_⟩
  subst e; obtain ⟨b,hb,hy⟩:=List.mem_flatMap.mp hy
  have:=h2 a b x (by simp) (by simp [hb]) hx hy
  exact hd'.1 (this ▸ hb)
theorem zdA {ns:Nd}:∀ (n:Nat) (p q:Pl),p ∈ keys ns->q ∈ zdD n ns p->q ∈ keys ns/\p <+: q
 | 0,p,q,hp,h=>by
  have:q=p:=by simpa [zdD] using h
  rw [this]; exact ⟨hp,List.prefix_refl _⟩
 | n+1,p,q,hp,h=>by
  rcases yJ.mp h with rfl | h
  ·exact ⟨hp,List.prefix_refl _⟩
  ·obtain ⟨c,hc,h⟩:=List.mem_flatMap.mp h
   obtain ⟨h1,h2⟩:=zbx.mp hc; obtain ⟨h3,h4⟩:=zdA n c q h1 h
   have h5:p <+: c:=by rw [h2]; exact List.prefix_append _ _
   exact ⟨h3,h5.trans h4⟩
theorem znR {c d q:Pl} (h1:c <+: q) (h2:d <+: q) (h:c.length=d.length):c=d:=by
 rw [List.prefix_iff_eq_take.mp h1,List.prefix_iff_eq_take.mp h2,h]
theorem zd1 {ns:Nd} {p q:Pl} (h:q ∈ zbL ns p):q.length=p.length+1:=by
 have:=(zbx.mp h).2
 rw [this]; simp
theorem zet {ns:Nd} (o:NOk ns):∀ (n:Nat) (p:Pl),(zdD n ns p).Nodup
 | 0,p=>by simp [zdD]
 | n+1,p=>by
  show (p :: _).Nodup
  rw [YD]
  refine ⟨fun h=>?_,zgi (zkE o p) (fun c _=>zet o n c) fun c d q hc hd h1 h2=>?_⟩
  ·obtain ⟨c,hc,h⟩:=List.mem_flatMap.mp h
   have h4:=(zdA n c p (zbx.mp hc).1 h).2.length_le
   have:=zd1 hc
   omega
  ·exact znR (zdA n c q (zbx.mp hc).1 h1).2 (zdA n d q (zbx.mp hd).1 h2).2 (by rw [zd1 hc,zd1 hd])
theorem znb {ns:Nd} (o:NOk ns) (n:Nat) {p:Pl} (hp:p ∈ keys ns):(zdD n ns p).length<=60:=by
 have:=nodup_len (zdD n ns p) (keys ns) (zet o n p) fun q hq=>(zdA n p q hp hq).1
 have h:=o.many; unfold keys at this; rw [yD] at this; omega
end M04
namespace PySem
section
variable {prog:Program} {w:World} {A:Around} {E:Value->Shared->Prop} {s:Shared} {dd:Addr} {ob:Obj} {ens:Array DictEntry} {tick:Nat}
open PyProof.Rows in
end
end PySem
namespace L2
open PySem PySem.Spec PyProof.Rows PySem.W
section
variable {X:Cx} {pins:List (Addr × Obj)} {σ:St} {H:Hp} {s:Shared} {a:Addr}
end
section
variable {X:Cx} {o e f:Expr} {apos cpos:Pos} {td ty tx:TE}
end
section
variable {X:Cx} {pins:List (Addr × Obj)} {σ:St} {H:Hp} {s:Shared} {h':Heap}
end
end L2
namespace PL
open PySem L2
section
variable {X:Cx}
end
end PL
namespace M70
open PySem L2 Lb PL MT MS M04
open PySem.NumText (digitsVal)
theorem zi2 (l:List Nat) (c:Nat):digitsVal (l ++ [c])=digitsVal l * 10+(c-48):=by simp [digitsVal,JK]
theorem zjV:∀ (n:Nat) {l:List Nat},l.length<=n->(∀ c ∈ l,Dig c)->l≠[]->l[0]?≠some 48->1<=digitsVal l
 | 0,l,hl,_,hn,_=>yM (List.length_eq_zero_iff.mp (by omega)) hn
 | n+1,l,hl,hd,hn,h0=>by
  rcases List.eq_nil_or_concat l with e | ⟨l',c,e⟩
  ·exact yM e hn
  ·rw [List.concat_eq_append] at e
   subst e; rw [zi2]
   by_cases z:l'=[]
   ·subst z
    have:=hd c (by simp)
    have:c≠48:=fun e=>h0 (by simp [e])
    unfold Dig at *
    simp [digitsVal]; omega
   ·have:=zjV n (l:=l') (by simp at hl; omega) (fun c hc=>hd c (by simp [hc])) z (by
     rw [Yc (by cases l' with | nil=>exact yM rfl z | cons _ _=>simp)] at h0
     exact h0)
    omega
theorem ztt:∀ (n:Nat) {l m:List Nat},l.length<=n->(∀ c ∈ l,Dig c)->(∀ c ∈ m,Dig c)->l[0]?≠some 48->m[0]?≠some 48->digitsVal l=digitsVal m->l=m:=by
 intro n
 induction n with
 | zero =>
  intro l m hl h1 h2 h3 h4 e
  have:l=[]:=List.length_eq_zero_iff.mp (by omega)
  subst this
  by_cases z:m=[]
  ·rw [z]
  ·have:=zjV _ (yG _) h2 z h4
   rw [<- e] at this; simp [digitsVal] at this
 | succ n ih =>
  intro l m hl h1 h2 h3 h4 e
  rcases List.eq_nil_or_concat l with z | ⟨l',c,z⟩
  ·subst z
   by_cases z:m=[]
   ·rw [z]
   ·have:=zjV _ (yG _) h2 z h4
    rw [<- e] at this; simp [digitsVal] at this
  ·rcases List.eq_nil_or_concat m with y | ⟨m',d,y⟩
   ·subst y
    have:=zjV _ (yG _) h1 (by rw [z]; simp) h3
    rw [e] at this; simp [digitsVal] at this
   ·rw [List.concat_eq_append] at z y
    subst z y
    rw [zi2,zi2] at e
    have hc:=h1 c (by simp)
    have hd:=h2 d (by simp)
    unfold Dig at hc hd
    have e1:digitsVal l'=digitsVal m':=by omega
    have e2:c=d:=by omega
    have hd:∀ (a:List Nat) (x:Nat),(a ++ [x])[0]?≠some 48->a[0]?≠some 48:=fun a x h=>by
     cases a with
     | nil=>simp
     | cons y r=>simpa using h
    rw [ih (by simp at hl; omega) (fun x hx=>h1 x (by simp [hx])) (fun x hx=>h2 x (by simp [hx])) (hd _ _ h3) (hd _ _ h4) e1,e2]
theorem zh6 {l:List Nat} (h:zY l=true):(∀ c ∈ cut l,Dig c)/\(cut l)[0]?≠some 48/\PySem.intText? (st (cut l))=some ((digitsVal (cut l):Nat):Int):=by
 unfold zY at h; simp only [yX,yk,yY] at h
 obtain ⟨⟨⟨⟨a1,a2⟩,b⟩,c⟩,d⟩:=h
 have hd:∀ x ∈ cut l,Dig x:=fun x hx=>(ze1 x).mp (by simpa [dig] using c x hx)
 refine ⟨hd,b,?_⟩
 have q:=PySem.intText_digits (x:=st (cut l)) (by rw [zaW]; exact hd) (by rw [zaW]; exact fun z=>by rw [z] at a1; simp at a1) (by rw [zbZ]; omega)
 rw [zaW] at q; exact q
theorem zoD {l m:List Nat} (hl:zY l=true) (hm:zY m=true) (e:zde l=zde m):l=m:=by
 obtain ⟨a1,a2,a3⟩:=zh6 hl; obtain ⟨b1,b2,b3⟩:=zh6 hm; unfold zde at e; rw [a3,b3] at e
 injection e with e1 e2
 have e3:digitsVal (cut l)=digitsVal (cut m):=by
  simp only [JD] at e1; omega
 rw [<- zdk l,<- zdk m,e2,ztt _ (yG _) a1 b1 a2 b2 e3]
def klt (p q:Int × List Nat):Prop:=p.1<q.1\/(p.1=q.1/\p.2<q.2)
theorem zq9 (p:Int × List Nat):¬ klt p p:=by
 rintro (h | ⟨_,h⟩)
 ·omega
 ·exact List.lt_irrefl _ h
theorem zq8 (p q:Int × List Nat):klt p q\/klt q p\/p=q:=by
 unfold klt
 rcases Int.lt_trichotomy p.1 q.1 with h | h | h
 ·exact .inl (.inl h)
 ·by_cases h1:p.2<q.2
  ·exact .inl (.inr ⟨h,h1⟩)
  ·by_cases h2:q.2<p.2
   ·exact .inr (.inl (.inr ⟨h.symm,h2⟩))
   ·refine .inr (.inr (Prod.ext h ?_))
    exact List.le_antisymm (List.not_lt.mp h2) (List.not_lt.mp h1)
 ·exact .inr (.inl (.inl h))
def Ris (L:List (List Nat)):Prop:=L.Pairwise fun a b=>klt (zde a) (zde b)
theorem Ris.nodup {L:List (List Nat)} (h:Ris L):L.Nodup:=by
 rw [List.nodup_iff_pairwise_ne]; refine List.Pairwise.imp ?_ h; intro a b hk e; rw [e] at hk; exact zq9 _ hk
theorem zle {ls:List (List Nat)} (nd:ls.Nodup) (hp:∀ l ∈ ls,zY l=true):Ris (srt (ltP (ls.map zde)) [] ls):=by
 unfold srt; split
 ·rename_i h
  match ls,h with
  | [],_=>exact .nil
  | [a],_=>exact List.pairwise_singleton _ _
 ·rename_i h
  have o:=ziH (ls.map zde)
  obtain ⟨nd2,hl,m⟩:=zdf o (N:=ls.length) (by omega)
  obtain ⟨b,s⟩:=So.sort o (N:=ls.length) (by omega)
  have hsz:(So.run (ltP (ls.map zde)) (W.kas_sort ls.length)).size=ls.length:=b.size
  unfold Ris; rw [List.pairwise_map,List.pairwise_iff_getElem]; intro i j hi hj hij
  have z:=s i j hij (by omega)
  have gg:∀ i (hi:i<(So.run (ltP (ls.map zde)) (W.kas_sort ls.length)).toList.length),So.g (So.run (ltP (ls.map zde)) (W.kas_sort ls.length)) i=(So.run (ltP (ls.map zde)) (W.kas_sort ls.length)).toList[i]:=fun i hi=>by
   rw [So.g_eq]
   have hi':i<(So.run (ltP (ls.map zde)) (W.kas_sort ls.length)).size:=by simpa using hi
   rw [yn hi']; simp
  rw [gg i hi,gg j hj] at z; have ha:=(m _).mp (Ye hi); have hb:=(m _).mp (Ye hj)
  have hne:(So.run (ltP (ls.map zde)) (W.kas_sort ls.length)).toList[i]≠(So.run (ltP (ls.map zde)) (W.kas_sort ls.length)).toList[j]:=fun e=>by
   have:=(List.getElem_inj nd2).mp e
   omega
  generalize (So.run (ltP (ls.map zde)) (W.kas_sort ls.length)).toList[i]=a at *; generalize (So.run (ltP (ls.map zde)) (W.kas_sort ls.length)).toList[j]=c at *; simp only [List.getD,yC ha,yC hb,JD]
  have k1:∀ x (hx:x<ls.length),(ls.map zde).getD x (0,[])=zde ls[x]:=fun x hx=>by simp [List.getD,yL,yC hx]
  have lt_iff:∀ x y (hx:x<ls.length) (hy:y<ls.length),ltP (ls.map zde) x y=true↔klt (zde ls[x]) (zde ls[y]):=fun x y hx hy=>by
   unfold ltP klt; rw [k1 x hx,k1 y hy]; simp only [yk]
  rcases z with z | ⟨z,_⟩
  ·exact (lt_iff a c ha hb).mp z
  ·rcases zq8 (zde ls[a]) (zde ls[c]) with y | y | y
   ·exact y
   ·rw [(lt_iff c a hb ha).mpr y] at z
    cases z
   ·exact yM ((List.getElem_inj nd).mp (zoD (hp _ (Ye ha)) (hp _ (Ye hb)) y)) hne
end M70
namespace M71
open PySem L2 Lb PL MT MS M04 M70
end M71
namespace L2
open PySem PySem.Spec PyProof.Rows
section
variable {X:Cx}
end
end L2
namespace PL
open PySem L2
section
variable {X:Cx}
end
end PL
namespace M71
open PySem L2 Lb PL MT MS M04 M70
end M71
namespace PL
open PySem L2
section
variable {K:W.Frag} {n:Nat} {W:Wd} {Hi H:Hp} {Γ:Sts} {σ:St} {i:Nat} {o:OD} {b:Addr}
end
section
variable {X:Cx}
theorem zq4 (i j:Int) (l m:List Nat):zkU [.int i,.str (st l)] [.int j,.str (st m)]=decide (i<j\/(i=j/\l<m)):=by
 rw [zfA]
 by_cases h:i=j
 ·rw [yS (yp V.int h),zfA]
  by_cases e:l=m
  ·subst e
   rw [yS rfl]
   have hn:¬ (i<j\/(i=j/\l<l)):=by
    rintro (z | ⟨_,z⟩)
    ·omega
    ·exact List.lt_irrefl _ z
   exact (yV hn).symm
  ·rw [yQ (fun q=>e (L2.st_inj (V.str.inj q)))]
   show decide ((st l).cps.toList<(st m).cps.toList)=_
   rw [zaW,zaW]
   refine decide_eq_decide.mpr ⟨fun z=>.inr ⟨h,z⟩,?_⟩
   rintro (z | ⟨_,z⟩)
   ·omega
   ·exact z
 ·rw [yQ (fun q=>h (V.int.inj q))]
  show decide (i<j)=_
  refine decide_eq_decide.mpr ⟨.inl,?_⟩
  rintro (z | ⟨z,_⟩)
  ·exact z
  ·exact yM z h
def zwu:R2':=fun x y Q=>∃ i l j m,x=.tup [.int i,.str l]/\y=.tup [.int j,.str m]/\Q (.bl (decide (i<j\/(i=j/\l<m))))
theorem zva (hu:X.A.units<cLine):Op2 X (compareOp .Lt) zwu:=⟨_,zsS hu,by
 rintro Hi H x y dx dy Q Q2 s d1 d2 ⟨i,l,j,m,rfl,rfl,q⟩ fin
 obtain ⟨a,xs,rfl,hx,dl⟩:=d1.tupI; obtain ⟨b,ys,rfl,hy,dm⟩:=d2.tupI; obtain ⟨v,w,rfl,e1,e2⟩:=zi3 dl; obtain ⟨v',w',rfl,e1',e2'⟩:=zi3 dm; rw [e1.intI,e2.strI] at hx; rw [e1'.intI,e2'.strI] at hy
 refine ⟨a,b,_,_,rfl,rfl,zaN s.sub hx,zaN s.sub hy,(show _/\_/\True from ⟨rfl,rfl,True.intro⟩),?_⟩
 rw [zq4]; exact fin Hi H _ _ (Ext.refl s) (.bl _) q⟩
end
section
variable {P:Program} {w:World} {K:W.Frag} {mg:Str->Option Value} {base:Heap}
end
section
variable {X:Cx}
end
section
variable {X:Cx} {e a b c:Expr} {pos:Pos}
end
end PL
namespace L2
open PySem PySem.Spec PyProof.Rows
section
variable {X:Cx}
end
end L2
namespace PL
open PySem L2
section
variable {X:Cx}
end
end PL
namespace PL
open PySem L2 PySem.Spec PyProof.Rows
section
variable {X:Cx}
end
end PL
namespace L2
open PySem PySem.Spec PyProof.Rows Zp
section
variable {X:Cx}
end
end L2
namespace PL
open PySem L2
section
variable {X:Cx}
end
end PL
namespace L2
open PySem PySem.Spec PyProof.Rows
section
variable {prog:Program} {w:World} {K:Type} [DecidableEq K] {knd:HeapKind prog w K} {A:Around} {E:Value->Shared->Prop} {s:Shared} {d a:Addr} {k:K} {xs:List (K × Addr × Value)}
end
section
variable {X:Cx} {pins:List (Addr × Obj)} {σ:St} {H:Hp} {s:Shared} {a:Addr} {y d:V} {u r:Value} {o:Option V} {A:Around} {E:Value->Shared->Prop}
end
section
variable {X:Cx} {o e:Expr} {apos cpos:Pos} {td ty:TE}
end
end L2
namespace PL
open PySem L2
section
variable {X:Cx}
def zaD:TO':=fun Γ Q=>Q (.dit []) Γ
theorem zqt {pos:Pos}:PO' X (.Dict [] [] pos) zaD:=by
 refine ⟨PE.weak zqJ ?_⟩
 rintro σ H Q ⟨W,Hi,Γ,Q',g,q,fin⟩
 intro p hp
 exact fin p _ Hi Γ (.dit []) (zaS.refl _) (g.ext (Ext.newO g.fz hp _ (fun _ z=>by cases z))) (New.mk' g hp ⟨[],0,zv,.nil⟩) q
open Classical in
end
end PL
namespace Itm
open PySem
section
variable {prog:Program} {w:World} {A:Around} {E:Value->Shared->Prop} {s:Shared} {d:Addr} {o:Obj} {es:Array DictEntry} {ep:Nat}
end
end Itm
namespace L2
open PySem PySem.Spec PyProof.Rows Zp
section
variable {X:Cx}
end
end L2
namespace PL
open PySem L2
section
variable {X:Cx}
end
section
variable {P:Program} {w:World} {K:PySem.W.Frag} {mg:Str->Option Value} {base:Heap}
end
end PL
namespace EnK
open PySem
open AutoSeq1 (wpAny_loadPart')
section
variable {prog:Program} {w:World} {A:Around} {E:Value->Shared->Prop} {s:Shared}
end
end EnK
namespace L2
open PySem PySem.Spec PyProof.Rows Zp EnK
section
variable {X:Cx}
end
end L2
namespace PL
open PySem L2
section
variable {X:Cx}
end
section
variable {P:Program} {w:World} {K:PySem.W.Frag} {mg:Str->Option Value} {base:Heap}
end
section
variable {X:Cx}
end
end PL
namespace L2
open PySem PySem.Spec PyProof.Rows PySem.W
section
variable {X:Cx} {pins:List (Addr × Obj)} {σ:St} {H:Hp} {s:Shared}
end
section
variable {X:Cx}
abbrev I3:=Int × Int × Int
end
section
variable {X:Cx} {o e:Expr} {apos cpos:Pos} {td ty:TE}
end
end L2
namespace PL
open PySem L2
section
variable {X:Cx}
def zwl:D->Option (List Nat)
 | .str l=>some l
 | _=>none
end
end PL
namespace L2
open PySem PySem.Spec PyProof.Rows PySem.W
abbrev Jt:=Shared->Hp->Prop
section
variable {X:Cx} {pins:List (Addr × Obj)} {σ:St} {H:Hp} {s:Shared} {J:Jt} {k:Nat} {f:Addr} {fd:FuncData} {ps:List Str} {sp:Sp}
end
end L2
namespace PL
open PySem L2
section
variable {P:Program} {w:World} {K:W.Frag} {mg:Str->Option Value} {base:Heap} {J:Jt} {k:Nat} {x:Str} {ps:List Str} {sp:Sp'}
end
section
variable {X:Cx} {J:Jt} {k:Nat} {x:Str} {ps:List Str} {sp:Sp'} {p pos:Pos} {e:Expr} {es:List Expr} {t:TA'}
end
section
variable {P:Program} {w:World} {K:W.Frag} {mg:Str->Option Value} {base:Heap}
end
section
variable {X:Cx}
end
section
variable {P:Program} {w:World} {K:W.Frag} {mg:Str->Option Value} {base:Heap}
end
section
variable {X:Cx}
end
end PL
namespace HT
open PySem PyProof.Rows
section
variable {prog:Program} {w:World} {A:Around} {E:Value->Shared->Prop} {s:Shared}
end
end HT
namespace L2
open PySem PySem.Spec PyProof.Rows
section
variable {X:Cx} {e st:Expr} {te:TE} {ts:TO} {pos p2:Pos}
theorem zjc:∀ {xs:List V} {us:List Value},za7 xs us->za7 xs.reverse us.reverse:=by
 intro xs us r
 induction r with
 | nil=>exact .nil
 | cons a _ ih =>
  rw [Yz,Yz]; exact ih.append (.cons a .nil)
end
end L2
namespace PL
open PySem L2
section
variable {X:Cx} {e st:Expr} {te:TE'} {ts:TP'} {pos p2:Pos}
theorem zrA {K:W.Frag} {Hi:Hp} {vs:List V} {ds:List D} (h:zbC K Hi vs ds):zbC K Hi vs.reverse ds.reverse:=by
 induction h with
 | nil=>exact .nil
 | cons a _ ih =>
  rw [Yz,Yz]; exact paired_app ih (.cons a .nil)
end
end PL
namespace L2
open PySem PySem.Spec PyProof.Rows
section
variable {X:Cx}
end
end L2
namespace PL
open PySem L2
section
variable {X:Cx}
end
end PL
namespace L2
open PySem PySem.Spec PyProof.Rows
section
variable {prog:Program} {w:World} {A:Around} {E:Value->Shared->Prop} {s:Shared}
theorem zhk (hd:A.handled=none) (it l:Addr) (items:Array Value) (ne:it≠l):WalksS prog w A it [it,l] [it] (fun a b=>b=a) items.size (fun i v=>items[items.size-1-i]?=some v) (fun i s=>s.heap.IsRevIter it l ((items.size:Int)-1-(i:Int))/\s.heap.IsList l items/\i<=items.size) where
 sub:=by simp
 grefl:=fun _=>rfl
 gtrans:=fun _ _ _ h h'=>h'.trans h
 frame:=fun i s h' tk st _ k=>by
  obtain ⟨⟨o,ho,hc,hd⟩,⟨o2,ho2,hc2,n,hd2⟩,hi⟩:=st
  exact ⟨⟨o,k it (by simp) o ho,hc,hd⟩,⟨o2,k l (by simp) o2 ho2,hc2,n,hd2⟩,hi⟩
 item:=fun i s Q E hi st q=>by
  obtain ⟨s1,s2,_⟩:=st
  rw [show (items.size:Int)-1-(i:Int)=((items.size-1-i:Nat):Int) by omega] at s1
  have hx:items[items.size-1-i]?=some (items[items.size-1-i]'(by omega)):=yn (by omega)
  refine wpAny_pyNext_rev_item s1 s2 hx fun h' st' sb=>q _ _ hx ⟨?_,?_,hi⟩ ⟨fun b o hb e=>?_,rfl,rfl,rfl,yG _⟩
  ·show h'.IsRevIter it l _
   rw [show (items.size:Int)-1-((i+1:Nat):Int)=((items.size-1-i:Nat):Int)-1 by omega]
   exact st'
  ·obtain ⟨o2,ho2,hc2,n,hd2⟩:=s2
   exact ⟨o2,(sb.2 l (fun z=>ne z.symm)).trans ho2,hc2,n,hd2⟩
  ·exact (sb.2 b (by simpa using hb)).trans e
 done:=fun s Q E st q=>by
  obtain ⟨s1,s2,_⟩:=st
  rw [show (items.size:Int)-1-(items.size:Int)=-1 by omega] at s1
  exact wpAny_pyNext_rev_end hd s1 fun h' eb=>q _ ⟨fun b o hb e=>eb b o (by simpa using hb) e,rfl,rfl,rfl,yG _⟩
 self:=fun i s Q E st q=>wpAny_pyIter_revIter st.1 q
theorem ite_neg {α:Type} {M:Model} {c:Prop} [Decidable c] {t e:Sem α} {Q:α->Shared->Prop} (hc:¬ c) (h:wpAny M A e Q E s):wpAny M A (if c then t else e) Q E s:=by rw [yQ hc]; exact h
theorem ziZ {α:Type} {M:Model} {c:Prop} [Decidable c] {t e:Sem α} {Q:α->Shared->Prop} (hc:c) (h:wpAny M A t Q E s):wpAny M A (if c then t else e) Q E s:=by rw [yS hc]; exact h
theorem zoi:typeLookup (Value.type "list_reverseiterator") (Str.ofString "__len__")=pure none:=by first | rfl | with_unfolding_all rfl
theorem zrr:typeLookup (Value.type "list_reverseiterator") (Str.ofString "__length_hint__")=pure (some (Value.builtin "list_reverseiterator.__length_hint__")):=by first | rfl | with_unfolding_all rfl
theorem zjP {it:Addr} {Q:Bool->Shared->Prop} (hT:s.TypeIs (.ref it) "list_reverseiterator") (h:Q false s):wpAny (model prog w) A (Builtin.List.listLengthHint (.ref it)) Q E s:=by
 unfold Builtin.List.listLengthHint; refine yA (wpAny_specialOf hT zoi ?_)
 refine ite_neg (by decide) (ite_neg (by decide) ?_)
 refine yA (wpAny_specialOf hT zrr ?_)
 refine yA (wpAny_isInstance hT (show isSubtype (Value.type "list_reverseiterator") (Value.type "list_reverseiterator")=pure true by first | rfl | with_unfolding_all rfl) ?_)
 refine ite_neg (by decide) (ziZ (by decide) (ite_neg (by decide) ?_))
 exact yE h
theorem zi6 {it l:Addr} {items:Array Value} {Q:List Value->Shared->Prop} (hd:A.handled=none) (st:s.heap.IsRevIter it l ((items.size:Int)-1)) (hl:s.heap.IsList l items) (ne:it≠l) (hsz:items.size<=sizeLine)
  (h:∀ s',Moved [it] (fun a b=>b=a) s s'->Q items.toList.reverse s'):wpAny (model prog w) A (collect (.ref it)) Q E s:=by
 have W:=zhk (prog:=prog) (w:=w) (A:=A.in1) hd it l items ne; unfold collect; refine yA (wpAny_runValue (codeAny_builtin PySem.F.entry_proto_collect ?_)); rw [Around.under_plainId PySem.F.plain_proto_collect]
 unfold Builtin.«proto.collect»
 refine yA (yj (yE ⟨plainId_quiet PySem.F.plain_list_iadd _,codeAny_builtin PySem.F.entry_list_iadd ?_⟩)); rw [Around.under_plainId PySem.F.plain_list_iadd]
 unfold Builtin.«list.__iadd__»
 refine yA (yE ?_)
 have hT:({ s with heap:=s.heap.push { cls:=Value.type "list",data:=Data.seq #[] } }:Shared).TypeIs (.ref it) "list_reverseiterator":=by
  obtain ⟨o,ho,hc,_⟩:=st; exact ⟨o,yB _ ho,hc⟩
 have lt:it<s.heap.objs.size:=by obtain ⟨o,ho,_⟩:=st; exact yN ho
 have ltl:l<s.heap.objs.size:=by obtain ⟨o,ho,_⟩:=hl; exact yN ho
 have st0:({ s with heap:=s.heap.push { cls:=Value.type "list",data:=Data.seq #[] } }:Shared).heap.IsRevIter it l ((items.size:Int)-1-((0:Nat):Int))/\({ s with heap:=s.heap.push { cls:=Value.type "list",data:=Data.seq #[] } }:Shared).heap.IsList l items/\0<=items.size:=by
  refine ⟨?_,?_,yo _⟩
  ·obtain ⟨o,ho,hc,hd⟩:=st
   rw [show (items.size:Int)-1-((0:Nat):Int)=(items.size:Int)-1 by omega]
   exact ⟨o,yB _ ho,hc,hd⟩
  ·obtain ⟨o,ho,hc,n,hd⟩:=hl
   exact ⟨o,yB _ ho,hc,n,hd⟩
 show wpAny _ _ (Builtin.List.listExtendWith (.ref s.heap.objs.size) (.ref it) (.ref s.heap.objs.size)) _ _ _
 unfold Builtin.List.listExtendWith; refine yA (wpAny_typeOf hT ?_)
 have hno:¬ ((Builtin.List.listSameRef (.ref s.heap.objs.size) (.ref it) || Value.type "list_reverseiterator" == Value.type "list" || Value.type "list_reverseiterator" == Value.type "tuple")=true):=by
  have:Builtin.List.listSameRef (.ref s.heap.objs.size) (.ref it)=false:=by
   unfold Builtin.List.listSameRef; simp
   exact fun z=>yM z (Yf lt)
  rw [this]
  decide
 rw [yQ hno]; refine yA (wpAny_pyIter_revIter st0.1 ?_); refine yA (YW (zjP hT ?_))
 refine ite_neg (by decide) ?_
 refine yE ⟨plainId_quiet PySem.F.plain_extend_loop _,?_⟩
 refine codeAny_extend_loopS W hsz s.heap.objs.size (by simp; exact ⟨Yf lt,Yf ltl⟩) _ _ 0 _ #[] 0 rfl (yo _) st0 (yK _ rfl) ⟨rfl,fun j v z=>by simp at z⟩ fun s' acc c m e it'=>?_
 show wpAny _ _ (load s.heap.objs.size >>= _) _ _ _
 refine yA (wpAny_load e ?_); refine yE ?_
 have ea:acc.toList=items.toList.reverse:=by
  refine List.ext_getElem? fun j=>?_
  rw [JJ]
  by_cases hj:j<items.size
  ·have hj':j<acc.size:=by rw [it'.1]; exact hj
   have:=it'.2 j _ (yn hj')
   rw [yn hj',<- this,Yw (by simpa using hj)]
   simp
  ·rw [Array.getElem?_eq_none (by rw [it'.1]; omega),List.getElem?_eq_none (by simpa using Nat.le_of_not_lt hj)]
 rw [ea]; exact h s' (m.drop_new (yG _))
theorem zg0 {it l:Addr} {items:Array Value} {Q:Value->Shared->Prop} (hd:A.handled=none) (st:s.heap.IsRevIter it l ((items.size:Int)-1)) (hl:s.heap.IsList l items) (ne:it≠l) (hsz:items.size<=sizeLine)
  (h:∀ s',Moved [it] (fun a b=>b=a) s s'->Q (.ref s'.heap.objs.size) { s' with heap:=s'.heap.push { cls:=.type "tuple",data:=.seq items.toList.reverse.toArray } }) :
  codeAny (model prog w) A (Code.call (Value.builtin "tuple.__new__") { pos:=[Value.type "tuple",Value.ref it] }) (wants Q E) s:=by
 have hT:s.TypeIs (.ref it) "list_reverseiterator":=by
  obtain ⟨o,ho,hc,_⟩:=st; exact ⟨o,ho,hc⟩
 refine codeAny_of_tree ?_; refine yA (Yg (PySem.F.newCall_tuple_1 (.ref it)) (yE ⟨plainId_quiet PySem.F.plain_tuple_new _,codeAny_builtin PySem.F.entry_tuple_new ?_⟩)); rw [Around.under_plainId PySem.F.plain_tuple_new]
 show wpAny _ _ (Builtin.«tuple.__new__» { pos:=[Value.type "tuple",Value.ref it] }) _ _ _
 unfold Builtin.«tuple.__new__»
 refine yA (yE (ite_neg (by decide) (yA (Yg sub_tuple_self (ite_neg (by decide) (ite_neg (by decide) ?_))))))
 refine yA (Yg madeHere_tuple (yA (Yg init_tuple_lookup (ziZ (by decide) (yA (ziZ rfl (yE ?_)))))))
 refine yA ?_; unfold checkCount; refine wpAny_ite_false rfl (wpAny_ite_false rfl (wpAny_ite_false rfl (yE ?_))); refine wpAny_ite_true rfl (yA ?_); unfold Builtin.Tuple.tupleIsExact
 refine yA (wpAny_typeOf hT (yE (ite_neg (by decide) ?_)))
 refine yA (zi6 hd st hl ne hsz fun s' m=>?_)
 have hz:sizeOk (.seq items.toList.reverse.toArray):=by
  show items.toList.reverse.toArray.size<=sizeLine
  simpa using hsz
 refine yA (yE ?_); refine yA ?_; unfold Builtin.Tuple.tupleExact; exact yj (yE (h s' m)) hz
theorem zf4 {it l:Addr} {items:Array Value} {Q:Value->Shared->Prop} (hd:A.handled=none) (st:s.heap.IsRevIter it l ((items.size:Int)-1)) (hl:s.heap.IsList l items) (ne:it≠l) (hsz:items.size<=sizeLine)
  (h:∀ s',Moved [it] (fun a b=>b=a) s s'->Q (.ref s'.heap.objs.size) { s' with heap:=s'.heap.push { cls:=.type "tuple",data:=.seq items.toList.reverse.toArray } }) :
  wpAny (model prog w) A (call (Value.type "tuple") [Value.ref it]) Q E s:=by
 refine callType_codes PySem.F.called_tuple (PySem.F.typeCall_tuple_1 (.ref it)) PySem.F.entry_object_init (zg0 (Q:=fun r s1=>s1.TypeIs r "tuple"/\Q r s1) hd st hl ne hsz fun s' m=>⟨⟨_,yK _ rfl,rfl⟩,h s' m⟩) fun obj s1 h1=>⟨h1.1,PySem.F.args_object_init_2 obj (.ref it),?_⟩
 exact object_init_meets PySem.F.called_tuple.init.lookup PySem.F.called_tuple.made (by decide) prog w A.in1 _ s1 ⟨h1.1,rfl,h1.2⟩
end
section
variable {X:Cx}
def zpW (K:W.Frag) (to:TE):TE:=fun σ H Q=>to σ H fun x H1=>∃ a vs,x=.ref a/\SqL K H1 a vs/\∀ p,H1 p=none->Q (.ref p) (upd H1 p (.tup vs.reverse))
theorem zqC {o:Expr} {to:TE} {p1 p2 pos1 pos2:Pos} (hr:X.A.handled=none) (hg1:Gl X "tuple") (hm1:X.mg "tuple"=none) (hg2:Gl X "reversed") (hm2:X.mg "reversed"=none) (ho:PE X o to) (hs2:starEach [o] X.env=[(false,eval o X.env)]:=by rfl)
  (hs1:starEach [Expr.Call (.Name "reversed" p2) [o] [] pos2] X.env=[(false,eval (Expr.Call (.Name "reversed" p2) [o] [] pos2) X.env)]:=by rfl) :
  PE X (.Call (.Name "tuple" p1) [.Call (.Name "reversed" p2) [o] [] pos2] [] pos1) (zpW X.K to):=by
 intro pins s σ H Q I h; refine Call_ (zcA I hg1 hm1 boot_tuple (yq ?_ hs1 rfl)); rw [hs1]
 show wpAny _ _ (spliced ((false,eval (Expr.Call (.Name "reversed" p2) [o] [] pos2) X.env) :: backTo pos1 [])) _ _ s
 refine YO ?_; refine Call_ (zcA I hg2 hm2 boot_reversed (yq ?_ hs2 rfl)); rw [hs2]
 show wpAny _ _ (spliced ((false,eval o X.env) :: backTo pos2 [])) _ _ s
 refine YO (thn (ho pins s σ H _ I h) fun u s1 ⟨x,H1,I1,rx,a,vs,ex,hq,q⟩=>Yl ?_)
 subst ex; cases rx; obtain ⟨its,rv,p,hz⟩:=I1.list hq; have hl:=rv.length; refine call_reversed_list (zb8 p) (Yl ?_)
 have lt:a<s1.heap.objs.size:=by obtain ⟨o,ho,_⟩:=zb8 p; exact yN ho
 have I2:Inv X pins σ H1 { s1 with heap:=s1.heap.push (revObj a ((its.toArray.size:Int)-1)) }:=I1.kept (t':=s1.toks) fun b o e=>yB _ e
 have st:(s1.heap.push (revObj a ((its.toArray.size:Int)-1))).IsRevIter s1.heap.objs.size a ((its.toArray.size:Int)-1):=⟨_,yK _ rfl,rfl,rfl⟩
 have pl:(s1.heap.push (revObj a ((its.toArray.size:Int)-1))).IsList a its.toArray:=by
  obtain ⟨o,ho,hc,n,hd⟩:=zb8 p; exact ⟨o,yB _ ho,hc,n,hd⟩
 refine zf4 (s:={ s1 with heap:=s1.heap.push (revObj a ((its.toArray.size:Int)-1)) }) hr st pl (Yf lt) (by rw [yO,<- hl]; exact hz) fun s3 m=>?_
 obtain ⟨f0,f1,f2,f3,f4,f5⟩:=I1.fpOk (H':=H1) (yG _) (I1.hok.fresh (yG _))
 have I3:Inv X pins σ H1 s3:=by
  have:=I2.turned (h':=s3.heap) (t':=s3.toks) (fun b o hb e=>m.heap b o (by simpa using hb) e) f0 f1 f3 f4 f5
  have e:({ ({ s1 with heap:=s1.heap.push (revObj a ((its.toArray.size:Int)-1)) }:Shared) with heap:=s3.heap,toks:=s3.toks }:Shared)=s3:=by
   obtain ⟨h3,g3,d3,t3,o3⟩:=s3; have e1:=m.gens; have e2:=m.drawn; have e3:=m.os
   dsimp only at e1 e2 e3 ⊢
   rw [e1,e2,e3]
  rw [e] at this; exact this
 have hf:H1 s3.heap.objs.size=none:=I3.hok.fresh (yG _)
 refine ⟨.ref s3.heap.objs.size,upd H1 s3.heap.objs.size (.tup vs.reverse),I3.laid (t':=s3.toks) (fun b u e=>yB _ e) (yG _) ?_,rfl,q _ hf⟩
 exact ⟨by rw [ym]; exact hz,_,zjc rv,⟨_,yK _ rfl,rfl,_,rfl⟩⟩
end
section
variable {prog:Program} {w:World} {K:Type} [DecidableEq K] {knd:HeapKind prog w K} {A:Around} {E:Value->Shared->Prop} {s:Shared} {d a:Addr} {k:K} {xs:List (K × Addr × Value)}
theorem ze9 {Q:Value->Shared->Prop} {dflt:Value} (hu:knd.room A) (hkey:knd.is s.heap k a) (hm:s.heap.DictOfH knd d xs) (hsz:xs.length<sizeLine)
  (h1:∀ p,atKey xs k=some p->Q p.2 { s with toks:=s.toks+knd.draws k })
  (h2:atKey xs k=none->∀ h',h'.DictOfH knd d (xs ++ [(k,a,dflt)])->Heap.SameBut d s.heap h'->Q dflt { s with heap:=h',toks:=s.toks+knd.draws k }) :
  wpAny (model prog w) A (dictSetDefault d (.ref a) dflt) Q E s:=by
 obtain ⟨o,es,ep,ho,hc,hd,he,his,hn⟩:=hm; unfold dictSetDefault
 try with_reducible refine YW ?_
 refine yA (knd.pyHash hu hkey (yA (wpAny_dictFind_heap (s:={ s with toks:=s.toks+knd.draws k }) hu hkey ho hd he his hn ?_ ?_)))
 ·intro hno
  have hk:=atKey_none_of_get hno; refine yA (wpAny_rule ?_)
  refine yA (wpAny_updateDictKeys (hz:=by have e:=size_of_entries he; simp; omega) (s:={ s with toks:=s.toks+knd.draws k }) ho hd (yE (h2 hk _ ⟨_,_,ep+1,YR _ ho (Obj.isFreed_of_dict (Obj.data_mapDictKeys hd _)),hc.mapDictKeys _,Obj.data_mapDictKeys hd _,?_,?_,?_⟩ (Heap.SameBut.update ..))))
  ·rw [Array.toList_push,he,YE]
   rfl
  ·intro x hx
   rcases yU.mp hx with z | z
   ·exact knd.keeps (his x z) ho hd (Heap.SameBut.update ..)
   ·rw [yc.mp z]
    exact knd.keeps hkey ho hd (Heap.SameBut.update ..)
  ·rw [YE,JA]
   refine ⟨hn,by simp,fun x hx y hy e=>?_⟩
   have:y=k:=by simpa using hy
   rw [e,this] at hx; obtain ⟨p,hp,e2⟩:=yT.mp hx; obtain ⟨j,hj,ej⟩:=List.getElem_of_mem hp; obtain ⟨p1,p2⟩:=p; subst e2
   exact hno j p2 (by rw [yC hj,ej])
 ·intro j p hj
  refine yA (wpAny_dictEntries (s:={ s with toks:=s.toks+knd.draws k }) ho hd ?_)
  rw [entry_at he j,hj]; exact yA (wpAny_rule (yE (h1 p (atKey_of_get hn hj))))
theorem zeW (hd:(d == sysModules)=false) (dflt:Value) :
  MeetsIn prog w (Builtin.«dict.setdefault» ⟨[.ref d,.ref a,dflt],[]⟩) (fun A R s=>knd.room A.in1/\∃ k xs,knd.is s.heap k a/\s.heap.DictOfH knd d xs/\xs.length<sizeLine /\
   (∀ p,atKey xs k=some p->R (.ok (.ret p.2)) { s with toks:=s.toks+knd.draws k })/\(atKey xs k=none->∀ h',h'.DictOfH knd d (xs ++ [(k,a,dflt)])->Heap.SameBut d s.heap h'->R (.ok (.ret dflt)) { s with heap:=h',toks:=s.toks+knd.draws k })) :=
 .of_wp fun A R s ⟨hu,k,xs,hkey,hm,hsz,h1,h2⟩=>by
  unfold Builtin.«dict.setdefault»
  refine yA ?_; unfold Builtin.Dict.keyAndDefault; refine yA (wpAny_notOrdered_dict hm.typeIs ?_)
  show wpAny _ _ (pure (d,Value.ref a,some dflt)) _ _ s
  refine yE ?_
  refine ite_neg (by rw [hd]; decide) ?_
  refine yA (ze9 (dflt:=dflt) hu hkey hm hsz (fun p hp=>?_) fun hn h' dd hs=>?_)
  ·exact yE ⟨_,rfl,h1 p hp⟩
  ·exact yE ⟨_,rfl,h2 hn h' dd hs⟩
end
section
variable {X:Cx} {pins:List (Addr × Obj)} {σ:St} {H:Hp} {s:Shared} {a:Addr} {A:Around} {E:Value->Shared->Prop}
theorem ztr {kvs:List (List Key × V)} {ep:Nat} {k:List Key} {b:Addr} {v:V} {r:Value} {Q:Value->Shared->Prop} (hu:A.units+1<cLine) (I:Inv X pins σ H s) (e:H a=some (.dE kvs ep)) (eb:H b=some (.tup (k.map kV))) (l:kvs.length<sizeLine) (rv:zbo v r)
  (h1:∀ v' w' s',zhm kvs k=some v'->Inv X pins σ H s'->zbo v' w'->Q w' s') (h2:zhm kvs k=none->∀ ep' s',Inv X pins σ (upd H a (.dE (kvs ++ [(k,v)]) ep')) s'->Q r s') :
  wpAny (model X.prog X.w) A (call (.builtin "dict.setdefault") [.ref a,.ref b,r]) Q E s:=by
 obtain ⟨z,hd,xs,rel,dd,_⟩:=zeN I.hok e
 have hz:xs.length<sizeLine:=by rw [<- Paired.length rel]; exact l
 have rk:=rel.val k
 refine call_meetsIn PySem.F.slot_dict_setdefault dd.typeIs PySem.F.entry_dict_setdefault (PySem.F.args_dict_setdefault_3 _ _ _) (zeW (knd:=tupleKind (zbA X.prog X.w)) (d:=a) (a:=b) hd r) ⟨tupleKind_room_in1 hu,k,xs,zeR I.hok eb,dd,hz,fun p hp=>?_,fun hn h' dd' hs=>?_⟩
 ·rw [hp] at rk
  cases hv:zhm kvs k with
  | none=>rw [hv] at rk; exact rk.elim
  | some v'=>rw [hv] at rk; exact h1 v' p.2 _ hv (I.tok _) rk
 ·rw [hn] at rk
  cases hv:zhm kvs k with
  | some v'=>rw [hv] at rk; exact rk.elim
  | none =>
   obtain ⟨q,es,ep',hq,g2,g3,g4,_,g5⟩:=dd'
   have hl:(kvs ++ [(k,v)]).length<=sizeLine:=by rw [yH,ya]; omega
   have rp:KT H (kvs ++ [(k,v)]) (xs ++ [(k,b,r)]):=PL.paired_app rel (.cons ⟨rfl,eb,rv⟩ .nil)
   refine h2 hv ep' _ (zi4 I (by rw [e]; exact True.intro) hs ⟨q,hq⟩ ⟨hl,hd,_,rp.keeps fun c ys ec=>?_,q,es,hq,g2,g3,g4,g5⟩)
   rw [zI (zq2 ec e (fun z=>nomatch z))]
   exact ec
end
def zk7 (td ty tx:TE):TE:=fun σ H Q=>td σ H fun x H1=>∃ a kvs0 ep0,x=.ref a/\H1 a=some (.dE kvs0 ep0)/\ty σ H1 fun y H2=>tx σ H2 fun z H3=>∃ kvs ep k b,H3 a=some (.dE kvs ep)/\y=.ref b/\H3 b=some (.tup (k.map kV))/\kvs.length<sizeLine /\
 (∀ v,zhm kvs k=some v->Q v H3)/\(zhm kvs k=none->∀ ep',Q z (upd H3 a (.dE (kvs ++ [(k,z)]) ep')))
section
variable {X:Cx} {o e f:Expr} {apos cpos:Pos} {td ty tx:TE}
theorem zn2 (hu:X.A.units+1<cLine) (ho:PE X o td) (he:PE X e ty) (hf:PE X f tx) (m:M2 X o "setdefault" apos e f cpos):PE X (.Call (.Attribute o "setdefault" apos) [e,f] [] cpos) (zk7 td ty tx):=by
 intro pins s σ H Q I h
 refine wpAny_Call_method m.base m.few m.line PySem.F.plainAttrs_dict PySem.F.slot_dict_setdefault PySem.F.type_dict_setdefault (thn (ho pins s σ H _ I h) fun u s1 ⟨x,H1,I1,rx,a,kvs,ep,ex,d,q1⟩=>?_)
 subst ex
 obtain rfl:u=Value.ref a:=rx
 obtain ⟨t1,t2⟩:=zpx I1 d; refine ⟨t1,t2,?_⟩; rw [m.trees]
 refine Calls.callWith_builtin rfl (Calls.evalArgs_plain (YO (thn (he pins s1 σ H1 _ I1 q1) fun iv s2 ⟨y,H2,I2,ry,q2⟩ =>
  YO (thn (hf pins s2 σ H2 _ I2 q2) fun fv s3 ⟨z,H3,I3,rz,kvs',ep',k,b,ea,ey,eb,hl,q3,q4⟩=>Yl ?_))))
 subst ey
 obtain rfl:iv=Value.ref b:=ry
 exact ztr hu I3 ea eb hl rz (fun v' w' s4 hv I4 rw'=>⟨v',H3,I4,rw',q3 v' hv⟩) fun hv ep2 s4 I4=>⟨z,_,I4,rz,q4 hv ep2⟩
end
end L2
namespace PL
open PySem L2
structure NoOwn (Γ:Sts):Prop where
 own:∀ (i:Nat) o,Γ[i]?≠some (.own o)
 bk:∀ (i:Nat) d b xs,Γ[i]?≠some (.bk d b xs)
def Wd.prot (W:Wd) (L:List Addr) (H:Hp):Wd:=⟨fun x=>if x ∈ L then H x else W.H₀ x,fun x=>if x ∈ L then none else W.Hi₀ x,W.F.filter fun x=>decide (x ∉ L)⟩
section
variable {K:PySem.W.Frag} {n:Nat} {W:Wd} {Hi H H0:Hp} {Γ:Sts} {σ:St} {L:List Addr}
theorem Good.prot (g:Good K n W Hi Γ σ H) (no:NoOwn Γ) (hL:∀ x ∈ L,Hi x=none/\∃ o,H x=some o):Good K n (W.prot L H) Hi Γ σ H where
 len:=g.len
 fz:=g.fz
 keep:=fun a o e nf=>by
  simp only [Wd.prot] at e nf
  by_cases h:a ∈ L
  ·rw [yS h] at e; exact e
  ·rw [yQ h] at e
   exact g.keep a o e fun z=>nf (List.mem_filter.mpr ⟨z,by simpa using h⟩)
 there:=fun a o e=>by
  simp only [Wd.prot] at e
  by_cases h:a ∈ L
  ·exact (hL a h).2
  ·rw [yQ h] at e; exact g.there a o e
 fro:=fun a o e=>by
  simp only [Wd.prot] at e ⊢
  by_cases h:a ∈ L
  ·rw [yS h]; exact (hL a h).1
  ·rw [yQ h] at e ⊢; exact g.fro a o e
 val:=g.val
 own:=fun i o e=>yM e (no.own i o)
 apart:=fun i j o o' a e=>yM e (no.own i o)
 bk:=fun i d b xs e=>yM e (no.bk i d b xs)
theorem Good.unprot (g:Good K n (W.prot L H0) Hi Γ σ H) (no:NoOwn Γ) (h0:∀ x ∈ L,W.H₀ x=none):Good K n W Hi Γ σ H where
 len:=g.len
 fz:=g.fz
 keep:=fun a o e nf=>by
  have h:a ∉ L:=fun z=>by rw [h0 a z] at e; cases e
  exact g.keep a o (by simp only [Wd.prot]; rw [yQ h]; exact e) fun z=>nf (List.mem_filter.mp z).1
 there:=fun a o e=>by
  have h:a ∉ L:=fun z=>by rw [h0 a z] at e; cases e
  exact g.there a o (by simp only [Wd.prot]; rw [yQ h]; exact e)
 fro:=fun a o e=>by
  have h:a ∉ L:=fun z=>by rw [h0 a z] at e; cases e
  have:=g.fro a o (by simp only [Wd.prot]; rw [yQ h]; exact e)
  simp only [Wd.prot] at this; rw [yQ h] at this; exact this
 val:=g.val
 own:=fun i o e=>yM e (no.own i o)
 apart:=fun i j o o' a e=>yM e (no.own i o)
 bk:=fun i d b xs e=>yM e (no.bk i d b xs)
theorem Good.kept (g:Good K n (W.prot L H0) Hi Γ σ H) {x:Addr} {o:HO} (hx:x ∈ L) (e:H0 x=some o):H x=some o/\Hi x=none:=by
 have e':(W.prot L H0).H₀ x=some o:=by simp only [Wd.prot]; rw [yS hx]; exact e
 have f:=g.fro x o e'; simp only [Wd.prot] at f; rw [yS hx] at f
 exact ⟨g.keep x o e' fun z=>by have:=(List.mem_filter.mp z).2; simp at this; exact this hx,f⟩
theorem Good.toAdr (g:Good K n W Hi Γ σ H) {i:Nat} {o:OD} {a:Addr} (hi:i<n) (e:Γ[i]?=some (.own o)) (ha:adr n W σ i=some a) (no:NoOwn (Γ.set i (.val (.adr a)))):Good K n W Hi (Γ.set i (.val (.adr a))) σ H where
 len:=g.len
 fz:=g.fz
 keep:=g.keep
 there:=g.there
 fro:=g.fro
 val:=fun j d ej=>by
  by_cases h:j=i
  ·subst h
   rw [Ya (yF.mp e).1] at ej; cases ej; exact ⟨.ref a,zil hi ha,.adr a⟩
  ·rw [ye (fun z=>h z.symm)] at ej
   exact g.val j d ej
 own:=fun j o e=>yM e (no.own j o)
 apart:=fun i j o o' a e=>yM e (no.own i o)
 bk:=fun i d b xs e=>yM e (no.bk i d b xs)
end
abbrev Ent:=List (List Nat) × Addr × List D
structure KdAt (K:W.Frag) (Hi H:Hp) (a:Addr) (es:List Ent):Prop where
 dict:∃ ep,H a=some (.dE (es.map fun e=>(za8 e.1,V.ref e.2.1)) ep)
 hi:Hi a=none
 keys:(es.map (·.1)).Nodup
 adrs:(es.map (·.2.1)).Nodup
 lst:∀ e ∈ es,e.2.1≠a/\Hi e.2.1=none/\∃ vs,H e.2.1=some (.lst vs)/\zbC K Hi vs e.2.2
def kdF (es:List Ent) (p:List (List Nat)):List D:=((es.find? fun e=>decide (e.1=p)).map (·.2.2)).getD []
theorem zkG {p q:List (List Nat)} (h:za8 p=za8 q):p=q:=zdW (by rw [zbJ,zbJ,h])
theorem zme (es:List Ent) (p:List (List Nat)):zhm (es.map fun e=>(za8 e.1,V.ref e.2.1)) (za8 p)=(es.find? fun e=>decide (e.1=p)).map fun e=>V.ref e.2.1:=by
 unfold zhm
 induction es with
 | nil=>rfl
 | cons e r ih =>
  rw [yZ,YF,YF]
  by_cases h:e.1=p
  ·simp [h]
  ·have:¬ za8 e.1=za8 p:=fun z=>h (zkG z)
   simp only [yV h,yV this]; exact ih
theorem KdAt.mono {K:W.Frag} {Hi H Hi' H':Hp} {a:Addr} {es:List Ent} (k:KdAt K Hi H a es) (s:zaS Hi Hi') (hk:∀ x ∈ a :: es.map (·.2.1),∀ o,H x=some o->H' x=some o/\Hi' x=none):KdAt K Hi' H' a es:=by
 obtain ⟨ep,e⟩:=k.dict
 refine ⟨⟨ep,(hk a (by simp) _ e).1⟩,(hk a (by simp) _ e).2,k.keys,k.adrs,fun x hx=>?_⟩
 obtain ⟨h1,h2,vs,h3,h4⟩:=k.lst x hx
 have:=hk x.2.1 (yI _ (Yo hx)) _ h3
 exact ⟨h1,this.2,vs,this.1,h4.mono s⟩
section
variable {K:W.Frag} {n:Nat} {W:Wd} {Hi H:Hp} {σ:St} {a:Addr} {es:List Ent}
theorem zlh {N2:Ends} {rD nd:Slot} {p ws:List (List Nat)} {l:List Nat} (h6:2<n) (g:Good K n W Hi [rD,.val (.adr a),nd,.val (plc p),.val (plc ws),.val (.str l)] σ H) (k:KdAt K Hi H a es)
  (q:∀ v Hi' H',zaS Hi Hi'->(∀ x o,H x=some o->H' x=some o/\Hi' x=Hi x)->Good K n W Hi' [rD,.val (.adr a),.val (.tup [.str l,plc ws,.tup (kdF es p).reverse]),.val (plc p),.val (plc ws),.val (.str l)] (σ.set 2 (some v)) H'->N2.nx (σ.set 2 (some v)) H') :
  zuD (zuw (zfV (zkb 5) (zfV (zkb 4) (zfV (zpW K (zk8 (zkb 1) (zkb 3) (zr7 zmU))) zmU)))) (zmj 2) N2 σ H:=by
 obtain ⟨v5,e5,d5⟩:=g.val 5 _ rfl; obtain ⟨v4,e4,d4⟩:=g.val 4 _ rfl; obtain ⟨v3,e3,d3⟩:=g.val 3 _ rfl; obtain ⟨v1,e1,d1⟩:=g.val 1 _ rfl; have d1':=d1.adrI
 subst d1'
 rw [zbJ] at d3; obtain ⟨b,rfl,hb⟩:=zer d3; obtain ⟨ep,hd⟩:=k.dict
 refine ⟨v5,e5,v4,e4,.ref a,e1,a,_,ep,rfl,hd,.ref b,e3,yo _,fun q1 hq1=>?_⟩
 have x1:=Ext.newO g.fz hq1 (.lst []) (fun _ z=>nomatch z)
 have g1:=g.ext x1
 have na:a≠q1:=fun z=>by rw [<- z,hd] at hq1; cases hq1
 refine ⟨_,⟨_,ep,za8 p,b,by rw [zI na]; exact hd,rfl,x1.h _ _ (g.sub _ _ hb),(zme es p).symm⟩,?_⟩
 have fin:∀ vs:List V,zbC K Hi vs (kdF es p)->∀ p2,upd H q1 (.lst []) p2=none->([v5,v4,.ref p2]:List V).length<=sizeLine/\∀ p3,upd (upd H q1 (.lst [])) p2 (.tup vs.reverse) p3=none->zmj 2 (.ref p3) σ (upd (upd (upd H q1 (.lst [])) p2 (.tup vs.reverse)) p3 (.tup [v5,v4,.ref p2])) N2.nx:=by
  intro vs dvs p2 hp2
  refine ⟨YZ (za4 (by simp)),fun p3 hp3=>?_⟩
  have x2:=Ext.new g1.fz hp2 (.tup vs.reverse); have g2:=g1.ext x2; have x3:=Ext.new g2.fz hp3 (.tup [v5,v4,.ref p2]); have g3:=g2.ext x3
  have ss:zaS Hi (upd (upd Hi p2 (.tup vs.reverse)) p3 (.tup [v5,v4,.ref p2])):=x1.hi.trans (x2.hi.trans x3.hi)
  have dn:Den K (upd (upd Hi p2 (.tup vs.reverse)) p3 (.tup [v5,v4,.ref p2])) (.ref p3) (.tup [.str l,plc ws,.tup (kdF es p).reverse]) :=
   Den.mkT zv (.cons (d5.mono ss) (.cons (d4.mono ss) (.cons (Den.mkT (x3.hi _ _ zv) ((zrA dvs).mono ss)) .nil)))
  have g4:=g3.set (i:=2) h6 dn
  refine q _ _ _ ss (fun x o e=>⟨x3.h _ _ (x2.h _ _ (x1.h _ _ e)),?_⟩) g4
  exact (x3.fro _ _ (x2.h _ _ (x1.h _ _ e))).trans (x2.fro _ _ (x1.h _ _ e))
 cases hf:es.find? fun e=>decide (e.1=p) with
 | none =>
  refine ⟨q1,[],rfl,SqL.of zv,fin [] ?_⟩; unfold kdF; rw [hf]; exact .nil
 | some e =>
  have hm:=List.mem_of_find?_eq_some hf; obtain ⟨_,_,vs,h3,h4⟩:=k.lst e hm; refine ⟨e.2.1,vs,rfl,SqL.of (x1.h _ _ h3),fin vs ?_⟩; unfold kdF; rw [hf]; exact h4
theorem NoOwn.free {Γ:Sts} (no:NoOwn Γ) (x:Addr):Free n W Γ σ x:=⟨fun j o e=>yM e (no.own j o),fun j d xs e=>yM e (no.bk j d x xs)⟩
def zm4 (es:List Ent) (q:List (List Nat)) (d:D):List Ent:=es.map fun x=>if x.1=q then (x.1,x.2.1,x.2.2 ++ [d]) else x
theorem zoW (es:List Ent) (q:List (List Nat)) (d:D):(zm4 es q d).map (·.1)=es.map (·.1):=by
 unfold zm4; rw [yt]
 refine YC fun x _=>?_
 show (if x.1=q then (x.1,x.2.1,x.2.2 ++ [d]) else x).1=x.1
 split <;> rfl
theorem zj6 (es:List Ent) (q:List (List Nat)) (d:D):(zm4 es q d).map (·.2.1)=es.map (·.2.1):=by
 unfold zm4; rw [yt]
 refine YC fun x _=>?_
 show (if x.1=q then (x.1,x.2.1,x.2.2 ++ [d]) else x).2.1=x.2.1
 split <;> rfl
theorem zoV (es:List Ent) (q:List (List Nat)) (d:D):((zm4 es q d).map fun e=>(za8 e.1,V.ref e.2.1))=es.map fun e=>(za8 e.1,V.ref e.2.1):=by
 unfold zm4; rw [yt]
 refine YC fun x _=>?_
 show (za8 (if x.1=q then (x.1,x.2.1,x.2.2 ++ [d]) else x).1,V.ref (if x.1=q then (x.1,x.2.1,x.2.2 ++ [d]) else x).2.1)=_
 split <;> rfl
theorem zrf {es:List Ent} {q:List (List Nat)} (d:D) {e:Ent} (h:es.find? (fun e=>decide (e.1=q))=some e) (p:List (List Nat)):kdF (zm4 es q d) p=if p=q then kdF es p ++ [d] else kdF es p:=by
 unfold kdF zm4
 induction es with
 | nil=>cases h
 | cons x r ih =>
  rw [yZ,YF,YF]; rw [YF] at h
  by_cases hx:x.1=q
  ·by_cases hp:p=q
   ·subst hp
    simp [hx]
   ·have:¬ x.1=p:=fun z=>hp (z.symm.trans hx)
    have this':¬ q=p:=fun z=>hp z.symm
    rw [yQ hp]; simp only [yS hx,yV this]
    clear ih h
    congr 1
    induction r with
    | nil=>rfl
    | cons y r ih2 =>
     rw [yZ,YF,YF]
     by_cases hy:y.1=q
     ·have hy':¬ y.1=p:=fun z=>hp (z.symm.trans hy)
      simp only [yS hy,yV hy']; exact ih2
     ·by_cases hy':y.1=p
      ·rw [yQ hy]
       simp only [YB hy']
      ·simp only [yQ hy,yV hy']
       exact ih2
  ·simp only [yV hx] at h
   have:=ih h
   by_cases hxp:x.1=p
   ·have hpq:¬ p=q:=fun z=>hx (hxp.trans z)
    simp [hxp,hpq]
   ·simp only [yQ hx,yV hxp]
    exact this
theorem zre {es:List Ent} {q:List (List Nat)} (d:D) (b:Addr) (h:es.find? (fun e=>decide (e.1=q))=none) (p:List (List Nat)):kdF (es ++ [(q,b,[d])]) p=if p=q then kdF es p ++ [d] else kdF es p:=by
 unfold kdF; rw [List.find?_append]
 by_cases hp:p=q
 ·subst hp
  rw [h]; simp
 ·rw [yQ hp]
  have:¬ q=p:=fun z=>hp z.symm
  cases es.find? fun e=>decide (e.1=p) <;> simp [this]
theorem znv {N2:Ends} {rD sl:Slot} {nd:D} {p ws:List (List Nat)} (h6:n=6) (g:Good K n W Hi [rD,.val (.adr a),.val nd,.val (plc p),.val (plc ws),sl] σ H) (no:NoOwn [rD,.val (.adr a),.val nd,.val (plc p),.val (plc ws),sl]) (k:KdAt K Hi H a es)
  (hL:∀ x ∈ a :: es.map (·.2.1),W.H₀ x=none) (hl:es.length<900) (hs:∀ e ∈ es,e.2.2.length<900)
  (q:∀ es' Hi' H',zaS Hi Hi'->Good K n W Hi' [rD,.val (.adr a),.val nd,.val (plc p),.val (plc ws),sl] σ H'->KdAt K Hi' H' a es'->(∀ x ∈ a :: es'.map (·.2.1),W.H₀ x=none)->es'.length<=es.length+1->(∀ m,(∀ e ∈ es,e.2.2.length<=m)->∀ e ∈ es',e.2.2.length<=m+1)->(∀ r,kdF es' r=if r=p.dropLast then kdF es r ++ [nd] else kdF es r)->N2.nx σ H') :
  zpY (tBM K "list" ziB (zk7 (zkb 1) (tOf K n (zbg zju (zZ 3) zag (zbh (tC' (.int (-1)))))) (zr7 zmU)) (zfV (zkb 2) zmU)) N2 σ H:=by
 obtain ⟨v2,e2,d2⟩:=g.val 2 _ rfl; obtain ⟨v1,e1,d1⟩:=g.val 1 _ rfl; have d1':=d1.adrI
 subst d1'
 obtain ⟨ep,hd⟩:=k.dict
 have hL2:∀ x ∈ a :: es.map (·.2.1),Hi x=none/\∃ o,H x=some o:=fun x hx=>by
  rcases yJ.mp hx with rfl | hx
  ·exact ⟨k.hi,_,hd⟩
  ·obtain ⟨e,he,rfl⟩:=yT.mp hx
   obtain ⟨_,h2,vs,h3,_⟩:=k.lst e he; exact ⟨h2,_,h3⟩
 refine ⟨.ref a,e1,a,_,ep,rfl,hd,W.prot (a :: es.map (·.2.1)) H,Hi,_,(fun d Γ'=>d=plc p.dropLast/\Γ'=[rD,.val (.adr a),.val nd,.val (plc p),.val (plc ws),sl]),g.prot no hL2,?_,?_⟩
 ·simp [zbg,zZ,zag,zbh,tC',zh7]
 rintro y H2 ⟨Hi2,d,Γ',s2,g2,dn,rfl,rfl⟩
 have k2:KdAt K Hi2 H2 a es:=k.mono s2 fun x hx o e=>g2.kept hx e
 have g2':=g2.unprot no hL; rw [zbJ] at dn; obtain ⟨b,rfl,hb⟩:=zer dn; obtain ⟨ep2,hd2⟩:=k2.dict
 refine ⟨yo _,fun q1 hq1=>?_⟩
 have x1:=Ext.newO g2'.fz hq1 (.lst []) (fun _ z=>nomatch z)
 have g3:=g2'.ext x1
 have na:a≠q1:=fun z=>by rw [<- z,hd2] at hq1; cases hq1
 have hW1:W.H₀ q1=none:=by
  cases hc:W.H₀ q1 with
  | none=>rfl
  | some o=>obtain ⟨o',ho⟩:=g2'.there _ _ hc; rw [hq1] at ho; cases ho
 have hi1:Hi2 q1=none:=g2'.fz.sub.free hq1
 have d2':=d2.mono s2
 have hne:∀ e ∈ es,e.2.1≠q1:=fun e he z=>by
  obtain ⟨_,_,vs,h3,_⟩:=k2.lst e he; rw [z,hq1] at h3; cases h3
 refine ⟨_,ep2,za8 p.dropLast,b,by rw [zI na]; exact hd2,rfl,x1.h _ _ (g2'.sub _ _ hb),by rw [yD]; exact za4 (by omega),fun v hv=>?_,fun hv ep'=>?_⟩
 ·rw [zme] at hv
  cases hf:es.find? fun e=>decide (e.1=p.dropLast) with
  | none=>rw [hf] at hv; cases hv
  | some e =>
   rw [hf] at hv; cases hv; have hm:=List.mem_of_find?_eq_some hf
   have hk:e.1=p.dropLast:=by simpa using List.find?_some hf
   obtain ⟨n1,n2,vs,n3,n4⟩:=k2.lst e hm
   have n3':upd H2 q1 (.lst []) e.2.1=some (.lst vs):=x1.h _ _ n3
   refine ⟨.inl ⟨rfl,vs,SqL.of n3'⟩,v2,e2,e.2.1,vs,v2,rfl,rfl,n3',za4 (by rw [zk n4]; have:=hs e hm; omega),?_⟩
   refine q (zm4 es p.dropLast nd) Hi2 _ s2 (g3.putN n2 (hL _ (yI _ (Yo hm))) (no.free _) (fun _ z=>nomatch z)) ⟨⟨ep2,?_⟩,k2.hi,by rw [zoW]; exact k2.keys,by rw [zj6]; exact k2.adrs,fun x hx=>?_⟩ (by rw [zj6]; exact hL) (by unfold zm4; rw [yD]; omega) (fun m hm' x hx=>?_) (zrf nd hf)
   ·rw [zI (fun z=>n1 z.symm),zI na,zoV]
    exact hd2
   ·obtain ⟨x0,hx0,rfl⟩:=yT.mp hx
    obtain ⟨m1,m2,us,m3,m4⟩:=k2.lst x0 hx0
    by_cases hxk:x0.1=p.dropLast
    ·rw [yS hxk]
     have ee:x0=e:=by
      have nd:=k2.keys
      have:∀ {l:List Ent},(l.map (·.1)).Nodup->∀ x ∈ l,∀ y ∈ l,x.1=y.1->x=y:=by
       intro l
       induction l with
       | nil=>intro _ x hx; cases hx
       | cons z r ih =>
        intro nd x hx y hy exy; have nd':=YD.mp nd
        rcases yJ.mp hx with h1 | h1
        ·rcases yJ.mp hy with h2 | h2
         ·rw [h1,h2]
         ·exact yM (yT.mpr ⟨y,h2,by rw [<- exy,h1]⟩) nd'.1
        ·rcases yJ.mp hy with h2 | h2
         ·exact yM (yT.mpr ⟨x,h1,by rw [exy,h2]⟩) nd'.1
         ·exact ih nd'.2 x h1 y h2 exy
      exact this nd x0 hx0 e hm (hxk.trans hk.symm)
     subst ee; exact ⟨n1,n2,_,zv,paired_app n4 (.cons d2' .nil)⟩
    ·rw [yQ hxk]
     have ne:x0.2.1≠e.2.1:=fun z=>by
      have:∀ {l:List Ent},(l.map (·.2.1)).Nodup->∀ x ∈ l,∀ y ∈ l,x.2.1=y.2.1->x=y:=by
       intro l
       induction l with
       | nil=>intro _ x hx; cases hx
       | cons z r ih =>
        intro nd x hx y hy exy; have nd':=YD.mp nd
        rcases yJ.mp hx with h1 | h1
        ·rcases yJ.mp hy with h2 | h2
         ·rw [h1,h2]
         ·exact yM (yT.mpr ⟨y,h2,by rw [<- exy,h1]⟩) nd'.1
        ·rcases yJ.mp hy with h2 | h2
         ·exact yM (yT.mpr ⟨x,h1,by rw [exy,h2]⟩) nd'.1
         ·exact ih nd'.2 x h1 y h2 exy
      have:=this k2.adrs x0 hx0 e hm z
      rw [this] at hxk; exact hxk hk
     exact ⟨m1,m2,us,by rw [zI ne,zI (hne x0 hx0)]; exact m3,m4⟩
   ·obtain ⟨x0,hx0,rfl⟩:=yT.mp hx
    have hx1:=hm' x0 hx0
    by_cases hxk:x0.1=p.dropLast
    ·rw [yS hxk]
     show (x0.2.2 ++ [nd]).length<=m+1
     rw [yH,ya]; omega
    ·rw [yQ hxk]
     omega
 ·rw [zme] at hv
  cases hf:es.find? fun e=>decide (e.1=p.dropLast) with
  | some e=>rw [hf] at hv; cases hv
  | none =>
   have e4:upd (upd H2 q1 (.lst [])) a (.dE ((es.map fun e=>(za8 e.1,V.ref e.2.1)) ++ [(za8 p.dropLast,V.ref q1)]) ep') q1=some (.lst []):=by
    rw [zI (fun z=>na z.symm)]
    exact zv
   refine ⟨.inl ⟨rfl,[],SqL.of e4⟩,v2,e2,q1,[],v2,rfl,rfl,e4,za4 (by simp),?_⟩
   have g4:=g3.putN (p:=a) (u:=.dE ((es.map fun e=>(za8 e.1,V.ref e.2.1)) ++ [(za8 p.dropLast,V.ref q1)]) ep') k2.hi (hL a (by simp)) (no.free a) (fun _ z=>nomatch z)
   have hno:∀ e ∈ es,e.1≠p.dropLast:=fun e he=>by simpa using List.find?_eq_none.mp hf e he
   refine q (es ++ [(p.dropLast,q1,[nd])]) Hi2 _ s2 (g4.putN hi1 hW1 (no.free q1) (fun _ z=>nomatch z)) ⟨⟨ep',?_⟩,k2.hi,?_,?_,fun x hx=>?_⟩ (fun x hx=>?_) (by simp) (fun m hm' x hx=>?_) (zre nd q1 hf)
   ·rw [zI na,zv,YE]
    rfl
   ·rw [YE,JA]
    refine ⟨k2.keys,by simp,fun x hx y hy e=>?_⟩
    obtain ⟨z,hz,rfl⟩:=yT.mp hx
    exact hno z hz (by rw [e]; simpa using hy)
   ·rw [YE,JA]
    refine ⟨k2.adrs,by simp,fun x hx y hy e=>?_⟩
    obtain ⟨z,hz,rfl⟩:=yT.mp hx
    exact hne z hz (by rw [e]; simpa using hy)
   ·rcases yU.mp hx with z | z
    ·obtain ⟨m1,m2,us,m3,m4⟩:=k2.lst x z
     exact ⟨m1,m2,us,by rw [zI (hne x z),zI m1,zI (hne x z)]; exact m3,m4⟩
    ·rw [yc.mp z]
     exact ⟨fun z=>na z.symm,hi1,_,zv,.cons d2' .nil⟩
   ·rcases yJ.mp hx with rfl | hx
    ·exact hL _ (by simp)
    ·rw [YE] at hx
     rcases yU.mp hx with z | z
     ·exact hL x (yI _ z)
     ·rw [show x=q1 by simpa using z]; exact hW1
   ·rcases yU.mp hx with z | z
    ·have:=hm' x z; omega
    ·rw [yc.mp z]; simp
end
abbrev Row:=List (List Nat) × List (List Nat)
def zhA (r:Row):D:=.tup [plc r.1,plc r.2]
def zeX (p:List (List Nat)):List Nat:=p.getLast?.getD []
def zeV (f:List (List Nat)->List D) (r:Row):D:=.tup [.str (zeX r.1),plc r.2,.tup (f r.1).reverse]
def zd6 (s:(List (List Nat)->List D) × D) (r:Row):(List (List Nat)->List D) × D:=(fun q=>if q=r.1.dropLast then s.1 q ++ [zeV s.1 r] else s.1 q,zeV s.1 r)
def zca (rows:List Row):(List (List Nat)->List D) × D:=rows.foldl zd6 (fun _=>[],.non)
def zaB:TS':=fun N Γ=>∃ rows:List Row,Γ=[.val (.lst (rows.map zhA)),.own (.dit []),.val .non,.emp,.emp,.emp]/\rows.length<=800/\∀ a s3 s4 s5,N.nx [.val (.lst (rows.map zhA)),.val (.adr a),.val (zca rows.reverse).2,s3,s4,s5]
section
variable {X:Cx}
theorem no6 {x y z w:D} {s3 s4:Slot} (h3:s3=.emp\/∃ d,s3=.val d) (h4:s4=.emp\/∃ d,s4=.val d) {s5:Slot} (h5:s5=.emp\/∃ d,s5=.val d):NoOwn [.val x,.val y,.val z,s3,s4,s5]:=by
 constructor
 ·intro i o e
  rcases h3 with rfl | ⟨_,rfl⟩ <;> rcases h4 with rfl | ⟨_,rfl⟩ <;> rcases h5 with rfl | ⟨_,rfl⟩ <;> (match i,e with
   | 0,e | 1,e | 2,e | 3,e | 4,e | 5,e=>cases e
   | _+6,e=>cases e)
 ·intro i d b xs e
  rcases h3 with rfl | ⟨_,rfl⟩ <;> rcases h4 with rfl | ⟨_,rfl⟩ <;> rcases h5 with rfl | ⟨_,rfl⟩ <;> (match i,e with
   | 0,e | 1,e | 2,e | 3,e | 4,e | 5,e=>cases e
   | _+6,e=>cases e)
theorem zqn {tg iter:Expr} {S1 S2 S3:Stmt} {t1:TS'} {pos:Pos} (hn:X.N.length=6) (hi:PI' X tg iter (zam (zx (zZ 0) zad))) (hg:PG' X tg (zan 2 (zA (zw 3) (zA (zw 4) zao)))) (h1:PS' X S1 t1)
  (ht1:∀ (N:Ends') (rD nd s5:Slot) (a:Addr) (p ws:List (List Nat)),N.nx [rD,.val (.adr a),nd,.val (plc p),.val (plc ws),.val (.str (zeX p))]->t1 N [rD,.val (.adr a),nd,.val (plc p),.val (plc ws),s5])
  (h2:PS X S2 (zuD (zuw (zfV (zkb 5) (zfV (zkb 4) (zfV (zpW X.K (zk8 (zkb 1) (zkb 3) (zr7 zmU))) zmU)))) (zmj 2)))
  (h3:PS X S3 (zpY (tBM X.K "list" ziB (zk7 (zkb 1) (tOf X.K X.N.length (zbg zju (zZ 3) zag (zbh (tC' (.int (-1)))))) (zr7 zmU)) (zfV (zkb 2) zmU))))
  (hp:PassesOwn (model X.prog X.w) X.A X.env X.xe:=by exact PassesOwn.never) (hc:X.calm=true:=by rfl) (hs:∀ x,foldedSetIterable iter X.env x=pure x:=by intro _; rfl):PS' X (.For tg iter [S1,S2,S3] [] pos) zaB:=by
 refine ⟨PS.weak (zpd hp hc hi.h hg.h (zgN h1.h (zgN h2 (zly h3))) hs) ?_⟩
 rintro N2 σ H ⟨W,Hi,Γ,N,gd,⟨rows,rfl,hlen,q⟩,l⟩
 refine ⟨W,Hi,_,(fun ds Γ'=>ds=(rows.map zhA).reverse/\Γ'=[.val (.lst (rows.map zhA)),.own (.dit []),.val .non,.emp,.emp,.emp]),gd,by simp [zam,zx,zZ,zad],?_⟩
 rintro J H1 Hi1 Γ1 ds s1 g1 itd ⟨rfl,rfl⟩
 obtain ⟨a,o1,o2,o3,kvs,ep,o4,o5⟩:=g1.own 1 _ rfl
 have h1n:1<X.N.length:=by omega
 have ek:kvs=[]:=by cases o5; rfl
 subst ek
 have ga:Good X.K X.N.length W Hi1 [.val (.lst (rows.map zhA)),.val (.adr a),.val .non,.emp,.emp,.emp] σ H1:=g1.toAdr (i:=1) h1n rfl o1 (no6 (w:=.non) (.inl rfl) (.inl rfl) (.inl rfl))
 refine ⟨fun i m σ' H'=>m=rows.length-i/\i<=rows.length/\∃ Hi' es nd s3 s4 s5,zaS Hi1 Hi'/\Good X.K X.N.length W Hi' [.val (.lst (rows.map zhA)),.val (.adr a),.val nd,s3,s4,s5] σ' H'/\NoOwn [.val (.lst (rows.map zhA)),.val (.adr a),.val nd,s3,s4,s5]/\(s3=.emp\/∃ d,s3=.val d)/\(s4=.emp\/∃ d,s4=.val d)/\(s5=.emp\/∃ d,s5=.val d)/\KdAt X.K Hi' H' a es/\(∀ x ∈ a :: es.map (·.2.1),W.H₀ x=none)/\es.length<=i/\(∀ e ∈ es,e.2.2.length<=i)/\zca (rows.reverse.take i)=(kdF es,nd),
  ⟨rows.length,by simp,yo _,Hi1,[],.non,.emp,.emp,.emp,zaS.refl _,ga,no6 (w:=.non) (.inl rfl) (.inl rfl) (.inl rfl),.inl rfl,.inl rfl,.inl rfl,⟨⟨ep,o4⟩,o2,by simp,by simp,by simp⟩,by simpa using o3 h1n,by simp,by simp,rfl⟩,?_⟩
 rintro i m σ' H' ⟨rfl,hi',Hi',es,nd,s3,s4,s5,s2,g2,no,f3,f4,f5,kd,hL,he,hs',hf⟩
 have wk:=itd Hi' H' s2 g2.fz
 by_cases hlt:i<rows.length
 ·have hr:i<rows.reverse.length:=by rw [ym]; exact hlt
  obtain ⟨r,hrr⟩:∃ r,rows.reverse[i]?=some r:=⟨_,yC hr⟩
  obtain ⟨go,yl⟩:=wk.1 i (zhA r) (by rw [<- List.map_reverse,yL,hrr]; rfl)
  refine .inr ⟨go,_,fun σ3 H3 z=>⟨rows.length-(i+1),by omega,rfl,hlt,z⟩,fun x H'' y=>?_⟩
  obtain ⟨Hi'',ex,den⟩:=yl x H'' y
  have hiL:∀ x ∈ a :: es.map (·.2.1),Hi' x=none/\∃ o,H' x=some o:=fun x hx=>by
   rcases yJ.mp hx with rfl | hx
   ·obtain ⟨ep,e⟩:=kd.dict
    exact ⟨kd.hi,_,e⟩
   ·obtain ⟨e,he,rfl⟩:=yT.mp hx
    obtain ⟨_,h2,vs,h3,_⟩:=kd.lst e he; exact ⟨h2,_,h3⟩
  have kd1:KdAt X.K Hi'' H'' a es:=kd.mono ex.hi fun x hx o e=>⟨ex.h _ _ e,(ex.fro _ _ e).trans (hiL x hx).1⟩
  have hiL1:∀ x ∈ a :: es.map (·.2.1),Hi'' x=none/\∃ o,H'' x=some o:=fun x hx=>by
   obtain ⟨h1,o,h2⟩:=hiL x hx; exact ⟨(ex.fro _ _ h2).trans h1,o,ex.h _ _ h2⟩
  refine ⟨W.prot (a :: es.map (·.2.1)) H'',Hi'',_,zhA r,(fun Γ'=>Γ'=[.val (.lst (rows.map zhA)),.val (.adr a),.val nd,.val (plc r.1),.val (plc r.2),s5]),(g2.ext ex).prot no hiL1,den,⟨[plc r.1,plc r.2],rfl,rfl,plc r.1,[plc r.2],rfl,plc r.2,[],rfl,rfl,rfl⟩,?_⟩
  rintro σ4 H4 Hi4 Γ4 s4' g4 rfl
  refine ⟨W.prot (a :: es.map (·.2.1)) H'',Hi4,_,{ nx:=fun Γ'=>Γ'=[.val (.lst (rows.map zhA)),.val (.adr a),.val nd,.val (plc r.1),.val (plc r.2),.val (.str (zeX r.1))],rt:=fun _ _=>False,bk:=fun _=>False,ct:=fun _=>False },g4,ht1 _ _ _ _ _ _ _ rfl,⟨fun σ5 H5 Hi5 Γ5 s5' g5 e5=>?_,fun _ _ _ _ _ _ z=>z.elim,fun _ _ _ _ _ _ z=>z.elim,fun _ _ _ _ _ _ _ _ _ z=>z.elim⟩⟩
  subst e5
  have no5:NoOwn [.val (.lst (rows.map zhA)),.val (.adr a),.val nd,.val (plc r.1),.val (plc r.2),.val (.str (zeX r.1))]:=no6 (w:=.non) (.inr ⟨_,rfl⟩) (.inr ⟨_,rfl⟩) (.inr ⟨_,rfl⟩)
  have kd3:KdAt X.K Hi5 H5 a es:=kd1.mono (s4'.trans s5') fun x hx o e=>g5.kept hx e
  have g5':=g5.unprot no5 hL
  refine zlh (by omega) g5' kd3 fun v Hi6 H6 s6 kp6 g6=>?_
  have no6':NoOwn [.val (.lst (rows.map zhA)),.val (.adr a),.val (zeV (kdF es) r),.val (plc r.1),.val (plc r.2),.val (.str (zeX r.1))]:=no6 (w:=.non) (.inr ⟨_,rfl⟩) (.inr ⟨_,rfl⟩) (.inr ⟨_,rfl⟩)
  have kd6:KdAt X.K Hi6 H6 a es:=kd3.mono s6 fun x hx o e=>by
   obtain ⟨k1,k2⟩:=kp6 x o e; refine ⟨k1,k2.trans ?_⟩
   rcases yJ.mp hx with rfl | hx
   ·exact kd3.hi
   ·obtain ⟨e',he',rfl⟩:=yT.mp hx
    exact (kd3.lst e' he').2.1
  refine znv hn g6 no6' kd6 hL (by omega) (fun e he=>by have:=hs' e he; omega) fun es' Hi7 H7 s7 g7 k7 hL7 hl7 hs7 hf7=>?_
  refine ⟨Hi7,es',_,_,_,_,?_,g7,no6',.inr ⟨_,rfl⟩,.inr ⟨_,rfl⟩,.inr ⟨_,rfl⟩,k7,hL7,by omega,fun e he'=>hs7 i hs' e he',?_⟩
  ·exact s2.trans (ex.hi.trans (s4'.trans (s5'.trans (s6.trans s7))))
  ·unfold zca at hf ⊢
   rw [Yh,hrr,JK,hf]
   show zd6 (kdF es,nd) r=_
   unfold zd6
   exact Prod.ext (funext fun z=>(hf7 z).symm) rfl
 ·have e:i=rows.length:=by omega
  subst e; have wk2:=wk.2; rw [ym,yD] at wk2
  rw [show rows.reverse.take rows.length=rows.reverse from yr (by simp)] at hf
  refine .inl ⟨wk2,l.nx σ' H' Hi' _ (s1.trans s2) g2 ?_⟩
  have:=q a s3 s4 s5
  rw [hf] at this; exact this
end
end PL
namespace X1
open PySem PyProof.Rows
section
variable {prog:Program} {w:World} {A:Around} {E:Value->Shared->Prop} {h:Heap} {g:Array GenState} {d:Drawn} {t:Nat} {os:OsState} {C N:Addr} {bm bmB:List Value} {B nid iid:String} {mN:Str->Option Value} {zba:List Value}
theorem make0 {Q:Value->Shared->Prop} (F:ExcBaseFacts B nid iid bmB) (T:OwnTail h bmB bm) (X:XC h C N bm nid) (hn:h.Ns N mN) (hi:mN "__init__"=none) (hr:zba.length<=sizeLine)
  (k:∀ h' t0 sl,(∀ b o,h.get? b=some o->h'.get? b=some o)->h'.get? (h.objs.size+1)=some ⟨.ref C,none,.fields #[.ref t0,.none,.none,.none,.bool false,.none],sl⟩->Q (.ref (h.objs.size+1)) ⟨h',g,d,t,os⟩) :
  wpAny (model prog w) A (call (.ref C) zba) Q E ⟨h,g,d,t,os⟩:=by
 obtain ⟨nm,q,bs,hd,sn,sub,ab,col,dd,k0,k1,k2,k3,k5,hC⟩:=X.ex; have f1:=tc_lookup; have f2:=tc_bind (.ref C)
 have hT:(⟨h,g,d,t,os⟩:Shared).TypeIs (.ref C) "type":=⟨_,hC,rfl⟩
 refine wpAny_call (codeAny_of_tree ?_)
 show wpAny _ _ (callAny (.ref C) _) _ _ _
 repeat (any_goals (first | assumption | with_reducible refine wpAny_loadPart_at hC ?_ | wp_step))
 refine ⟨rfl,?_⟩
 refine codeAny_call_builtin_at (Code.quiet_builtin _ (by decide +kernel)) entry_typeCall (wpAny_check_type_call_sub hC ?_)
 repeat (first | with_reducible refine wpAny_loadPart_at hC ?_ | with_reducible refine wpAny_madeBy_exc hC ?_ | wp_step)
 refine codeAny_call_builtin_code (Code.quiet_builtin _ F.quiet) (wpAny_check_new_subT F T hC ?_); refine codeAny_exc_new_subT F T hC ?_ hr
 show wpAny _ _ _ _ _ (⟨zkz h C zba,g,d,t,os⟩:Shared)
 have hC1:=zcz (C:=C) (vs:=zba) _ _ hC
 have hn1:(zkz h C zba).Ns N mN:=hn.keeps zcz
 have hg1:=zol (h:=h) (C:=C) (vs:=zba); have T1:=T.keeps (zcz (C:=C) (vs:=zba))
 have hcC:(Value.ref C :: bm).contains (.ref C)=true:=by simp
 unfold isInstance
 repeat (first | with_reducible refine wpAny_loadPart_at hg1 ?_ | (with_reducible refine wpAny_isSubtype_exc hC1 ?_; rw [hcC]) | wp_step)
 show wpAny _ _ (typeLookup (.ref C) _) _ _ _
 refine wpAny_typeLookup_tail hC1 hn1 T1 F.mroIs F.init.lookup ?_; rw [hi]
 have X1':XC (zkz h C zba) C N bm nid:=X.kp zcz
 refine YW (yA (Yg (F.init.bind (.ref (h.objs.size+1))) ?_)); refine yA (zmK F T1 X1' hg1 (t0:=h.objs.size) rfl hr ?_)
 refine yE (L2.ite_neg (by decide) (yE ?_))
 refine k _ (zkz h C zba).objs.size _ (fun b o e=>?_) (YR _ (yB _ hg1) rfl)
 have lt:=yN e
 rw [YA _ _ (fun z=>yM lt (by rw [<- z]; exact Nat.not_lt.mpr (Nat.le_succ _)))]
 exact yB _ (zcz _ _ e)
end
end X1
namespace L2
open PySem PySem.Spec PyProof.Rows
structure XNo (K:W.Frag) (N:Addr):Prop where
 ns:∀ h:Heap,K.In h->∃ mN,h.Ns N mN/\mN "__init__"=none
section
variable {X:Cx}
def zpU (C:Addr) (ta:TA):TSx:=fun _ E σ H=>ta σ H fun vs H1=>(∃ v,vs=[v])/\E σ (.ref C) none H1
theorem zkY {C N:Addr} {bm:List Value} {x:Str} {e:Expr} {ta:TA} {p cpos pos:Pos} (hc:X.calm=true) (T:XCl X.K C N bm) (TI:XNo X.K N)
  (hg:Gl X x) (hm:X.mg x=some (.ref C)) (ha:PA X.nox [e] ta) (hs:starEach [e] X.env=(false,eval e X.env) :: starEach [] X.env:=by rfl) (hdb:(x == ("__debug__":Str))=false:=by decide) :
  PSx X (.Raise (some (.Call (.Name x p) [e] [] cpos)) none pos) (zpU C ta):=by
 intro pins s σ H D E I h; rw [arm_exec_Raise]; refine yA (wpAny_standAt ?_)
 show wpAny _ _ (raiseStmt X.env (some (do let v <- eval (.Call (.Name x p) [e] [] cpos) X.env; standAt pos; pure v)) none) _ _ _
 refine X1.raise_at (C:=C) (N:=N) (nid:="ValueError.__new__") T.base (I.ok.hd hc) (yA ?_); refine Ys (zdZ I hg hm ?_ hdb)
 refine W.callWith_K (h₀:=X.base) I.ok.mod.kin T.kp (thn (PA.x ha I h) fun us s1 ⟨vs,H1,I1,r,⟨v,ev⟩,q⟩=>⟨I1.kIn,?_⟩) hs rfl
 subst ev; obtain ⟨u,rfl,ru⟩:=zcX r; obtain ⟨hh,g,d,t,os⟩:=s1; obtain ⟨mN,hN,hi⟩:=TI.ns hh I1.kIn; have xc:=T.xc hh I1.kIn
 refine X1.make0 PySem.F.excBase_ValueError (T.tail hh I1.kIn) xc hN hi (by show 1<=sizeLine; exact YZ (za4 (by decide))) fun h' t0 sl kp m1=>?_
 have I2:Inv X pins σ H1 ⟨h',g,d,t,os⟩:=I1.kept (t':=t) kp
 refine yA (wpAny_standAt (yE ⟨hh.objs.size+1,none,_,sl,rfl,T.xc _ I2.kIn,m1,rfl,hh.objs.size+1,C,none,σ,H1,rfl,I2,⟨?_,_,⟨sl,m1⟩,by simp,.inl ⟨rfl,rfl⟩⟩,q⟩))
 exact I1.fpOk (Nat.le_succ _) (I1.hok.fresh (Nat.le_succ _))
end
end L2
namespace PL
open PySem L2
structure Xc0 (K:W.Frag) (mg:Str->Option Value) (x:Str) (C:Addr):Prop where
 ex:∃ N bm,XCl K C N bm/\XNo K N/\mg x=some (.ref C)
section
variable {X:Cx} {x:Str} {C:Addr} {p cpos pos:Pos} {e:Expr} {ta:TA'}
def zm (C:Addr) (ta:TA'):zhi:=fun _ E Γ=>ta Γ fun ds Γ1=>(∃ d,ds=[d])/\E C [] Γ1
theorem zf6 (T:Xc0 X.K X.mg x C) (ha:PA' X.nox [e] ta) (hc:X.calm=true:=by rfl) (hg:Gl X x:=by rfl) (hdb:(x == ("__debug__":Str))=false:=by decide) :
  PSx' X (.Raise (some (.Call (.Name x p) [e] [] cpos)) none pos) (zm C ta):=by
 obtain ⟨N,bm,h1,h2,m⟩:=T.ex; refine ⟨PSx.weak (zkY hc h1 h2 hg m ha.pa (zby (zaY ha.pl).1) hdb) ?_⟩
 rintro N2 E2 σ H ⟨W,Hi,Γ,N',E,g,q,l,xl⟩
 refine ⟨W,Hi,Γ,_,g,q,?_⟩
 rintro vs H1 Hi1 Γ1 ds s1 g1 dl ⟨⟨d,rfl⟩,q1⟩
 obtain ⟨v,rfl,den⟩:=zdi dl; exact ⟨⟨v,rfl⟩,xl σ _ _ Γ1 C none [] s1 g1 (.inl ⟨rfl,rfl⟩) q1⟩
end
end PL
namespace L2
open PySem PySem.Spec PyProof.Rows
section
variable {X:Cx}
def zuk (K:W.Frag) (M:Addr) (tb:TSx) (ts:TS):TSx:=fun D _ σ H=>tb D (fun σ1 c dd H1=>∃ C,c=.ref C/\W.exmOne K c (.ref M)=some true/\ts D σ1 H1) σ H
theorem zpN {M:Addr} {x:Str} {body suite:List Stmt} {b0:Stmt} {tb:TSx} {ts:TS} {p hpos pos:Pos} (hst:X.stack=X.env :: X.outer) (hf:X.env.frame=some X.env.locals) (hb:zi9 X body tb) (hs:∀ e,PSs (X.mark e) (b0 :: suite) ts) (hg:Gl X x) (hm:X.mg x=some (.ref M))
  (hdb:(x == ("__debug__":Str))=false:=by decide):PSx X (.Try body [.ExceptHandler (some (.Name x p)) none (b0 :: suite) hpos] [] [] pos) (zuk X.K M tb ts):=by
 intro pins s σ H D E I h
 refine wpAny_Try_except (yx (hb pins s σ H D _ I h) (fun f s1 q=>?_) fun v s1 q=>?_)
 ·cases f with
  | next=>exact Yx q
  | ret v=>exact q
  | brk=>exact q
  | cont=>exact q
 ·obtain ⟨ae,C,dd,σ1,H1,rfl,I1,F,C',hC,hx,q⟩:=q
  obtain rfl:C=C':=Value.ref.inj hC
  refine zk5 hst hf I1 F fun s2 T vs I2 fe fT hne x1 x2 x3=>?_
  refine wpAny_handleBy_cons (codeAny_handlers_test ?_) (by intro q; cases q)
  refine zdZ (X:=X.mark (.ref ae)) (I2.mark (.ref ae)) hg hm ?_ hdb; obtain ⟨sl,x1'⟩:=id x1
  have LT:W.Looks (model X.prog X.w) s2.heap (typeOf (.ref ae)) (.ref C):=(W.Looks.ld x1').andThen .now
  refine (W.exm_one I2.kIn LT hx).at ?_
  show codeAny _ _ _ _ _
  refine codeAny_handlers_suite ?_
  refine X1.flight (R:=fun _=>True) x1 x2 hne x3 True.intro fun h3 y1 y2 y3 y4=>?_
  obtain ⟨g0,g1,g2,g3,g4,g5⟩:=id fT
  have I3:Inv X pins σ1 H1 { s2 with heap:=h3 }:=I2.turned (t':=s2.toks) (fun b o hb eb=>by rw [y3 b hb]; exact eb) g0 g1 g3 g4 g5
  refine yx (hs (.ref ae) pins _ _ _ _ (I3.mark (.ref ae)) q) (fun f s6 q6=>?_) fun _ _ z=>False.elim z
  cases f with
  | next =>
   obtain ⟨σ6,H6,I6,q6⟩:=q6; exact ⟨_,_,I6.unmark I.ok,q6⟩
  | brk =>
   obtain ⟨σ6,H6,I6,q6⟩:=q6; exact ⟨_,_,I6.unmark I.ok,q6⟩
  | cont =>
   obtain ⟨σ6,H6,I6,q6⟩:=q6; exact ⟨_,_,I6.unmark I.ok,q6⟩
  | ret u =>
   obtain ⟨v6,σ6,H6,I6,r6,q6⟩:=q6; exact ⟨_,_,_,I6.unmark I.ok,r6,q6⟩
end
end L2
namespace PL
open PySem PySem.Spec PyProof.Rows L2
section
variable {X:Cx} {M:Addr} {x:Str} {body suite:List Stmt} {b0:Stmt} {tb:zhi} {ts:TS'} {p hpos pos:Pos}
def zJ (K:W.Frag) (M:Addr) (tb:zhi) (ts:TS'):TS':=fun N Γ=>tb N (fun C _ Γ1=>W.exmOne K (.ref C) (.ref M)=some true/\ts N Γ1) Γ
theorem znO (hb:PSsx' X body tb) (hs:∀ e,PSs' (X.mark e) (b0 :: suite) ts) (hm:X.mg x=some (.ref M)) (hst:X.stack=X.env :: X.outer:=by rfl) (hf:X.env.frame=some X.env.locals:=by rfl) (hg:Gl X x:=by rfl)
  (hdb:(x == ("__debug__":Str))=false:=by decide):PS' X (.Try body [.ExceptHandler (some (.Name x p)) none (b0 :: suite) hpos] [] [] pos) (zJ X.K M tb ts):=by
 have h0:=zpN (X:=X) (p:=p) (hpos:=hpos) (pos:=pos) (ts:=sOf X.K X.N.length ts) hst hf hb.h (fun e=>(hs e).h) hg hm hdb
 refine ⟨fun pins s σ H N2 I q=>?_⟩
 refine yx (h0 pins s σ H N2 (fun _ _ _ _=>False) I ?_) (fun _ _ z=>z) fun v s' z=>?_
 ·obtain ⟨W,Hi,Γ,N,g,h,l⟩:=q
  refine ⟨W,Hi,Γ,N,_,g,h,l,?_⟩
  rintro σ1 H1 Hi1 Γ1 C dd fs s1 g1 xd ⟨hx,q1⟩
  exact ⟨C,rfl,hx,W,_,_,_,g1,q1,l.mono s1⟩
 ·obtain ⟨_,_,_,_,_,_,_,_,z⟩:=z
  exact z.elim
end
end PL
namespace L2
open PySem PySem.Spec PyProof.Rows
section
variable {prog:Program} {w:World} {A:Around} {s:Shared}
theorem zkK {R:Result->Shared->Prop} {it l S:Addr} {items:Array Value} {c₀:Nat} {res:Value} (hd:A.handled=none) (st:s.heap.IsRevIter it l ((items.size:Int)-1)) (hl:s.heap.IsList l items) (ne:it≠l) (hsz:items.size<=sizeLine) (hSi:S≠it) (hSl:S≠l)
  (hS:s.heap.get? S=some { cls:=.type "list",data:=.seq #[] c₀ })
  (hR:∀ s' acc' c',Moved [S,it] (fun a b=>b=a) s s'->s'.heap.get? S=some { cls:=.type "list",dict:=none,data:=.seq acc' c',slots:=#[] }->acc'.toList=items.toList.reverse->R (.ok (.ret res)) s') :
  wpAny (model prog w) A.in1 (Builtin.List.listExtendWith (.ref S) (.ref it) res) (fun fin s'=>match fin with | .done f=>R (.ok f) s' | .again c'=>c'.quiet=true/\codeAny (model prog w) A c' R s') (fun e s'=>R (.error e) s') s:=by
 have W:=zhk (prog:=prog) (w:=w) (A:=A.in1) hd it l items ne
 have hT:s.TypeIs (.ref it) "list_reverseiterator":=by
  obtain ⟨o,ho,hc,_⟩:=st; exact ⟨o,ho,hc⟩
 have st0:s.heap.IsRevIter it l ((items.size:Int)-1-((0:Nat):Int))/\s.heap.IsList l items/\0<=items.size:=by
  rw [show (items.size:Int)-1-((0:Nat):Int)=(items.size:Int)-1 by omega]
  exact ⟨st,hl,yo _⟩
 unfold Builtin.List.listExtendWith; refine yA (wpAny_typeOf hT ?_)
 have hno:¬ ((Builtin.List.listSameRef (.ref S) (.ref it) || Value.type "list_reverseiterator" == Value.type "list" || Value.type "list_reverseiterator" == Value.type "tuple")=true):=by
  have:Builtin.List.listSameRef (.ref S) (.ref it)=false:=by
   unfold Builtin.List.listSameRef; simp; exact hSi
  rw [this]
  decide
 rw [yQ hno]; refine yA (wpAny_pyIter_revIter st0.1 ?_); refine yA (YW (zjP hT ?_))
 refine ite_neg (by decide) ?_
 refine yE ⟨plainId_quiet PySem.F.plain_extend_loop _,?_⟩
 refine codeAny_extend_loopS W hsz S (by simp; exact ⟨hSi,hSl⟩) _ _ 0 _ #[] c₀ rfl (yo _) st0 hS ⟨rfl,fun j v z=>by simp at z⟩ fun s' acc c m e it'=>?_
 refine hR s' acc c m e ?_
 refine List.ext_getElem? fun j=>?_
 rw [JJ]
 by_cases hj:j<items.size
 ·have hj':j<acc.size:=by rw [it'.1]; exact hj
  have:=it'.2 j _ (yn hj')
  rw [yn hj',<- this,Yw (by simpa using hj)]
  simp
 ·rw [Array.getElem?_eq_none (by rw [it'.1]; omega),List.getElem?_eq_none (by simpa using Nat.le_of_not_lt hj)]
theorem zoI {R:Result->Shared->Prop} {it l S:Addr} {items:Array Value} (hd:A.handled=none) (st:s.heap.IsRevIter it l ((items.size:Int)-1)) (hl:s.heap.IsList l items) (ne:it≠l) (hsz:items.size<=sizeLine) (hSi:S≠it) (hSl:S≠l)
  (hS:s.heap.get? S=some { cls:=.type "list",data:=.seq #[] })
  (hR:∀ s' acc' c',Moved [S,it] (fun a b=>b=a) s s'->s'.heap.get? S=some { cls:=.type "list",dict:=none,data:=.seq acc' c',slots:=#[] }->acc'.toList=items.toList.reverse->R (.ok (.ret .none)) s') :
  wpAny (model prog w) A.in1 (Builtin.«list.__init__» ⟨[.ref S,.ref it],[]⟩) (fun fin s'=>match fin with | .done f=>R (.ok f) s' | .again c'=>c'.quiet=true/\codeAny (model prog w) A c' R s') (fun e s'=>R (.error e) s') s:=by
 show wpAny _ _ (Builtin.List.listItems (.ref S) >>= fun old=>Builtin.List.listUpdate (.ref S) (fun _=>#[]) >>= fun _=>letGo old.toList.reverse >>= fun _=>Builtin.List.listExtendWith (.ref S) (.ref it) .none) _ _ s
 unfold Builtin.List.listItems; refine yA (yA (Yr hS rfl (yE ?_)))
 show wpAny _ _ (updateSeq S (fun _=>#[]) >>= fun _=>letGo (#[]:Array Value).toList.reverse >>= fun _=>Builtin.List.listExtendWith (.ref S) (.ref it) .none) _ _ s
 have hS₂:=YR (Obj.mapSeq (fun _=>(#[]:Array Value))) hS rfl
 have oth:∀ b o,b≠S->s.heap.get? b=some o->(s.heap.update S (Obj.mapSeq (fun _=>(#[]:Array Value)))).get? b=some o:=fun b o hb e=>(YA _ _ (Ne.symm hb)).trans e
 refine yA (wpAny_updateSeq hS rfl (yA (wpAny_letGo ?_)))
 refine zkK hd ?_ ?_ ne hsz hSi hSl hS₂ fun s' acc c m e ea=>hR s' acc c (Moved.trans (G:=fun a b=>b=a) (fun _ _ _ h h'=>h'.trans h) ((Moved.refl (G:=fun a b=>b=a) (wr:=[S,it]) fun _=>rfl).then_heap (yG _) fun b o hb e=>oth b o (fun h=>hb (by rw [h]; exact yR)) e) m) e ea
 ·obtain ⟨o,ho,x⟩:=st
  exact ⟨o,oth _ _ (Ne.symm hSi) ho,x⟩
 ·obtain ⟨o,ho,x⟩:=hl
  exact ⟨o,oth _ _ (Ne.symm hSl) ho,x⟩
theorem zhf {E:Value->Shared->Prop} {it l:Addr} {items:Array Value} {Q:Value->Shared->Prop} (hd:A.handled=none) (st:s.heap.IsRevIter it l ((items.size:Int)-1)) (hl:s.heap.IsList l items) (ne:it≠l) (hsz:items.size<=sizeLine)
  (h:∀ s' acc c,Moved [s.heap.objs.size,it] (fun a b=>b=a) { s with heap:=s.heap.push { cls:=.type "list",data:=.seq #[] } } s'->s'.heap.get? s.heap.objs.size=some { cls:=.type "list",dict:=none,data:=.seq acc c,slots:=#[] }->acc.toList=items.toList.reverse->Q (.ref s.heap.objs.size) s') :
  wpAny (model prog w) A (call (.type "list") [.ref it]) Q E s:=by
 refine callType_codes (Q₁:=fun obj s₁=>obj=.ref s.heap.objs.size/\s₁={ s with heap:=s.heap.push { cls:=.type "list",data:=.seq #[] } }) PySem.F.called_list (PySem.F.typeCall_list_1 _) PySem.F.entry_list_init (code_list_new _ ⟨rfl,rfl⟩) fun obj s₁ h₁=>?_
 obtain ⟨rfl,rfl⟩:=h₁
 have lt:it<s.heap.objs.size:=by obtain ⟨o,ho,_⟩:=st; exact yN ho
 have ltl:l<s.heap.objs.size:=by obtain ⟨o,ho,_⟩:=hl; exact yN ho
 have hS:(s.heap.push { cls:=.type "list",data:=.seq #[] }).get? s.heap.objs.size=some { cls:=.type "list",data:=.seq #[] }:=yK _ rfl
 refine ⟨⟨_,hS,rfl⟩,PySem.F.args_list_init_2 _ _,zoI (A:=A.in1) hd ?_ ?_ ne hsz (Yf lt) (Yf ltl) hS fun s' acc c m e ea=>⟨rfl,h s' acc c m e ea⟩⟩
 ·obtain ⟨o,ho,x⟩:=st
  exact ⟨o,yB _ ho,x⟩
 ·obtain ⟨o,ho,x⟩:=hl
  exact ⟨o,yB _ ho,x⟩
end
section
variable {X:Cx}
def zuA (K:W.Frag) (to:TE):TE:=fun σ H Q=>to σ H fun x H1=>∃ a vs,x=.ref a/\SqL K H1 a vs/\∀ p,H1 p=none->Q (.ref p) (upd H1 p (.lst vs.reverse))
theorem zqG {o:Expr} {to:TE} {p1 p2 pos1 pos2:Pos} (hc:X.calm=true) (hg1:Gl X "list") (hm1:X.mg "list"=none) (hg2:Gl X "reversed") (hm2:X.mg "reversed"=none) (ho:PE X o to) (hs2:starEach [o] X.env=[(false,eval o X.env)]:=by rfl)
  (hs1:starEach [Expr.Call (.Name "reversed" p2) [o] [] pos2] X.env=[(false,eval (Expr.Call (.Name "reversed" p2) [o] [] pos2) X.env)]:=by rfl) :
  PE X (.Call (.Name "list" p1) [.Call (.Name "reversed" p2) [o] [] pos2] [] pos1) (zuA X.K to):=by
 intro pins s σ H Q I h; refine Call_ (zcA I hg1 hm1 boot_list (yq ?_ hs1 rfl)); rw [hs1]
 show wpAny _ _ (spliced ((false,eval (Expr.Call (.Name "reversed" p2) [o] [] pos2) X.env) :: backTo pos1 [])) _ _ s
 refine YO ?_; refine Call_ (zcA I hg2 hm2 boot_reversed (yq ?_ hs2 rfl)); rw [hs2]
 show wpAny _ _ (spliced ((false,eval o X.env) :: backTo pos2 [])) _ _ s
 refine YO (thn (ho pins s σ H _ I h) fun u s1 ⟨x,H1,I1,rx,a,vs,ex,hq,q⟩=>Yl ?_)
 subst ex; cases rx; obtain ⟨its,rv,p,hz⟩:=I1.list hq; have hl:=rv.length; refine call_reversed_list (zb8 p) (Yl ?_)
 have lt:a<s1.heap.objs.size:=by obtain ⟨o,ho,_⟩:=zb8 p; exact yN ho
 have st:(s1.heap.push (revObj a ((its.toArray.size:Int)-1))).IsRevIter s1.heap.objs.size a ((its.toArray.size:Int)-1):=⟨_,yK _ rfl,rfl,rfl⟩
 have pl:(s1.heap.push (revObj a ((its.toArray.size:Int)-1))).IsList a its.toArray:=by
  obtain ⟨o,ho,hc,n,hd⟩:=zb8 p; exact ⟨o,yB _ ho,hc,n,hd⟩
 refine zhf (s:={ s1 with heap:=s1.heap.push (revObj a ((its.toArray.size:Int)-1)) }) (I1.ok.hd hc) st pl (Yf lt) (by rw [yO,<- hl]; exact hz) fun s3 acc c m e3 ea=>?_
 have kp:∀ b o,s1.heap.get? b=some o->s3.heap.get? b=some o:=fun b o e=>by
  have lb:=yN e
  refine m.heap b o (fun z=>?_) (yB _ (yB _ e))
  rcases yJ.mp z with z | z
  ·rw [z] at lb
   exact yM (Nat.lt_trans lb (by rw [YT]; exact Nat.lt_succ_self _)) (YS _)
  ·rw [yc.mp z] at lb
   exact yM lb (YS _)
 have es:({ s1 with heap:=s3.heap,toks:=s3.toks }:Shared)=s3:=by
  obtain ⟨h3,g3,d3,t3,o3⟩:=s3; have e1:=m.gens; have e2:=m.drawn; have e4:=m.os
  dsimp only at e1 e2 e4 ⊢
  rw [e1,e2,e4]
 have I3:=I1.laid (t':=s3.toks) (o:=.lst vs.reverse) kp (show s1.heap.objs.size<=(s1.heap.push (revObj a ((its.toArray.size:Int)-1))).objs.size by rw [YT]; omega)
  (show zbM X.prog X.w _ s3.heap _ (.lst vs.reverse) from ⟨by rw [ym]; exact hz,acc.toList,c,by rw [ea]; exact zjc rv,by simpa using e3⟩)
 rw [es] at I3
 exact ⟨.ref _,_,I3,rfl,q _ (I1.hok.fresh (by rw [YT]; omega))⟩
end
end L2
namespace PL
open PySem L2
section
variable {X:Cx}
def zr (to:TE'):TO':=fun Γ Q=>to Γ fun d Γ1=>∃ es,d=.lst es/\Q (.lst es.reverse) Γ1
theorem znT {o:Expr} {to:TE'} {p1 p2 pos1 pos2:Pos} (hc:X.calm=true) (hm1:X.mg "list"=none) (hm2:X.mg "reversed"=none) (ho:PE' X o to) (hg1:Gl X "list":=by rfl) (hg2:Gl X "reversed":=by rfl) (hst:zeS o=false:=by rfl):PO' X (.Call (.Name "list" p1) [.Call (.Name "reversed" p2) [o] [] pos2] [] pos1) (zr to):=by
 refine ⟨PE.weak (zqG hc hg1 hm1 hg2 hm2 ho.h (zby hst) rfl) ?_⟩
 rintro σ H Q ⟨W,Hi,Γ,Q',g,h,fin⟩
 refine ⟨W,Hi,Γ,_,g,h,?_⟩
 rintro x H1 ⟨Hi1,d,Γ1,s1,g1,den1,es,rfl,q⟩
 obtain ⟨a,vs,rfl,h1,h2⟩:=den1.lstI
 refine ⟨a,vs,rfl,zak g1.sub h1,fun p hp=>?_⟩
 exact fin p _ Hi1 Γ1 (.lst es.reverse) s1 (g1.ext (Ext.newO g1.fz hp _ (fun _ z=>by cases z))) (New.mk' g1 hp ⟨_,zv,zkr h2⟩) q
end
end PL
namespace L2
open PySem PySem.Spec PyProof.Rows
section
variable {X:Cx}
def zwb (sp:Sp) (te:TEx):TEx:=fun σ H Q E=>te σ H (fun v H1=>sp [v] H1 Q E0) E
theorem zrY {k:Nat} {f:Addr} {fd:FuncData} {ps:List Str} {sp:Sp} {x:Str} {e:Expr} {te:TEx} {p pos:Pos} (F:FnOk X.prog X.w X.K X.mg X.base CX0 k f fd ps sp) (hr:Room k X.A) (hg:Gl X x) (hm:X.mg x=some (.ref f)) (hk:W.keepIn X.K (.ref f)=true) (hb:zd2 X.K fd ps [])
  (he:PEx X e te) (hdb:(x == ("__debug__":Str))=false:=by decide) (hs:starEach [e] X.env=(false,eval e X.env) :: starEach [] X.env:=by rfl) (hpl:(backTo pos (starEach [] X.env)).any (·.1)=false:=by rfl) :
  PEx X (.Call (.Name x p) [e] [] pos) (zwb sp te):=by
 intro pins s σ H Q E I h; refine Ys (zdZ I hg hm ?_ hdb); refine W.callWith_K (h₀:=X.base) I.ok.mod.kin hk ?_ hs hpl; rw [hs]
 show wpAny _ _ (spliced ((false,eval e X.env) :: backTo pos [])) _ _ s
 refine YO (thn (he pins s σ H _ E I h) fun u s1 ⟨v,H1,I1,rv,q⟩=>Yl ⟨I1.kIn,?_⟩)
 have q':sp ([v] ++ []) H1 Q E0:=q
 refine yx (zo7 (X:=X.nox) (ds:=[]) (dvs:=[]) F hr hb .nil zsM (I1.wish _) (.cons rv .nil) q') (fun _ _ ⟨v,H',I',r,q⟩=>⟨v,H',I'.unwish,r,q⟩) fun _ _ z=>z.elim
end
end L2
namespace PL
open PySem L2
section
variable {X:Cx} {k:Nat} {x:Str} {ps:List Str} {sp:Sp'} {p pos:Pos} {e:Expr} {te:zmP}
def zaz (sp:Sp') (te:zmP):zmP:=fun Γ Q E=>te Γ (fun d Γ1=>sp [d] fun r=>Q r.toD Γ1) E
theorem zpT (h:Fn X.prog X.w X.K X.mg X.base k x ps sp) (hr:Room k X.A) (he:PEx' X e te) (hg:Gl X x:=by rfl) (hdb:(x == ("__debug__":Str))=false:=by decide) (hst:zeS e=false:=by rfl) :
  PEx' X (.Call (.Name x p) [e] [] pos) (zaz sp te):=by
 obtain ⟨f,fd,F,b,kp,m,_⟩:=h.ex; refine ⟨PEx.weak (zrY F hr hg m kp b he.h hdb (zby hst) rfl) ?_⟩
 rintro σ H Q E ⟨W,Hi,Γ,Q',E',g,h,fin,fix⟩
 refine ⟨W,Hi,Γ,_,E',g,h,?_,fix⟩
 rintro v H1 ⟨Hi1,d,Γ1,s1,g1,den,q⟩
 refine ⟨Hi1,[d],_,g1.fz,.cons den .nil,q,?_⟩; intro Hi2 H2 v r ex ro q2
 cases r with
 | val d=>exact fin v H2 ⟨Hi2,d,Γ1,s1.trans ex.hi,g1.ext ex,ro,q2⟩
 | own o =>
  obtain ⟨a,rfl,h1,h2,h3⟩:=ro; have nw:=zdy g1 ex h1 h2 h3; obtain ⟨u,hu⟩:=h3.there; exact fin _ H2 ⟨upd Hi2 a u,_,Γ1,s1.trans (ex.hi.trans (zaO h1 u)),(g1.ext ex).freezeA nw.hi nw.h0 nw.ne hu,h3.den h1 hu,q2⟩
 | bk d o =>
  obtain ⟨b',dv,hol,h1,h2,h3⟩:=ro; have nw:=zdy g1 ex h1 h2 h3; obtain ⟨u,hu⟩:=h3.there; exact fin _ H2 ⟨upd Hi2 b' u,_,Γ1,s1.trans (ex.hi.trans (zaO h1 u)),(g1.ext ex).freezeA nw.hi nw.h0 nw.ne hu,hol b' _ v o (h3.den h1 hu) (dv.mono (zaO h1 u)),q2⟩
end
end PL
namespace M12
open PySem L2 Lb PL MT MS M04
mutual
def zaU:Tr->Pl->List Row
 | .node _ ws ks,p=>(p,ws) :: zbu ks p
def zbu:List Tr->Pl->List Row
 | [],_=>[]
 | k :: ks,p=>zaU k (p ++ [k.lab]) ++ zbu ks p
end
theorem zgG (t:Tr) (p:Pl):zaU t p=(p,t.wds) :: zbu t.kds p:=by cases t; rfl
inductive Ds:Tr->Prop where
 | mk {l:List Nat} {ws:Pl} {ks:List Tr} (h:(ks.map Tr.lab).Nodup) (hk:∀ k ∈ ks,Ds k):Ds (.node l ws ks)
theorem Ds.nd {t:Tr} (h:Ds t):(t.kds.map Tr.lab).Nodup:=by cases h; assumption
theorem Ds.kids {t:Tr} (h:Ds t):∀ k ∈ t.kds,Ds k:=by cases h; assumption
theorem zkA (p:Pl) (l:List Nat):zeX (p ++ [l])=l:=by simp [zeX]
abbrev Fs:=(Pl->List D) × D
mutual
theorem zhY (t:Tr) (h:Ds t) (p:Pl) (hp:zeX p=t.lab) (f:Pl->List D) (nd:D) (hf:∀ r,f (p ++ r)=[]) :
  ∃ f':Pl->List D,(zaU t p).reverse.foldl zd6 (f,nd)=(f',trD t)/\(∀ x,x≠p.dropLast->¬ p <+: x->f' x=f x)/\(¬ p <+: p.dropLast->f' p.dropLast=f p.dropLast ++ [trD t]):=by
 match t,h with
 | .node l ws ks,h =>
  obtain ⟨g,nd',e,h1,h2⟩:=zhZ ks h.nd h.kids p f nd fun k _ r=>by rw [Yk]; exact hf _
  have hr:zaU (.node l ws ks) p=(p,ws) :: zbu ks p:=rfl
  have hp0:f p=[]:=by have:=hf []; rwa [YG] at this
  have en:zeV g (p,ws)=trD (.node l ws ks):=by
   unfold zeV; rw [h1,hp0,hp,zbI]; simp [Tr.lab,Tr.wds,Tr.kds]
  refine ⟨fun q=>if q=p.dropLast then g q ++ [trD (.node l ws ks)] else g q,?_,fun x hx hn=>?_,fun hn=>?_⟩
  ·rw [hr,Yz,JK,e]
   show zd6 (g,nd') (p,ws)=_
   unfold zd6; rw [en]
  ·show (if x=p.dropLast then _ else g x)=f x
   rw [yQ hx]
   refine h2 x (fun z=>hn (z ▸ List.prefix_refl _)) fun k _ z=>hn ((List.prefix_append _ _).trans z)
  ·show (if p.dropLast=p.dropLast then g p.dropLast ++ [trD (.node l ws ks)] else _)=_
   rw [yS rfl,h2 p.dropLast (fun z=>hn (by rw [z]; exact List.prefix_refl _)) fun k _ z=>hn ((List.prefix_append _ _).trans z)]
theorem zhZ (ks:List Tr) (nd0:(ks.map Tr.lab).Nodup) (hk:∀ k ∈ ks,Ds k) (p:Pl) (f:Pl->List D) (nd:D) (hf:∀ k ∈ ks,∀ r,f (p ++ [k.lab] ++ r)=[]) :
  ∃ (f':Pl->List D) (nd':D),(zbu ks p).reverse.foldl zd6 (f,nd)=(f',nd')/\f' p=f p ++ (ks.map trD).reverse/\∀ x,x≠p->(∀ k ∈ ks,¬ p ++ [k.lab] <+: x)->f' x=f x:=by
 match ks,nd0,hk,hf with
 | [],_,_,_=>exact ⟨f,nd,rfl,by simp,fun _ _ _=>rfl⟩
 | k :: r,nd0,hk,hf =>
  have nd1:=YD.mp nd0
  obtain ⟨g,nd',e,h1,h2⟩:=zhZ r nd1.2 (fun x hx=>hk x (yI _ hx)) p f nd fun x hx=>hf x (yI _ hx)
  have hne:∀ s:Pl,p ++ [k.lab] ++ s≠p:=fun s z=>by
   have:=yp List.length z
   simp at this
  have hpre:∀ (x:Tr),x ∈ r->∀ s:Pl,¬ p ++ [x.lab] <+: p ++ [k.lab] ++ s:=fun x hx s ⟨u,z⟩=>by
   rw [Yk,Yk] at z; have z2:=List.append_cancel_left z
   simp at z2
   exact nd1.1 (yT.mpr ⟨x,hx,z2.1⟩)
  obtain ⟨g2,e2,h3,h4⟩:=zhY k (hk k (by simp)) (p ++ [k.lab]) (zkA p k.lab) g nd' fun s=>by
   rw [h2 _ (hne s) fun x hx=>hpre x hx s]
   exact hf k (by simp) s
  have hd:(p ++ [k.lab]).dropLast=p:=List.dropLast_concat
  rw [hd] at h3 h4
  have hnp:¬ p ++ [k.lab] <+: p:=fun ⟨u,z⟩=>by
   have:=yp List.length z
   simp at this
  refine ⟨g2,trD k,?_,?_,fun x hx hn=>?_⟩
  ·show (zaU k (p ++ [k.lab]) ++ zbu r p).reverse.foldl zd6 (f,nd)=_
   rw [List.reverse_append,JK,e,e2]
  ·rw [h4 hnp,h1]
   simp
  ·rw [h3 x hx (hn k (by simp)),h2 x hx fun y hy=>hn y (yI _ hy)]
end
theorem zoK (t:Tr) (h:Ds t) (hl:t.lab=[]):(zca (zaU t []).reverse).2=trD t:=by
 obtain ⟨f,e,_⟩:=zhY t h [] (by rw [hl]; rfl) (fun _=>[]) .non fun _=>rfl
 unfold zca; rw [e]
theorem zlC {l:List Nat} (h:zY l=true):∀ c ∈ l,dig c=true\/sml c=true:=fun c hc=>by
 unfold zY at h; simp only [yX,yk] at h
 obtain ⟨⟨⟨⟨a1,a2⟩,_⟩,a3⟩,a4⟩:=h
 rw [<- zdk l] at hc
 rcases yU.mp hc with hm | hm
 ·exact .inl (yY.mp a3 c hm)
 ·exact .inr (zgu l c hm)
theorem zqp {l:List Nat} (h:zY l=true) {c:Nat} (h1:dig c=false) (h2:sml c=false):c ∉ l:=fun hc=>by
 rcases zlC h c hc with z | z
 ·rw [h1] at z; cases z
 ·rw [h2] at z; cases z
theorem ze0 (c:Nat):∀ {L:List (List Nat)} {x:Nat},x ∈ zaT c L->x=c\/∃ a ∈ L,x ∈ a
 | [],x,h=>by cases h
 | [a],x,h=>.inr ⟨a,by simp,h⟩
 | a :: b :: r,x,h=>by
  have h:x ∈ a ++ c :: zaT c (b :: r):=h
  rcases yU.mp h with z | z
  ·exact .inr ⟨a,by simp,z⟩
  ·rcases yJ.mp z with z | z
   ·exact .inl z
   ·rcases ze0 c z with z | ⟨y,hy,z⟩
    ·exact .inl z
    ·exact .inr ⟨y,yI _ hy,z⟩
theorem zio {p:Pl} (h:p.all zY=true) {c:Nat} (h1:dig c=false) (h2:sml c=false) (h3:c≠46):c ∉ M11.textOf p:=fun hc=>by
 unfold M11.textOf at hc; split at hc
 ·rw [yc] at hc; exact h3 hc
 ·rcases ze0 46 hc with z | ⟨a,ha,z⟩
  ·exact h3 z
  ·exact zqp (yY.mp h a ha) h1 h2 z
def zfo (r:Row):List Nat:=zaT 32 (M11.textOf r.1 :: r.2)
def zeP (t:Tr):List Nat:=zaT 10 ((zaU t []).map zfo)
structure RowOk (r:Row):Prop where
 len:r.1.length<=8
 lab:r.1.all zY=true
 wds:r.2.length<=6
 wlen:∀ w ∈ r.2,w.length<=12
 wno:∀ w ∈ r.2,32 ∉ w/\10 ∉ w
theorem zhy {r:Row} (h:RowOk r):spl 32 (zfo r)=M11.textOf r.1 :: r.2:=by
 refine zd8 (by simp) fun a ha=>?_
 rcases yJ.mp ha with rfl | ha
 ·exact zio h.lab (by decide) (by decide) (by decide)
 ·exact (h.wno a ha).1
theorem zo8 {r:Row} (h:RowOk r):10 ∉ zfo r:=fun hc=>by
 rcases ze0 32 hc with z | ⟨a,ha,z⟩
 ·cases z
 ·rcases yJ.mp ha with rfl | ha
  ·exact zio h.lab (by decide) (by decide) (by decide) z
  ·exact (h.wno a ha).2 z
theorem zdO {t:Tr} (h:∀ r ∈ zaU t [],RowOk r):spl 10 (zeP t)=(zaU t []).map zfo:=by
 refine zd8 (by rw [zgG]; simp) fun a ha=>?_
 obtain ⟨r,hr,rfl⟩:=yT.mp ha; exact zo8 (h r hr)
theorem zjg {p:Pl} (h8:p.length<=8) (h:p.all zY=true):(M11.textOf p).length<=104:=by
 unfold M11.textOf; split
 ·simp
 ·have h1:=M11.sum_join 46 p
  have h2:=M11.sum_le (B:=12) (L:=p) fun a ha=>(M11.prog_facts (yY.mp h a ha)).2.1
  omega
theorem zlj {r:Row} (h:RowOk r):(zfo r).length<=200:=by
 have h1:=M11.sum_join 32 (M11.textOf r.1 :: r.2); have h2:=M11.sum_le (B:=12) (L:=r.2) h.wlen; have h3:=zjg h.len h.lab; have h4:=h.wds; unfold zfo; rw [yZ,List.sum_cons,yg] at h1; omega
theorem znk {L:List Row} (h:∀ r ∈ L,RowOk r):((L.map zfo).map (·.length)).sum<=200 * L.length:=by
 have:=M11.sum_le (B:=200) (L:=L.map zfo) fun a ha=>by
  obtain ⟨r,hr,rfl⟩:=yT.mp ha; exact zlj (h r hr)
 rwa [yD] at this
def zfU (t:Tr) (q:Pl):Pl:=((zbG t q).map Tr.wds).getD []
theorem zg3:∀ {ks:List Tr},(ks.map Tr.lab).Nodup->∀ k ∈ ks,zbB k.lab ks=some k
 | a :: r,nd,k,hk=>by
  have nd':=YD.mp nd; unfold zbB; rw [YF]
  rcases yJ.mp hk with rfl | hk
  ·simp
  ·have:¬ a.lab=k.lab:=fun z=>nd'.1 (yT.mpr ⟨k,hk,z.symm⟩)
   simp only [yV this]; exact zg3 nd'.2 k hk
mutual
theorem zli (t u:Tr) (h:Ds u) (p:Pl) (hn:zbG t p=some u):(zdV u p).map (fun q=>(q,zfU t q))=zaU u p:=by
 match u,h with
 | .node l ws ks,h =>
  show ((p :: zdU ks p).map fun q=>(q,zfU t q))=(p,ws) :: zbu ks p
  rw [yZ,zjq t ks h.kids p fun k hk=>by rw [zdY,hn]; exact zg3 h.nd k hk]
  unfold zfU; rw [hn]; rfl
theorem zjq (t:Tr) (ks:List Tr) (hk:∀ k ∈ ks,Ds k) (p:Pl) (hn:∀ k ∈ ks,zbG t (p ++ [k.lab])=some k):(zdU ks p).map (fun q=>(q,zfU t q))=zbu ks p:=by
 match ks,hk,hn with
 | [],_,_=>rfl
 | k :: r,hk,hn =>
  show ((zdV k (p ++ [k.lab]) ++ zdU r p).map fun q=>(q,zfU t q))=zaU k (p ++ [k.lab]) ++ zbu r p
  rw [YE,zli t k (hk k (by simp)) _ (hn k (by simp)),zjq t r (fun x hx=>hk x (yI _ hx)) p fun x hx=>hn x (yI _ hx)]
end
mutual
theorem zl4 (t u:Tr) (h:Ds u) (p:Pl) (hn:zbG t p=some u) (q:Pl) (hq:q ∈ zdV u p):∃ v,zbG t q=some v:=by
 match u,h with
 | .node l ws ks,h =>
  rcases yJ.mp (show q ∈ p :: zdU ks p from hq) with rfl | hq
  ·exact ⟨_,hn⟩
  ·exact zjH t ks h.kids p (fun k hk=>by rw [zdY,hn]; exact zg3 h.nd k hk) q hq
theorem zjH (t:Tr) (ks:List Tr) (hk:∀ k ∈ ks,Ds k) (p:Pl) (hn:∀ k ∈ ks,zbG t (p ++ [k.lab])=some k) (q:Pl) (hq:q ∈ zdU ks p):∃ v,zbG t q=some v:=by
 match ks,hk,hn,hq with
 | [],_,_,hq=>cases hq
 | k :: r,hk,hn,hq =>
  rcases yU.mp (show q ∈ zdV k (p ++ [k.lab]) ++ zdU r p from hq) with z | z
  ·exact zl4 t k (hk k (by simp)) _ (hn k (by simp)) q z
  ·exact zjH t r (fun x hx=>hk x (yI _ hx)) p (fun x hx=>hn x (yI _ hx)) q z
end
mutual
theorem zgF (t:Tr) (p:Pl):(zaU t p).length=(zdV t p).length:=by
 match t with
 | .node l ws ks =>
  show ((p,ws) :: zbu ks p).length=(p :: zdU ks p).length
  rw [yg,yg,zhx ks p]
theorem zhx (ks:List Tr) (p:Pl):(zbu ks p).length=(zdU ks p).length:=by
 match ks with
 | []=>rfl
 | k :: r =>
  show (zaU k (p ++ [k.lab]) ++ zbu r p).length=(zdV k (p ++ [k.lab]) ++ zdU r p).length
  rw [yH,yH,zgF k,zhx r]
end
theorem zjo {ns:Nd} (n:Nat) (p:Pl):∀ qs:List Pl,(∀ q ∈ qs,q=p ++ [zbH q])->zbu (qs.map (zaR n ns)) p=qs.flatMap fun q=>zaU (zaR n ns q) q
 | [],_=>rfl
 | q :: r,h=>by
  show zaU (zaR n ns q) (p ++ [(zaR n ns q).lab]) ++ zbu (r.map (zaR n ns)) p=_
  rw [zdo,<- h q (by simp),zjo n p r fun x hx=>h x (yI _ hx)]
  rfl
theorem zfn {ns:Nd} (o:NOk ns) {n:Nat} {p:Pl} (h8:8<=p.length+n):zaU (zaR n ns p) p=(p,zdM ns p) :: (zbL ns p).flatMap fun q=>zaU (zaR (n-1) ns q) q:=by
 cases n with
 | zero =>
  rw [zdd o (by omega)]
  rfl
 | succ n =>
  show (p,zdM ns p) :: zbu ((zbL ns p).map (zaR n ns)) p=_
  rw [zjo n p _ fun q hq=>(zbx.mp hq).2]
  rfl
end M12
set_option synthInstance.maxSize 4096
set_option synthInstance.maxHeartbeats 2000000
namespace K13
open PySem L2 Lb PL MT M04 MS M70 M11 M12 theorem sc0 {N P:List Str} {sc:Scope} (a:sc.kind=.function:=by rfl) (b:sc.isCoroutine=false:=by rfl) (c:sc.isGenerator=false:=by rfl) (d:N.Nodup:=by decide +kernel) (e:N.take P.length=P:=by rfl) (f:∀ x ∈ P,sc.names.lookup x=some .local\/sc.names.lookup x=some .cell:=by decide +kernel) (g:∀ y ∈ sc.names,y.2≠.free:=by decide +kernel):FnScope N P sc:=⟨a,b,c,d,e,f,g⟩
def top (i:Nat):Stmt:=PySem.Challenge.pw_codemend_k13_texts_spoilt.main.body.getD i (.Pass ⟨0,0,0,0⟩)
abbrev zeD:Stmt:=top 17
abbrev zfj:Stmt:=top 18
abbrev zct:Stmt:=top 19
abbrev zc3:Stmt:=top 20
abbrev zc4:Stmt:=top 21
abbrev zbR:Stmt:=top 22
abbrev zdv:Stmt:=top 23
abbrev zfk:Stmt:=top 26
abbrev zfl:Stmt:=top 27
abbrev zdT:Stmt:=top 28
abbrev zb1:Stmt:=top 29
abbrev zcM:Stmt:=top 30
abbrev zdw:Stmt:=top 31
abbrev zcq:Stmt:=top 32
abbrev zff:Stmt:=top 33
abbrev zeC:Stmt:=top 34
abbrev zgD:Stmt:=top 35
abbrev zgC:Stmt:=top 37
abbrev zeA:Stmt:=top 38
abbrev zc1:Stmt:=top 39
abbrev zjl:Stmt:=top 40
abbrev zdP:Stmt:=top 41
abbrev zcs:Stmt:=top 42
abbrev zdS:Stmt:=top 43
abbrev zcL:Stmt:=top 45
abbrev zdR:Stmt:=top 46
abbrev zeB:Stmt:=top 47
abbrev zcI:Stmt:=top 48
abbrev zfg:Stmt:=top 49
abbrev zdQ:Stmt:=top 50
abbrev zdu:Stmt:=top 51
abbrev zdt:Stmt:=top 52
abbrev zcJ:Stmt:=top 53
abbrev zcK:Stmt:=top 54
abbrev zfh:Stmt:=top 55
abbrev zc2:Stmt:=top 56
abbrev zfi:Stmt:=top 57
def keyD (l:List Nat):D:=.tup [.int (zde l).1,.str (zde l).2]
def zbw:Sp':=fun ds Q=>∃ l,ds=[.str l]/\l.length<=1000/\Q (.val (.str (cut l)))
def zcG:Sp':=fun ds Q=>∃ l,ds=[.str l]/\zY l=true/\Q (.val (keyD l))
def zfR (d:D):Prop:=∃ t,ziX d=some t/\(t="NoneType"\/t="bool"\/t="int"\/t="list"\/t="tuple"\/t="dict")
def zdC (l:List Nat):Bool:=decide (1<=l.length/\l.length<=12) && l.all fun c=>decide (c ∈ wsg)
def zuc (l:List Nat):Bool:=decide (1<=l.length/\l.length<=9) && decide (l[0]?≠some 48) && l.all dig
def zbP:Sp':=fun ds Q=>∃ l y,ds=[.str l,.str y]/\l.length<=1000/\Q (.val (.bl (l.all fun c=>decide (c ∈ y))))
def zbk:Sp':=fun ds Q=>∃ l,ds=[.str l]/\l.length<=1000/\Q (.val (.bl (zuc l)))
def zcH:Sp':=fun ds Q=>∃ d,ds=[d]/\((∃ l,d=.str l/\l.length<=1000/\Q (.val (.bl (zY l))))\/(zfR d/\Q (.val (.bl false))))
def zcv:Sp':=fun ds Q=>∃ d,ds=[d]/\((∃ l,d=.str l/\l.length<=1000/\Q (.val (.bl (zdC l))))\/(zfR d/\Q (.val (.bl false))))
instance:MSp zcv:=⟨fun _ _ _ h ⟨d,e,q⟩=>⟨d,e,q.imp (fun ⟨l,a,b,z⟩=>⟨l,a,b,h _ z⟩) fun ⟨a,z⟩=>⟨a,h _ z⟩⟩⟩
theorem small {n:Nat} (h:n<=1000):n<=sizeLine:=YZ (za4 h)
theorem zwz {c:Prop} [Decidable c] {p q:Prop} (h:c) (x:p):if c then p else q:=by rw [yS h]; exact x
theorem zkj (l y:List Nat):(Txt.rstripChars (st l) (st y)).cps.toList=(l.reverse.dropWhile fun c=>decide (c ∈ y)).reverse:=by
 have hc:(st y).cps.contains=fun c=>decide (c ∈ y):=by
  funext c
  simp [st]
 have hh:PySem.stripHi (st y).cps.contains true (st l) (PySem.stripLo (st y).cps.contains false (st l))=l.length-(l.reverse.takeWhile fun c=>decide (c ∈ y)).length:=by
  unfold PySem.stripHi PySem.stripLo
  rw [yS rfl,yQ (by decide),zaW,List.drop_zero,hc,zbZ]
 have ht:l.take (l.length-(l.reverse.takeWhile fun c=>decide (c ∈ y)).length)=(l.reverse.dropWhile fun c=>decide (c ∈ y)).reverse:=by
  have e:l=(l.reverse.dropWhile fun c=>decide (c ∈ y)).reverse ++ (l.reverse.takeWhile fun c=>decide (c ∈ y)).reverse:=by
   rw [<- List.reverse_append,List.takeWhile_append_dropWhile,List.reverse_reverse]
  have el:=yp List.length e; rw [yH,ym (as:=List.takeWhile _ _)] at el
  have z:l.take (l.length-(l.reverse.takeWhile fun c=>decide (c ∈ y)).length)=((l.reverse.dropWhile fun c=>decide (c ∈ y)).reverse ++ (l.reverse.takeWhile fun c=>decide (c ∈ y)).reverse).take (l.length-(l.reverse.takeWhile fun c=>decide (c ∈ y)).length):=yp (List.take _) e
  rw [z,List.take_left' (by omega)]
 unfold Txt.rstripChars Txt.stripBy; split
 ·rename_i hs
  unfold PySem.stripSame at hs; rw [hh,zbZ] at hs; simp only [yX,beq_iff_eq] at hs
  rw [zaW,<- ht,yr (by omega)]
 ·unfold PySem.stripped
  rw [hh,PyProof.Rows.strSub_mk]; unfold PySem.stripLo
  rw [yQ (by decide),zaW,List.drop_zero,Nat.sub_zero,ht]
theorem zfP {α:Type} (xs:List α) {i:Int} (h0:0<=i) (h1:i<xs.length):∃ d,atI xs i=some d/\d ∈ xs:=by
 obtain ⟨n,rfl⟩:=Int.eq_ofNat_of_zero_le h0
 have hn:n<xs.length:=by omega
 exact ⟨xs[n],zdm (yC hn),Ye hn⟩
@[simp] theorem sz1:1<=sizeLine:=small (by decide)
@[simp] theorem sz2:2<=sizeLine:=small (by decide)
@[simp] theorem sz3:3<=sizeLine:=small (by decide)
@[simp] theorem sz4:4<=sizeLine:=small (by decide)
theorem zl7 {n:Int} (h0:0<=n) (h1:n<10 ^ 10):n.natAbs.log2<1920:=by
  refine yW ?_ (by decide:40<=1920)
  by_cases hz:n.natAbs=0
  · rw [hz]; decide
  · exact (Nat.log2_lt hz).mpr (by have : n.natAbs < 10 ^ 10 := by omega
                                   have:10 ^ 10<2 ^ 40:=by decide
                                   omega)
theorem md {i:Int} {n:Nat} (h:0<n):0<=i % (n:Int)/\i % (n:Int)<n:=⟨Int.emod_nonneg _ (by omega),Int.emod_lt_of_pos _ (by omega)⟩
theorem zfD {l:List Nat} (h:zY l=true):∃ m n,m=(cut l).length/\1<=m/\m<=9/\m<=l.length/\l.length<=12/\l.take m=cut l/\l.drop m=zd4 l/\(∀ c,c ∈ cut l->dig c=true)/\(∀ c,c ∈ zd4 l->dig c=false)/\PySem.intText? (st (cut l))=some n/\zde l=(n,zd4 l):=by
 have h':=h; unfold zY at h; simp only [yX,yk,yY] at h
 obtain ⟨⟨⟨⟨a1,a2⟩,b⟩,c⟩,d⟩:=h
 have e:=zdk l; have el:=yp List.length e; rw [yH] at el
 have t:l.take (cut l).length=cut l:=by
  have z:(cut l ++ zd4 l).take (cut l).length=cut l:=List.take_left' rfl
  rw [e] at z; exact z
 have t2:l.drop (cut l).length=zd4 l:=by
  have z:(cut l ++ zd4 l).drop (cut l).length=zd4 l:=List.drop_left' rfl
  rw [e] at z; exact z
 have r:∃ n,PySem.intText? (st (cut l))=some n:=by
  have q:=PySem.intText_digits (x:=st (cut l)) (by rw [zaW]; exact fun x hx=>(ze1 x).mp (by simpa [dig] using c x hx)) (by rw [zaW]; exact fun z=>by rw [z] at a1; simp at a1) (by rw [zbZ]; omega)
  exact ⟨_,q⟩
 obtain ⟨n,r⟩:=r
 refine ⟨_,n,rfl,a1,a2,by omega,by omega,t,t2,c,fun x hx=>?_,r,by unfold zde; rw [r]; rfl⟩
 have:=zgu l x hx
 cases z:dig x with
 | false=>rfl
 | true=>rw [zfM z] at this; cases this
section
variable {P:Program} {w:World} {K:W.Frag} {mg:Str->Option Value} {base:Heap}
theorem zm2 {d:D} {t n:String} {b:Bool} {Q:D->Prop} (hk:ziX d=some t) (hz:W.kitOne K (.type t) (.type n)=some b) (q:Q (.bl b)):zfY K [d,.ty n] Q:=⟨d,.type t,.ty n,.type n,b,rfl,rfl,.inl ⟨t,rfl,hk⟩,hz,q⟩
theorem zh9 (y:List Nat) (Q:List D->Prop):∀ (l:List Nat) (acc:List Bool) (s0:Slot),Q ((acc ++ l.map fun c=>decide (c ∈ y)).map .bl) ->
  zeY (zw 0) zbf (za9 zst (zZ 0) (zZ 1)) Q (l.map fun c=>.str [c]) (acc.map .bl) [s0,.val (.str y)]
 | [],acc,s0,h=>by simpa [zeY] using h
 | c :: l,acc,s0,h=>by
  have ih:=zh9 y Q l (acc ++ [decide (c ∈ y)]) (.val (.str [c])) (by simpa using h)
  simpa [zeY,vo,voS,zw,zbf,za9,zZ] using ih
theorem zis:FnScope ["text","signs"] ["text","signs"] (zo zdv):=sc0
theorem ziO (d:Df K mg "has_only" zdv ["text","signs"]) (z_all:mg "all"=none):Fn P w K mg base 1 "has_only" ["text","signs"] zbP:=by
 refine d.ok zis (fun ds Q h=>?_) (fun f cdv A outer s H E hr ds Q h=>⟨_,(zl (zQ (zaa (zrF rfl) z_all PyProof.Rows.boot_all (zc (za5 (zc6 (fsc:=zo zdv) (N:=["text","signs"]) (N':=["sign","signs"]) (src:=[none,some 1]) (by refine ⟨rfl,?_,?_,?_,rfl,rfl⟩ <;> decide +kernel) (zch (pv' 0)) (fun _ _ _ _ _ _=>(zaQ 0 (show (["sign","signs"]:List Str).Nodup by decide +kernel))) (fun _ _ _ _ _ _=>zb7) (fun _ _ _ _ _ _=>(zda (zs3 (zbe hr)) (pv' 0) (pv' 1))))) zi)))),?_⟩)
 ·obtain ⟨l,y,rfl,_⟩:=h
  rfl
 obtain ⟨l,y,rfl,hl,q⟩:=h; simp [zaj,zab,zaf,zah,zw,zZ,tC',zaE,za9,tB',zaq,zav,zbp,zP,zaJ,zM,zbq,zad,zx,zal,zar,zbj,zbn,zbg,zag,zbh,zp,zat,zaG,zT,zS,zF,zz,zbf,zy,zas,zD,zau,zE,zO,zK,zN,zaL,zae,zbm,zU,zap,zW,zaw,xS,zax,zG,zaH,zay,zH,zt,zaA,zC,zaC,zaI,zan,zA,zao,zaF,zV,zX,zam,zaK,zu,zL,zq,zaD,zaE,zaB,zJ,zm,zaz,zr]; refine ⟨small hl,?_⟩; refine zh9 y _ l [] _ ?_; rw [ziC rfl]
 simpa using q
theorem zgA:FnScope ["label"] ["label"] (zo zc4):=sc0
theorem zgV (d:Df K mg "figures_of" zc4 ["label"]) {t_SMALL_LETTERS:Tok} (g_SMALL_LETTERS:mg "SMALL_LETTERS"=some (.str (st zs8) t_SMALL_LETTERS)):Fn P w K mg base 1 "figures_of" ["label"] zbw:=by
 refine d.ok zgA (fun ds Q h=>?_) (fun f cdv A outer s H E hr ds Q h=>⟨_,(zl (zQ (zcr zom yh PySem.F.slot_str_rstrip PySem.F.type_str_rstrip (pv' 0) (zc (zlI g_SMALL_LETTERS) zi)))),?_⟩)
 ·obtain ⟨l,rfl,_⟩:=h
  rfl
 obtain ⟨l,rfl,hl,q⟩:=h; simp [zaj,zab,zaf,zah,zw,zZ,tC',zaE,za9,tB',zaq,zav,zbp,zP,zaJ,zM,zbq,zad,zx,zal,zar,zbj,zbn,zbg,zag,zbh,zp,zat,zaG,zT,zS,zF,zz,zbf,zy,zas,zD,zau,zE,zO,zK,zN,zaL,zae,zbm,zU,zap,zW,zaw,xS,zax,zG,zaH,zay,zH,zt,zaA,zC,zaC,zaI,zan,zA,zao,zaF,zV,zX,zam,zaK,zu,zL,zq,zaD,zaE,zaB,zJ,zm,zaz,zr]; refine ⟨small hl,?_⟩; rw [zkj]; exact q
theorem zee:FnScope ["text"] ["text"] (zo zbR):=sc0
theorem zej (d:Df K mg "is_label_number" zbR ["text"]) (G_has_only:Fn P w K mg base 1 "has_only" ["text","signs"] zbP) (z_len:mg "len"=none) {t_FIGURES:Tok} (g_FIGURES:mg "FIGURES"=some (.str (st zrR) t_FIGURES)) {t_MOST_FIGURES:Tok} (g_MOST_FIGURES:mg "MOST_FIGURES"=some (.int 9 t_MOST_FIGURES)):Fn P w K mg base 2 "is_label_number" ["text"] zbk:=by
 refine d.ok zee (fun ds Q h=>?_) (fun f cdv A outer s H E hr ds Q h=>⟨_,(zj (zbl (zbi (zlx zs0 zs0 zn (zaa zb2 z_len YH (zc (pv' 0) zi)) (zjD g_MOST_FIGURES))) (zl (zQ zcy)) zaM)
  (zl (zQ (zci (zda (zqW (zdg hr)) (za0 (i_A (zbe hr)) (pv' 0) zn) (zR [48])) (zcO (za1 G_has_only (hr.mono (by decide)) (zc (pv' 0) (zc (zlI g_FIGURES) zi)))))))),?_⟩)
 ·obtain ⟨l,rfl,_⟩:=h
  rfl
 obtain ⟨l,rfl,hl,q⟩:=h; simp [zaj,zab,zaf,zah,zw,zZ,tC',zaE,za9,tB',zaq,zav,zbp,zP,zaJ,zM,zbq,zad,zx,zal,zar,zbj,zbn,zbg,zag,zbh,zp,zat,zaG,zT,zS,zF,zz,zbf,zy,zas,zD,zau,zE,zO,zK,zN,zaL,zae,zbm,zU,zap,zW,zaw,xS,zax,zG,zaH,zay,zH,zt,zaA,zC,zaC,zaI,zan,zA,zao,zaF,zV,zX,zam,zaK,zu,zL,zq,zaD,zaE,zaB,zJ,zm,zaz,zr,zbP]; refine ⟨small hl,?_⟩; unfold zuc at q
 cases l with
 | nil=>exact .inl ⟨by decide,by simpa using q⟩
 | cons c r =>
  by_cases h9:(c :: r).length<=9
  ·refine .inr ⟨by simp; omega,.inr ⟨by omega,small hl,c,zdm (j:=0) rfl,?_⟩⟩
   by_cases h48:c=48
   ·subst h48; simpa using q
   ·refine .inr ⟨h48,hl,?_⟩
    rw [YB (show 1<=(c :: r).length/\(c :: r).length<=9 from ⟨by simp,h9⟩),YB (show (c :: r)[0]?≠some 48 by simpa using h48)] at q
    exact q
  ·refine .inr ⟨by simp; omega,.inl ⟨by omega,?_⟩⟩
   rw [yV (show ¬ (1<=(c :: r).length/\(c :: r).length<=9) by omega)] at q
   exact q
theorem zfd:FnScope ["thing","figures"] ["thing"] (zo zeD):=sc0
theorem ziN (d:Df K mg "is_label" zeD ["thing"]) (G_figures_of:Fn P w K mg base 1 "figures_of" ["label"] zbw) (G_is_label_number:Fn P w K mg base 2 "is_label_number" ["text"] zbk) (z_isinstance:mg "isinstance"=none) (z_len:mg "len"=none) (z_str:mg "str"=none) {t_MOST_LETTERS:Tok} (g_MOST_LETTERS:mg "MOST_LETTERS"=some (.int 3 t_MOST_LETTERS)):Fn P w K mg base 3 "is_label" ["thing"] zcH:=by
 refine d.ok zfd (fun ds Q h=>?_) (fun f cdv A outer s H E hr ds Q h=>⟨_,(zj (zbl (zbi (zbv (zaa (zdL K rfl) z_isinstance yi (zc (pv' 0) (zc (zei z_str Yv) zi))))) (zl (zQ zcy)) zaM)
  (zj (zai 1 zfd.nd (za1 G_figures_of (hr.mono (by decide)) (zc (pv' 0) zi)))
  (zl (zQ (zci (za1 G_is_label_number (hr.mono (by decide)) (zc (pv' 1) zi)) (zcO (zda zs0 (zB zsY (zaa zb2 z_len YH (zc (pv' 0) zi)) (zaa zb2 z_len YH (zc (pv' 1) zi))) (zjD g_MOST_LETTERS)))))))),?_⟩)
 ·obtain ⟨l,rfl,_⟩:=h
  rfl
 obtain ⟨d,rfl,h⟩:=h
 rcases h with ⟨l,rfl,hl,q⟩ | ⟨hn,q⟩
 ·have hc:(cut l).length<=l.length:=by
   have:=yp List.length (zdk l)
   rw [yH] at this; omega
  simp [zaj,zab,zaf,zah,zw,zZ,tC',zaE,za9,tB',zaq,zav,zbp,zP,zaJ,zM,zbq,zad,zx,zal,zar,zbj,zbn,zbg,zag,zbh,zp,zat,zaG,zT,zS,zF,zz,zbf,zy,zas,zD,zau,zE,zO,zK,zN,zaL,zae,zbm,zU,zap,zW,zaw,xS,zax,zG,zaH,zay,zH,zt,zaA,zC,zaC,zaI,zan,zA,zao,zaF,zV,zX,zam,zaK,zu,zL,zq,zaD,zaE,zaB,zJ,zm,zaz,zr,zbw,zbk]
  refine ⟨hl,by omega,?_⟩
  have e:zY l=(zuc (cut l) && decide (l.length-(cut l).length<=3)):=rfl
  rw [e] at q
  cases hn:zuc (cut l) with
  | false=>rw [hn] at q; simpa using q
  | true =>
   rw [hn] at q
   refine zwz rfl ⟨small hl,small (by omega),?_⟩
   have e2:decide ((l.length:Int)-((cut l).length:Int)<=3)=decide (l.length-(cut l).length<=3):=decide_eq_decide.mpr (by omega)
   rw [e2]
   simpa using q
 ·obtain ⟨t,hk,ht⟩:=hn
  have hz:W.kitOne K (.type t) (.type "str")=some false:=by rcases ht with rfl | rfl | rfl | rfl | rfl | rfl <;> rfl
  simp [zaj,zab,zaf,zah,zw,zZ,tC',zaE,za9,tB',zaq,zav,zbp,zP,zaJ,zM,zbq,zad,zx,zal,zar,zbj,zbn,zbg,zag,zbh,zp,zat,zaG,zT,zS,zF,zz,zbf,zy,zas,zD,zau,zE,zO,zK,zN,zaL,zae,zbm,zU,zap,zW,zaw,xS,zax,zG,zaH,zay,zH,zt,zaA,zC,zaC,zaI,zan,zA,zao,zaF,zV,zX,zam,zaK,zu,zL,zq,zaD,zaE,zaB,zJ,zm,zaz,zr]; exact zm2 hk hz (.inl ⟨rfl,q⟩)
theorem zkh:FnScope ["thing"] ["thing"] (zo zfj):=sc0
theorem zkw (d:Df K mg "is_word" zfj ["thing"]) (G_has_only:Fn P w K mg base 1 "has_only" ["text","signs"] zbP) (z_isinstance:mg "isinstance"=none) (z_len:mg "len"=none) (z_str:mg "str"=none) {t_LONGEST_WORD:Tok} (g_LONGEST_WORD:mg "LONGEST_WORD"=some (.int 12 t_LONGEST_WORD)) {t_WORD_SIGNS:Tok} (g_WORD_SIGNS:mg "WORD_SIGNS"=some (.str (st wsg) t_WORD_SIGNS)):Fn P w K mg base 2 "is_word" ["thing"] zcv:=by
 refine d.ok zkh (fun ds Q h=>?_) (fun f cdv A outer s H E hr ds Q h=>⟨_,(zj (zbl (zbi (zbv (zaa (zdL K rfl) z_isinstance yi (zc (pv' 0) (zc (zei z_str Yv) zi))))) (zl (zQ zcy)) zaM)
  (zl (zQ (zci (zlL zs0 zs0 zn (zaa zb2 z_len YH (zc (pv' 0) zi)) (zjD g_LONGEST_WORD)) (zcO (za1 G_has_only (hr.mono (by decide)) (zc (pv' 0) (zc (zlI g_WORD_SIGNS) zi)))))))),?_⟩)
 ·obtain ⟨l,rfl,_⟩:=h
  rfl
 obtain ⟨d,rfl,h⟩:=h
 rcases h with ⟨l,rfl,hl,q⟩ | ⟨hn,q⟩
 ·simp [zaj,zab,zaf,zah,zw,zZ,tC',zaE,za9,tB',zaq,zav,zbp,zP,zaJ,zM,zbq,zad,zx,zal,zar,zbj,zbn,zbg,zag,zbh,zp,zat,zaG,zT,zS,zF,zz,zbf,zy,zas,zD,zau,zE,zO,zK,zN,zaL,zae,zbm,zU,zap,zW,zaw,xS,zax,zG,zaH,zay,zH,zt,zaA,zC,zaC,zaI,zan,zA,zao,zaF,zV,zX,zam,zaK,zu,zL,zq,zaD,zaE,zaB,zJ,zm,zaz,zr,zbP]
  refine ⟨small hl,?_⟩; unfold zdC at q
  by_cases h1:1<=l.length
  ·by_cases h12:l.length<=12
   ·refine .inr ⟨by omega,.inr ⟨by omega,hl,?_⟩⟩
    rw [YB (show 1<=l.length/\l.length<=12 from ⟨h1,h12⟩)] at q
    exact q
   ·refine .inr ⟨by omega,.inl ⟨by omega,?_⟩⟩
    rw [yV (show ¬ (1<=l.length/\l.length<=12) by omega)] at q
    exact q
  ·refine .inl ⟨by omega,?_⟩
   rw [yV (show ¬ (1<=l.length/\l.length<=12) by omega)] at q
   exact q
 ·obtain ⟨t,hk,ht⟩:=hn
  have hz:W.kitOne K (.type t) (.type "str")=some false:=by rcases ht with rfl | rfl | rfl | rfl | rfl | rfl <;> rfl
  simp [zaj,zab,zaf,zah,zw,zZ,tC',zaE,za9,tB',zaq,zav,zbp,zP,zaJ,zM,zbq,zad,zx,zal,zar,zbj,zbn,zbg,zag,zbh,zp,zat,zaG,zT,zS,zF,zz,zbf,zy,zas,zD,zau,zE,zO,zK,zN,zaL,zae,zbm,zU,zap,zW,zaw,xS,zax,zG,zaH,zay,zH,zt,zaA,zC,zaC,zaI,zan,zA,zao,zaF,zV,zX,zam,zaK,zu,zL,zq,zaD,zaE,zaB,zJ,zm,zaz,zr]; exact zm2 hk hz (.inl ⟨rfl,q⟩)
theorem zed:FnScope ["label","figures"] ["label"] (zo zc3):=sc0
theorem zgU (d:Df K mg "label_rank" zc3 ["label"]) (G_figures_of:Fn P w K mg base 1 "figures_of" ["label"] zbw) (z_int:mg "int"=none) (z_len:mg "len"=none):Fn P w K mg base 2 "label_rank" ["label"] zcG:=by
 refine d.ok zed (fun ds Q h=>?_) (fun f cdv A outer s H E hr ds Q h=>⟨_,(zj (zai 1 zed.nd (za1 G_figures_of (hr.mono (by decide)) (zc (pv' 0) zi)))
  (zl (zQ (zaX (zc (zbS zpH z_int PyProof.Rows.boot_int (zc (pv' 1) zi)) (zc (zbz s_A (pv' 0) (zb9 (zaa zb2 z_len YH (zc (pv' 1) zi))) zcV) zi)))))),?_⟩)
 ·obtain ⟨l,rfl,_⟩:=h
  rfl
 obtain ⟨l,rfl,hl,hq⟩:=h; obtain ⟨m,n,hm,m1,m9,ml,l12,tk,dr,cd,tf,rd,kf⟩:=zfD hl; simp [zaj,zab,zaf,zah,zw,zZ,tC',zaE,za9,tB',zaq,zav,zbp,zP,zaJ,zM,zbq,zad,zx,zal,zar,zbj,zbn,zbg,zag,zbh,zp,zat,zaG,zT,zS,zF,zz,zbf,zy,zas,zD,zau,zE,zO,zK,zN,zaL,zae,zbm,zU,zap,zW,zaw,xS,zax,zG,zaH,zay,zH,zt,zaA,zC,zaC,zaI,zan,zA,zao,zaF,zV,zX,zam,zaK,zu,zL,zq,zaD,zaE,zaB,zJ,zm,zaz,zr,zbw]
 refine ⟨by omega,.inl ⟨cut l,n,rfl,rd,by omega,small (by omega),small (by omega),?_⟩⟩
 rw [<- hm,dr]; unfold keyD at hq; rw [kf] at hq; exact hq
end
end K13
namespace K13
open PySem L2 Lb PL MT M04 MS M70 M11 M12
def zq7:D->Bool
 | .str l=>zY l
 | _=>false
def zo1:D->Bool
 | .str l=>zdC l
 | _=>false
def zwN (d:D):Prop:=(∃ l,d=.str l/\l.length<=1000)\/zfR d
def zcS:D->Bool
 | .tup ws=>ws.all zo1
 | _=>false
def zf2:D->List Nat
 | .tup (.str l :: _)=>l
 | _=>[]
open Classical in
noncomputable def zll:List (List Nat)->Bool
 | a :: b :: r=>decide (klt (zde a) (zde b)) && zll (b :: r)
 | _=>true
noncomputable def zdJ (f:D->Bool):D->Bool
 | .tup ks=>ks.all f && zll (ks.map zf2)
 | _=>false
noncomputable def zcQ:Nat->D->Bool
 | n+1,.tup [l,w,k]=>zq7 l && (zcS w && zdJ (zcQ n) k)
 | _,_=>false
noncomputable def zfH (n:Nat) (w k:D):Bool:=match n with
 | 0=>false
 | n+1=>zcS w && zdJ (zcQ n) k
theorem zgZ (n:Nat) (l w k:D):zcQ n (.tup [l,w,k])=(zq7 l && zfH n w k):=by
 cases n with
 | zero=>simp [zcQ,zfH]
 | succ n=>rfl
inductive Sn:D->Prop
 | str {l:List Nat} (h:l.length<=1000):Sn (.str l)
 | tup {ds:List D} (h:ds.length<=100) (hs:∀ d ∈ ds,Sn d):Sn (.tup ds)
 | oth {d:D} (h:zfR d) (hn:∀ ds,d≠.tup ds):Sn d
theorem Sn.parts {ds:List D} (h:Sn (.tup ds)):ds.length<=100/\∀ d ∈ ds,Sn d:=by
 cases h with
 | tup h hs=>exact ⟨h,hs⟩
 | oth h hn=>exact yM rfl (hn _)
theorem Sn.any {d:D} (h:Sn d):zwN d:=by
 cases h with
 | str h=>exact .inl ⟨_,rfl,h⟩
 | tup h hs=>exact .inr ⟨"tuple",rfl,by simp⟩
 | oth h hn=>exact .inr h
theorem Sn.kin {d:D} (h:Sn d):∃ t,ziX d=some t:=by
 rcases h.any with ⟨l,rfl,_⟩ | ⟨t,h,_⟩
 ·exact ⟨"str",rfl⟩
 ·exact ⟨t,h⟩
theorem zq6 {d:D} {Q:Res->Prop} (h:Sn d) (q:Q (.val (.bl (zq7 d)))):zcH [d] Q:=by
 refine ⟨d,rfl,?_⟩
 rcases h.any with ⟨l,rfl,hl⟩ | hn
 ·exact .inl ⟨l,rfl,hl,q⟩
 ·refine .inr ⟨hn,?_⟩
  have e:zq7 d=false:=by
   obtain ⟨t,hk,ht⟩:=hn
   cases d <;> first | rfl | (cases hk; simp at ht)
  rw [e] at q; exact q
theorem zpV {d:D} {Q:Res->Prop} (h:Sn d) (q:Q (.val (.bl (zo1 d)))):zcv [d] Q:=by
 refine ⟨d,rfl,?_⟩
 rcases h.any with ⟨l,rfl,hl⟩ | hn
 ·exact .inl ⟨l,rfl,hl,q⟩
 ·refine .inr ⟨hn,?_⟩
  have e:zo1 d=false:=by
   obtain ⟨t,hk,ht⟩:=hn
   cases d <;> first | rfl | (cases hk; simp at ht)
  rw [e] at q; exact q
def zcp:Sp':=fun ds Q=>∃ d,ds=[d]/\Sn d/\∀ b:Bool,(b=true↔∃ l w k,d=.tup [l,w,k])->Q (.val (.bl b))
def zcY:Sp':=fun ds Q=>∃ d,ds=[d]/\Sn d/\Q (.val (.bl (zcS d)))
def zb6:Sp':=fun ds Q=>∃ ls:List (List Nat),ds=[.lst (ls.map .str)]/\ls.length<=100/\(∀ l ∈ ls,zY l=true)/\Q (.val (.bl (zll ls)))
def zbF:Nat->Sp'
 | 0=>fun _ _=>False
 | n+1=>fun ds Q=>∃ (d:D) (m:Nat),ds=[d,.int m]/\m<n+1/\Sn d/\Q (.val (.bl (zcQ m d)))
def ze7 (n:Nat):Sp':=fun ds Q=>∃ (k:D) (m:Nat),ds=[k,.int m]/\m<n/\Sn k/\Q (.val (.bl (zdJ (zcQ m) k)))
def zbQ (n:Nat):Sp':=fun ds Q=>∃ (l w k:D) (m:Nat),ds=[.tup [l,w,k],.int m]/\m<=n/\Sn w/\Sn k/\Q (.val (.bl (zfH m w k)))
def zdr:Sp':=fun ds Q=>∃ d,ds=[d]/\Sn d/\∀ b:Bool,(b=true↔∃ w k,d=.tup [.str [],w,k]/\zfH 9 w k=true)->Q (.val (.bl b))
instance {n:Nat}:MSp (zbF n):=⟨fun ds Q Q' h q=>by
 cases n with
 | zero=>exact q
 | succ n=>obtain ⟨d,m,e,a,b,q⟩:=q; exact ⟨d,m,e,a,b,h _ q⟩⟩
def zbt:Sp':=fun ds Q=>∃ l m,ds=[.str l,.str m]/\zY l=true/\zY m=true/\∀ b:Bool,(b=true↔klt (zde l) (zde m))->Q (.val (.bl b))
instance:MSp zbt:=⟨fun _ _ _ h ⟨l,m,e,a,b,q⟩=>⟨l,m,e,a,b,fun x z=>h _ (q x z)⟩⟩
section
variable {P:Program} {w:World} {K:W.Frag} {mg:Str->Option Value} {base:Heap}
open Classical in
noncomputable def ltB (p:List Nat × List Nat):Bool:=decide (klt (zde p.1) (zde p.2))
theorem zrG {F:D->Bool} {ks:List D} {d:D} (hd:d ∈ ks) (h:F d=false):zdJ F (.tup ks)=false:=by
 show (ks.all F && _)=false
 have:ks.all F=false:=by
  rw [Bool.eq_false_iff]; intro z; rw [yY] at z; rw [z d hd] at h; cases h
 rw [this,Bool.false_and]
theorem zlY {n:Nat} {d:D} (h:∀ l w k,d≠.tup [l,w,k]):zcQ n d=false:=by
 unfold zcQ; split
 ·exact yM rfl (h _ _ _)
 ·rfl
theorem zgj {n:Nat} {d:D} (h:zcQ n d=true):∃ l w k,d=.tup [.str l,w,k]/\zY l=true:=by
 unfold zcQ at h; split at h
 ·rename_i n l w k
  rw [yX] at h
  cases l with
  | str l=>exact ⟨l,w,k,rfl,h.1⟩
  | _=>exact yM h.1 (by simp [zq7])
 ·cases h
theorem zjr:∀ ls:List (List Nat),zll ls=(ls.zip (ls.drop 1)).all ltB
 | []=>rfl
 | [a]=>rfl
 | a :: b :: r=>by
  unfold zll; rw [zjr (b :: r)]; rfl
theorem zvv (ls:List (List Nat)):zcW (ls.map D.str) (some 1) none=(ls.drop 1).map D.str:=by
 unfold zcW
 cases ls with
 | nil=>rfl
 | cons a r =>
  simp [HT.sIx]
  rw [yr (by simp)]
theorem zfB {d:D} {t:String} (h:ziX d=some t):(∃ xs,d=.tup xs)\/((∀ xs,d≠.tup xs)/\W.kitOne K (.type t) (.type "tuple")=some false):=by
 cases d <;> first | exact .inl ⟨_,rfl⟩ | (cases h; refine .inr ⟨fun _ z=>(nomatch z),?_⟩; rfl) | (cases h; done)
theorem zhv:FnScope ["thing"] ["thing"] (zo zdT):=sc0
theorem zhP (d:Df K mg "is_triple" zdT ["thing"]) (z_isinstance:mg "isinstance"=none) (z_len:mg "len"=none) (z_tuple:mg "tuple"=none):Fn P w K mg base 1 "is_triple" ["thing"] zcp:=by
 refine d.ok zhv (fun ds Q h=>?_) (fun f cdv A outer s H E hr ds Q h=>⟨_,(zl (zQ (zci (zaa (zdL K rfl) z_isinstance yi (zc (pv' 0) (zc (zei z_tuple YV) zi))) (zcO (zda (zek (zdg hr)) (zaa zb2 z_len YH (zc (pv' 0) zi)) zn))))),?_⟩)
 ·obtain ⟨d,rfl,_⟩:=h
  rfl
 obtain ⟨x,rfl,hs,q⟩:=h; obtain ⟨t,hk⟩:=hs.kin; simp [zaj,zab,zaf,zah,zw,zZ,tC',zaE,za9,tB',zaq,zav,zbp,zP,zaJ,zM,zbq,zad,zx,zal,zar,zbj,zbn,zbg,zag,zbh,zp,zat,zaG,zT,zS,zF,zz,zbf,zy,zas,zD,zau,zE,zO,zK,zN,zaL,zae,zbm,zU,zap,zW,zaw,xS,zax,zG,zaH,zay,zH,zt,zaA,zC,zaC,zaI,zan,zA,zao,zaF,zV,zX,zam,zaK,zu,zL,zq,zaD,zaE,zaB,zJ,zm,zaz,zr]
 rcases zfB hk with ⟨xs,rfl⟩ | ⟨hn,hz⟩
 ·cases hk
  refine zm2 (b:=true) rfl rfl (.inr ⟨rfl,?_⟩); simp [zaj,zab,zaf,zah,zw,zZ,tC',zaE,za9,tB',zaq,zav,zbp,zP,zaJ,zM,zbq,zad,zx,zal,zar,zbj,zbn,zbg,zag,zbh,zp,zat,zaG,zT,zS,zF,zz,zbf,zy,zas,zD,zau,zE,zO,zK,zN,zaL,zae,zbm,zU,zap,zW,zaw,xS,zax,zG,zaH,zay,zH,zt,zaA,zC,zaC,zaI,zan,zA,zao,zaF,zV,zX,zam,zaK,zu,zL,zq,zaD,zaE,zaB,zJ,zm,zaz,zr]
  refine q _ ⟨fun z=>?_,fun ⟨l,w,k,e⟩=>?_⟩
  ·have h3:xs.length=3:=by have:=of_decide_eq_true z; omega
   match xs,h3 with
   | [l,w,k],_=>exact ⟨l,w,k,rfl⟩
  ·cases e
   rfl
 ·refine zm2 hk hz (.inl ⟨rfl,q false ⟨fun z=>(nomatch z),fun ⟨l,w,k,e⟩=>yM e (hn _)⟩⟩)
theorem zhw:FnScope ["thing"] ["thing"] (zo zcM):=sc0
theorem zhQ (d:Df K mg "are_words" zcM ["thing"]) (G_is_word:Fn P w K mg base 2 "is_word" ["thing"] zcv) (z_all:mg "all"=none) (z_isinstance:mg "isinstance"=none) (z_tuple:mg "tuple"=none):Fn P w K mg base 3 "are_words" ["thing"] zcY:=by
 refine d.ok zhw (fun ds Q h=>?_) (fun f cdv A outer s H E hr ds Q h=>⟨_,(zl (zQ (zci (zaa (zdL K rfl) z_isinstance yi (zc (pv' 0) (zc (zei z_tuple YV) zi))) (zcO (zaa (zrF rfl) z_all PyProof.Rows.boot_all (zc (za5 (zc6 (fsc:=zo zcM) (N:=["thing"]) (N':=["word"]) (src:=[none]) (by refine ⟨rfl,?_,?_,?_,rfl,rfl⟩ <;> decide +kernel) (zch (pv' 0)) (fun _ _ _ _ _ _=>(zaQ 0 (show (["word"]:List Str).Nodup by decide +kernel))) (fun _ _ _ _ _ _=>zb7) (fun _ _ _ _ _ _=>(za1 G_is_word (hr.mono (by decide)) (zc (pv' 0) zi))))) zi)))))),?_⟩)
 ·obtain ⟨d,rfl,_⟩:=h
  rfl
 obtain ⟨x,rfl,hs,q⟩:=h; obtain ⟨t,hk⟩:=hs.kin; simp [zaj,zab,zaf,zah,zw,zZ,tC',zaE,za9,tB',zaq,zav,zbp,zP,zaJ,zM,zbq,zad,zx,zal,zar,zbj,zbn,zbg,zag,zbh,zp,zat,zaG,zT,zS,zF,zz,zbf,zy,zas,zD,zau,zE,zO,zK,zN,zaL,zae,zbm,zU,zap,zW,zaw,xS,zax,zG,zaH,zay,zH,zt,zaA,zC,zaC,zaI,zan,zA,zao,zaF,zV,zX,zam,zaK,zu,zL,zq,zaD,zaE,zaB,zJ,zm,zaz,zr]
 rcases zfB hk with ⟨xs,rfl⟩ | ⟨hn,hz⟩
 ·cases hk
  refine zm2 (b:=true) rfl rfl (.inr ⟨rfl,?_⟩)
  refine ⟨xs,rfl,small (by have:=hs.parts.1; omega),?_⟩
  refine zcR (fun i acc Γ=>∃ s0,acc=((xs.take i).map zo1).map D.bl/\Γ=[s0]) ⟨.emp,rfl,rfl⟩ ?_ ?_
  ·rintro i d acc Γ hd ⟨s0,rfl,rfl⟩
   simp [zaj,zab,zaf,zah,zw,zZ,tC',zaE,za9,tB',zaq,zav,zbp,zP,zaJ,zM,zbq,zad,zx,zal,zar,zbj,zbn,zbg,zag,zbh,zp,zat,zaG,zT,zS,zF,zz,zbf,zy,zas,zD,zau,zE,zO,zK,zN,zaL,zae,zbm,zU,zap,zW,zaw,xS,zax,zG,zaH,zay,zH,zt,zaA,zC,zaC,zaI,zan,zA,zao,zaF,zV,zX,zam,zaK,zu,zL,zq,zaD,zaE,zaB,zJ,zm,zaz,zr]; refine zpV (hs.parts.2 d (yb hd)) ?_; rw [Yh,yL,hd]; rfl
  ·rintro acc Γ ⟨s0,rfl,rfl⟩
   rw [ziC rfl]; rw [List.take_length]
   have e:zcS (D.tup xs)=(xs.map zo1).all id:=by simp [zcS]
   rw [e] at q; exact q
 ·refine zm2 hk hz (.inl ⟨rfl,?_⟩)
  have e:zcS x=false:=by
   cases x <;> first | rfl | exact yM rfl (hn _)
  rw [e] at q; exact q
theorem zfb:FnScope ["one","other"] ["one","other"] (zo zct):=sc0
theorem zfv (d:Df K mg "label_before" zct ["one","other"]) (G_label_rank:Fn P w K mg base 2 "label_rank" ["label"] zcG):Fn P w K mg base 3 "label_before" ["one","other"] zbt:=by
 refine d.ok zfb (fun ds Q h=>?_) (fun f cdv A outer s H E hr ds Q h=>⟨_,(zl (zQ (zda (zva hr.units0) (za1 G_label_rank (hr.mono (by decide)) (zc (pv' 0) zi)) (za1 G_label_rank (hr.mono (by decide)) (zc (pv' 1) zi))))),?_⟩)
 ·obtain ⟨l,m,rfl,_⟩:=h
  rfl
 obtain ⟨l,m,rfl,hl,hm,q⟩:=h; simp [zaj,zab,zaf,zah,zw,zZ,tC',zaE,za9,tB',zaq,zav,zbp,zP,zaJ,zM,zbq,zad,zx,zal,zar,zbj,zbn,zbg,zag,zbh,zp,zat,zaG,zT,zS,zF,zz,zbf,zy,zas,zD,zau,zE,zO,zK,zN,zaL,zae,zbm,zU,zap,zW,zaw,xS,zax,zG,zaH,zay,zH,zt,zaA,zC,zaC,zaI,zan,zA,zao,zaF,zV,zX,zam,zaK,zu,zL,zq,zaD,zaE,zaB,zJ,zm,zaz,zr]; refine ⟨l,rfl,hl,m,rfl,hm,?_⟩; refine ⟨_,_,_,_,rfl,rfl,q _ ?_⟩; rw [yk]; exact Iff.rfl
theorem zgB:FnScope ["labels"] ["labels"] (zo zcq):=sc0
theorem zgX (d:Df K mg "are_rising" zcq ["labels"]) (G_label_before:Fn P w K mg base 3 "label_before" ["one","other"] zbt) (z_all:mg "all"=none) (z_zip:mg "zip"=none):Fn P w K mg base 4 "are_rising" ["labels"] zb6:=by
 refine d.ok zgB (fun ds Q h=>?_) (fun f cdv A outer s H E hr ds Q h=>⟨_,(zl (zQ (zaa (zrF rfl) z_all PyProof.Rows.boot_all (zc (za5 (zc6 (fsc:=zo zcq) (N:=["labels"]) (N':=["one","other"]) (src:=[none,none]) (by refine ⟨rfl,?_,?_,?_,rfl,rfl⟩ <;> decide +kernel) (zqv z_zip (zc (pv' 0) (zc (zbz s_A (pv' 0) (zb9 zn) zcV) zi))) (fun _ _ _ _ _ _=>(zlG (n:=2) (zeh (zaQ 0 (show (["one","other"]:List Str).Nodup by decide +kernel)) (zeh (zaQ 1 (show (["one","other"]:List Str).Nodup by decide +kernel)) zjC)))) (fun _ _ _ _ _ _=>zb7) (fun _ _ _ _ _ _=>(za1 G_label_before (hr.mono (by decide)) (zc (pv' 0) (zc (pv' 1) zi)))))) zi)))),?_⟩)
 ·obtain ⟨d,rfl,_⟩:=h
  rfl
 obtain ⟨ls,rfl,hl,hp,q⟩:=h; simp [zaj,zab,zaf,zah,zw,zZ,tC',zaE,za9,tB',zaq,zav,zbp,zP,zaJ,zM,zbq,zad,zx,zal,zar,zbj,zbn,zbg,zag,zbh,zp,zat,zaG,zT,zS,zF,zz,zbf,zy,zas,zD,zau,zE,zO,zK,zN,zaL,zae,zbm,zU,zap,zW,zaw,xS,zax,zG,zaH,zay,zH,zt,zaA,zC,zaC,zaI,zan,zA,zao,zaF,zV,zX,zam,zaK,zu,zL,zq,zaD,zaE,zaB,zJ,zm,zaz,zr]; rw [zvv,List.zip_map,yt]
 refine ⟨small (by simp; omega),?_⟩
 refine zcR (fun i acc Γ=>∃ s0 s1,acc=(((ls.zip (ls.drop 1)).take i).map ltB).map D.bl/\Γ=[s0,s1]) ⟨.emp,.emp,rfl,rfl⟩ ?_ ?_
 ·rintro i d acc Γ hd ⟨s0,s1,rfl,rfl⟩
  rw [yL] at hd
  cases hc:(ls.zip (ls.drop 1))[i]? with
  | none=>rw [hc] at hd; cases hd
  | some p =>
   rw [hc] at hd; cases hd; have hm:=List.of_mem_zip (a:=p.1) (b:=p.2) (yb hc); rw [Yh,hc]; simp [zaj,zab,zaf,zah,zw,zZ,tC',zaE,za9,tB',zaq,zav,zbp,zP,zaJ,zM,zbq,zad,zx,zal,zar,zbj,zbn,zbg,zag,zbh,zp,zat,zaG,zT,zS,zF,zz,zbf,zy,zas,zD,zau,zE,zO,zK,zN,zaL,zae,zbm,zU,zap,zW,zaw,xS,zax,zG,zaH,zay,zH,zt,zaA,zC,zaC,zaI,zan,zA,zao,zaF,zV,zX,zam,zaK,zu,zL,zq,zaD,zaE,zaB,zJ,zm,zaz,zr,zbt]
   exact ⟨_,_,⟨rfl,rfl⟩,rfl,p.1,p.2,⟨rfl,rfl⟩,hp _ hm.1,hp _ (JB hm.2),fun z=>by simp [ltB,z],fun z=>by simp [ltB,z]⟩
 ·rintro acc Γ ⟨s0,s1,rfl,rfl⟩
  rw [ziC rfl]
  rw [show List.take (List.map _ (ls.zip (ls.drop 1))).length (ls.zip (ls.drop 1))=ls.zip (ls.drop 1) from yr (by rw [yD]; exact yG _)]
  rw [zjr] at q
  simpa using q
theorem zfe:FnScope ["thing","levels","kid"] ["thing","levels"] (zo zdw):=sc0
theorem ziP (d:Df K mg "are_kids" zdw ["thing","levels"]) (G_are_rising:Fn P w K mg base 4 "are_rising" ["labels"] zb6) (z_isinstance:mg "isinstance"=none) (z_tuple:mg "tuple"=none):∀ n:Nat,Fn P w K mg base (3 * n+6) "is_node" ["thing","levels"] (zbF n)->Fn P w K mg base (3 * n+7) "are_kids" ["thing","levels"] (ze7 n):=by
 intro n G_is_node
 refine d.ok (k:=3 * n+6) zfe (fun ds Q h=>?_) (fun f cdv A outer s H E hr ds Q h=>⟨_,(zj (zbl (zbi (zbv (zaa (zdL K rfl) z_isinstance yi (zc (pv' 0) (zc (zei z_tuple YV) zi))))) (zl (zQ zcy)) zaM)
  (zj (zc5 (zch (pv' 0)) (zaQ 2 zfe.nd)
   (zl (zbl (zbi (zbv (za1 G_is_node (hr.mono (by omega)) (zc (pv' 2) (zc (pv' 1) zi))))) (zl (zQ zcy)) zaM)))
  (zl (zQ (za1 G_are_rising (hr.mono (by omega)) (zc (za5 (zc6 (fsc:=zo zdw) (N:=["thing","levels","kid"]) (N':=["kid"]) (src:=[none]) (by refine ⟨rfl,?_,?_,?_,rfl,rfl⟩ <;> decide +kernel) (zch (pv' 0)) (fun _ _ _ _ _ _=>(zaQ 0 (show (["kid"]:List Str).Nodup by decide +kernel))) (fun _ _ _ _ _ _=>zb7) (fun _ _ _ _ _ _=>(za0 (i_A (zbe hr)) (pv' 0) zn)))) zi)))))),?_⟩)
 ·obtain ⟨k,m,rfl,_⟩:=h
  rfl
 obtain ⟨k,m,rfl,hm,hs,q⟩:=h; obtain ⟨t,hk⟩:=hs.kin; simp [zaj,zab,zaf,zah,zw,zZ,tC',zaE,za9,tB',zaq,zav,zbp,zP,zaJ,zM,zbq,zad,zx,zal,zar,zbj,zbn,zbg,zag,zbh,zp,zat,zaG,zT,zS,zF,zz,zbf,zy,zas,zD,zau,zE,zO,zK,zN,zaL,zae,zbm,zU,zap,zW,zaw,xS,zax,zG,zaH,zay,zH,zt,zaA,zC,zaC,zaI,zan,zA,zao,zaF,zV,zX,zam,zaK,zu,zL,zq,zaD,zaE,zaB,zJ,zm,zaz,zr]
 rcases zfB hk with ⟨xs,rfl⟩ | ⟨hn,hz⟩
 ·cases hk
  obtain ⟨n,rfl⟩:∃ j,n=j+1:=⟨n-1,by omega⟩
  refine zm2 (b:=true) rfl rfl (.inr ⟨rfl,xs,rfl,?_⟩)
  refine zgk (fun i Γ=>∃ s2,Γ=[.val (.tup xs),.val (.int m),s2]/\∀ x ∈ xs.take i,zcQ m x=true) ⟨.emp,rfl,by simp⟩ ?_ ?_
  ·rintro i d Γ hd ⟨s2,rfl,ha⟩
   have hdm:=yb hd; simp [zaj,zab,zaf,zah,zw,zZ,tC',zaE,za9,tB',zaq,zav,zbp,zP,zaJ,zM,zbq,zad,zx,zal,zar,zbj,zbn,zbg,zag,zbh,zp,zat,zaG,zT,zS,zF,zz,zbf,zy,zas,zD,zau,zE,zO,zK,zN,zaL,zae,zbm,zU,zap,zW,zaw,xS,zax,zG,zaH,zay,zH,zt,zaA,zC,zaC,zaI,zan,zA,zao,zaF,zV,zX,zam,zaK,zu,zL,zq,zaD,zaE,zaB,zJ,zm,zaz,zr,zbF]; refine ⟨d,m,⟨rfl,rfl⟩,hm,hs.parts.2 d hdm,?_⟩
   cases hb:zcQ m d with
   | false =>
    rw [zrG hdm hb] at q
    rw [yQ (by simp)]
    exact q
   | true =>
    rw [yS rfl,Yh,hd]; intro x hx
    rcases yU.mp hx with z | z
    ·exact ha x z
    ·rw [show x=d by simpa using z]; exact hb
  ·rintro Γ ⟨s2,rfl,ha⟩
   rw [List.take_length] at ha; simp [zaj,zab,zaf,zah,zw,zZ,tC',zaE,za9,tB',zaq,zav,zbp,zP,zaJ,zM,zbq,zad,zx,zal,zar,zbj,zbn,zbg,zag,zbh,zp,zat,zaG,zT,zS,zF,zz,zbf,zy,zas,zD,zau,zE,zO,zK,zN,zaL,zae,zbm,zU,zap,zW,zaw,xS,zax,zG,zaH,zay,zH,zt,zaA,zC,zaC,zaI,zan,zA,zao,zaF,zV,zX,zam,zaK,zu,zL,zq,zaD,zaE,zaB,zJ,zm,zaz,zr,zb6]
   refine ⟨small (by have:=hs.parts.1; omega),?_⟩
   refine zcR (fun i acc Γ=>∃ s0,acc=((xs.take i).map zf2).map D.str/\Γ=[s0]) ⟨.emp,rfl,rfl⟩ ?_ ?_
   ·rintro i d acc Γ hd ⟨s0,rfl,rfl⟩
    obtain ⟨l,w,k,rfl,_⟩:=zgj (ha d (yb hd)); rw [Yh,hd]; simp [zaj,zab,zaf,zah,zw,zZ,tC',zaE,za9,tB',zaq,zav,zbp,zP,zaJ,zM,zbq,zad,zx,zal,zar,zbj,zbn,zbg,zag,zbh,zp,zat,zaG,zT,zS,zF,zz,zbf,zy,zas,zD,zau,zE,zO,zK,zN,zaL,zae,zbm,zU,zap,zW,zaw,xS,zax,zG,zaH,zay,zH,zt,zaA,zC,zaC,zaI,zan,zA,zao,zaF,zV,zX,zam,zaK,zu,zL,zq,zaD,zaE,zaB,zJ,zm,zaz,zr,zf2]
   ·rintro acc Γ ⟨s0,rfl,rfl⟩
    rw [List.take_length]
    refine ⟨xs.map zf2,rfl,by rw [yD]; exact hs.parts.1,fun l hl=>?_,?_⟩
    ·obtain ⟨x,hx,rfl⟩:=yT.mp hl
     obtain ⟨l,w,k,rfl,h⟩:=zgj (ha x hx); exact h
    ·have e:zdJ (zcQ m) (D.tup xs)=zll (xs.map zf2):=by
      show (xs.all (zcQ m) && _)=_
      rw [yY.mpr ha,Bool.true_and]
     rw [e] at q; exact q
 ·refine zm2 hk hz (.inl ⟨rfl,?_⟩)
  have e:zdJ (zcQ m) k=false:=by
   cases k <;> first | rfl | exact yM rfl (hn _)
  rw [e] at q; exact q
theorem zez:FnScope ["node","levels"] ["node","levels"] (zo zb1):=sc0
theorem zeI (d:Df K mg "has_good_parts" zb1 ["node","levels"]) (G_are_words:Fn P w K mg base 3 "are_words" ["thing"] zcY) (S_are_kids:∀ n:Nat,Fn P w K mg base (3 * n+6) "is_node" ["thing","levels"] (zbF n)->Fn P w K mg base (3 * n+7) "are_kids" ["thing","levels"] (ze7 n)):∀ n:Nat,Fn P w K mg base (3 * n+6) "is_node" ["thing","levels"] (zbF n)->Fn P w K mg base (3 * n+8) "has_good_parts" ["node","levels"] (zbQ n):=by
 intro n G_is_node; have G_are_kids:=S_are_kids n G_is_node
 refine d.ok (k:=3 * n+7) zez (fun ds Q h=>?_) (fun f cdv A outer s H E hr ds Q h=>⟨_,(zl (zQ (zci (zda zvZ (pv' 1) zn) (zci (za1 G_are_words (hr.mono (by omega)) (zc (za0 (i_A (zbe hr)) (pv' 0) zn) zi)) (zcO (za1 G_are_kids (hr.mono (by omega)) (zc (za0 (i_A (zbe hr)) (pv' 0) zn) (zc (zB zsY (pv' 1) zn) zi)))))))),?_⟩)
 ·obtain ⟨l,w,k,m,rfl,_⟩:=h
  rfl
 obtain ⟨l,w,k,m,rfl,hm,hw,hk,q⟩:=h; simp [zaj,zab,zaf,zah,zw,zZ,tC',zaE,za9,tB',zaq,zav,zbp,zP,zaJ,zM,zbq,zad,zx,zal,zar,zbj,zbn,zbg,zag,zbh,zp,zat,zaG,zT,zS,zF,zz,zbf,zy,zas,zD,zau,zE,zO,zK,zN,zaL,zae,zbm,zU,zap,zW,zaw,xS,zax,zG,zaH,zay,zH,zt,zaA,zC,zaC,zaI,zan,zA,zao,zaF,zV,zX,zam,zaK,zu,zL,zq,zaD,zaE,zaB,zJ,zm,zaz,zr]
 cases m with
 | zero=>exact .inl ⟨rfl,q⟩
 | succ m =>
  refine .inr ⟨Nat.succ_pos m,w,rfl,hw,?_⟩
  have e:zfH (m+1) w k=(zcS w && zdJ (zcQ m) k):=rfl
  rw [e] at q
  cases hb:zcS w with
  | false =>
   rw [hb] at q; exact .inl ⟨rfl,q⟩
  | true =>
   rw [hb,Bool.true_and] at q
   exact .inr ⟨rfl,k,m,by simp,by omega,hk,q⟩
theorem zgb:FnScope ["thing","levels"] ["thing","levels"] (zo zfl):=sc0
theorem zky (d:Df K mg "is_node" zfl ["thing","levels"]) (G_is_label:Fn P w K mg base 3 "is_label" ["thing"] zcH) (G_is_triple:Fn P w K mg base 1 "is_triple" ["thing"] zcp) (S_has_good_parts:∀ n:Nat,Fn P w K mg base (3 * n+6) "is_node" ["thing","levels"] (zbF n)->Fn P w K mg base (3 * n+8) "has_good_parts" ["node","levels"] (zbQ n)):∀ n:Nat,Fn P w K mg base (3 * n+6) "is_node" ["thing","levels"] (zbF n):=by
 intro n
 induction n with
 | zero=>exact d.ok (k:=3 * 0+5) zgb (fun ds Q h=>(show False from h).elim) (fun f cdv A outer s H E hr ds Q h=>(show False from h).elim)
 | succ n ih =>
 have G_is_node:Fn P w K mg base (3 * n+6) "is_node" ["thing","levels"] (zbF n):=ih
 have G_has_good_parts:=S_has_good_parts n ih
 refine d.ok (k:=3 * n+8) zgb (fun ds Q h=>?_) (fun f cdv A outer s H E hr ds Q h=>⟨_,(zl (zQ (zci (za1 G_is_triple (hr.mono (by omega)) (zc (pv' 0) zi)) (zci (za1 G_is_label (hr.mono (by omega)) (zc (za0 (i_A (zbe hr)) (pv' 0) zn) zi)) (zcO (za1 G_has_good_parts (hr.mono (by omega)) (zc (pv' 0) (zc (pv' 1) zi)))))))),?_⟩)
 ·obtain ⟨d,m,rfl,_⟩:=h
  rfl
 obtain ⟨d,m,rfl,hm,hs,q⟩:=h; simp [zaj,zab,zaf,zah,zw,zZ,tC',zaE,za9,tB',zaq,zav,zbp,zP,zaJ,zM,zbq,zad,zx,zal,zar,zbj,zbn,zbg,zag,zbh,zp,zat,zaG,zT,zS,zF,zz,zbf,zy,zas,zD,zau,zE,zO,zK,zN,zaL,zae,zbm,zU,zap,zW,zaw,xS,zax,zG,zaH,zay,zH,zt,zaA,zC,zaC,zaI,zan,zA,zao,zaF,zV,zX,zam,zaK,zu,zL,zq,zaD,zaE,zaB,zJ,zm,zaz,zr]
 refine ⟨d,rfl,hs,fun b hb=>?_⟩
 cases b with
 | false =>
  rw [zlY fun l w k e=>yM (hb.mpr ⟨l,w,k,e⟩) (by simp)] at q
  exact .inl ⟨rfl,q⟩
 | true =>
  obtain ⟨l,w,k,rfl⟩:=hb.mp rfl; have hp:=hs.parts.2; rw [zgZ] at q; refine .inr ⟨rfl,?_⟩; simp [zaj,zab,zaf,zah,zw,zZ,tC',zaE,za9,tB',zaq,zav,zbp,zP,zaJ,zM,zbq,zad,zx,zal,zar,zbj,zbn,zbg,zag,zbh,zp,zat,zaG,zT,zS,zF,zz,zbf,zy,zas,zD,zau,zE,zO,zK,zN,zaL,zae,zbm,zU,zap,zW,zaw,xS,zax,zG,zaH,zay,zH,zt,zaA,zC,zaC,zaI,zan,zA,zao,zaF,zV,zX,zam,zaK,zu,zL,zq,zaD,zaE,zaB,zJ,zm,zaz,zr]
  refine zq6 (hp l (by simp)) ?_
  cases hl:zq7 l with
  | false =>
   rw [hl] at q; exact .inl ⟨rfl,q⟩
  | true =>
   rw [hl,Bool.true_and] at q
   exact .inr ⟨rfl,l,w,k,m,rfl,by omega,hp w (by simp),hp k (by simp),q⟩
theorem zki:FnScope ["thing"] ["thing"] (zo zfk):=sc0
theorem zkx (d:Df K mg "is_tree" zfk ["thing"]) (G_is_triple:Fn P w K mg base 1 "is_triple" ["thing"] zcp) (G_has_good_parts:Fn P w K mg base 38 "has_good_parts" ["node","levels"] (zbQ 10)) (z_isinstance:mg "isinstance"=none) (z_str:mg "str"=none) {t_MOST_DEEP:Tok} (g_MOST_DEEP:mg "MOST_DEEP"=some (.int 9 t_MOST_DEEP)):Fn P w K mg base 39 "is_tree" ["thing"] zdr:=by
 refine d.ok zki (fun ds Q h=>?_) (fun f cdv A outer s H E hr ds Q h=>⟨_,(zj (zbl (PW'.pt (zjx (zbi (zbv (za1 G_is_triple (hr.mono (by decide)) (zc (pv' 0) zi)))) (zgL (zbi (zbv (zaa (zdL K rfl) z_isinstance yi (zc (za0 (i_A (zbe hr)) (pv' 0) zn) (zc (zei z_str Yv) zi)))))))) (zl (zQ zcy)) zaM)
  (zl (zQ (zci (zda (zek (zdg hr)) (za0 (i_A (zbe hr)) (pv' 0) zn) (zR [])) (zcO (za1 G_has_good_parts (hr.mono (by decide)) (zc (pv' 0) (zc (zjD g_MOST_DEEP) zi)))))))),?_⟩)
 ·obtain ⟨d,rfl,_⟩:=h
  rfl
 obtain ⟨d,rfl,hs,q⟩:=h; simp [zaj,zab,zaf,zah,zw,zZ,tC',zaE,za9,tB',zaq,zav,zbp,zP,zaJ,zM,zbq,zad,zx,zal,zar,zbj,zbn,zbg,zag,zbh,zp,zat,zaG,zT,zS,zF,zz,zbf,zy,zas,zD,zau,zE,zO,zK,zN,zaL,zae,zbm,zU,zap,zW,zaw,xS,zax,zG,zaH,zay,zH,zt,zaA,zC,zaC,zaI,zan,zA,zao,zaF,zV,zX,zam,zaK,zu,zL,zq,zaD,zaE,zaB,zJ,zm,zaz,zr]
 refine ⟨d,rfl,hs,fun b hb=>?_⟩
 cases b with
 | false=>exact .inl ⟨rfl,q false ⟨fun z=>(nomatch z),fun ⟨w,k,e,_⟩=>hb.mpr ⟨_,w,k,e⟩⟩⟩
 | true =>
  obtain ⟨l,w,k,rfl⟩:=hb.mp rfl; have hp:=hs.parts.2; refine .inr ⟨rfl,?_⟩; simp [zaj,zab,zaf,zah,zw,zZ,tC',zaE,za9,tB',zaq,zav,zbp,zP,zaJ,zM,zbq,zad,zx,zal,zar,zbj,zbn,zbg,zag,zbh,zp,zat,zaG,zT,zS,zF,zz,zbf,zy,zas,zD,zau,zE,zO,zK,zN,zaL,zae,zbm,zU,zap,zW,zaw,xS,zax,zG,zaH,zay,zH,zt,zaA,zC,zaC,zaI,zan,zA,zao,zaF,zV,zX,zam,zaK,zu,zL,zq,zaD,zaE,zaB,zJ,zm,zaz,zr]
  rcases (hp l (by simp)).any with ⟨l,rfl,hl⟩ | ⟨t,hk,ht⟩
  ·refine zm2 (b:=true) rfl rfl (.inr ⟨rfl,?_⟩)
   simp [zaj,zab,zaf,zah,zw,zZ,tC',zaE,za9,tB',zaq,zav,zbp,zP,zaJ,zM,zbq,zad,zx,zal,zar,zbj,zbn,zbg,zag,zbh,zp,zat,zaG,zT,zS,zF,zz,zbf,zy,zas,zD,zau,zE,zO,zK,zN,zaL,zae,zbm,zU,zap,zW,zaw,xS,zax,zG,zaH,zay,zH,zt,zaA,zC,zaC,zaI,zan,zA,zao,zaF,zV,zX,zam,zaK,zu,zL,zq,zaD,zaE,zaB,zJ,zm,zaz,zr]
   by_cases e:l=[]
   ·subst e
    refine .inr ⟨rfl,.str [],w,k,9,rfl,by omega,hp w (by simp),hp k (by simp),q _ ⟨fun z=>⟨w,k,rfl,z⟩,fun ⟨w',k',e,z⟩=>?_⟩⟩
    cases e; exact z
   ·refine .inl ⟨e,q false ⟨fun z=>(nomatch z),fun ⟨w',k',e',z⟩=>?_⟩⟩
    cases e'; exact yM rfl e
  ·have hz:W.kitOne K (.type t) (.type "str")=some false:=by rcases ht with rfl | rfl | rfl | rfl | rfl | rfl <;> rfl
   refine zm2 hk hz (.inl ⟨rfl,q false ⟨fun z=>(nomatch z),fun ⟨w,k,e,_⟩=>?_⟩⟩)
   cases e; cases hk
   simp at ht
end
def GT:Nat->Tr->Prop
 | 0,_=>False
 | n+1,t=>(∀ w ∈ t.wds,zdC w=true)/\Ris (t.kds.map Tr.lab)/\∀ k ∈ t.kds,zY k.lab=true/\GT n k
theorem ztd {p q r:Int × List Nat} (h:klt p q) (h':klt q r):klt p r:=by
 rcases h with h | ⟨e,h⟩ <;> rcases h' with h' | ⟨e',h'⟩
 ·exact .inl (Int.lt_trans h h')
 ·exact .inl (by rw [<- e']; exact h)
 ·exact .inl (by rw [e]; exact h')
 ·exact .inr ⟨e.trans e',List.lt_trans h h'⟩
theorem zjs:∀ {L:List (List Nat)},zll L=true->Ris L
 | [],_=>List.Pairwise.nil
 | [a],_=>List.pairwise_singleton _ _
 | a :: b :: r,h=>by
  simp only [zll,yX,yk] at h; have ih:=zjs h.2
  refine List.pairwise_cons.mpr ⟨fun c hc=>?_,ih⟩
  rcases yJ.mp hc with rfl | hc
  ·exact h.1
  ·exact ztd h.1 ((List.pairwise_cons.mp ih).1 c hc)
theorem zna {w:D} (h:zcS w=true):∃ ws:Pl,w=plc ws/\∀ x ∈ ws,zdC x=true:=by
 cases w with
 | tup ds =>
  have h':ds.all zo1=true:=h
  clear h
  induction ds with
  | nil=>exact ⟨[],rfl,by simp⟩
  | cons d ds ih =>
   rw [List.all_cons,yX] at h'; obtain ⟨ws,e,hw⟩:=ih h'.2
   cases d with
   | str l =>
    refine ⟨l :: ws,?_,fun x hx=>?_⟩
    ·have:ds=ws.map D.str:=by
      injection e
     rw [this]; rfl
    ·rcases yJ.mp hx with rfl | hx
     ·exact h'.1
     ·exact hw x hx
   | _=>exact yM h'.1 (by simp [zo1])
 | _=>exact yM h (by simp [zcS])
theorem zmi:∀ {n:Nat} {w k:D},zfH n w k=true->∃ ws ks,w=plc ws/\k=.tup (ks.map trD)/\∀ l,GT n (.node l ws ks)
 | 0,w,k,h=>by simp [zfH] at h
 | n+1,w,k,h=>by
  rw [zfH,yX] at h; obtain ⟨ws,rfl,hw⟩:=zna h.1; have hk:=h.2
  cases k with
  | tup ds =>
   rw [zdJ,yX] at hk
   have kd:∃ ks:List Tr,ds=ks.map trD/\∀ k ∈ ks,zY k.lab=true/\GT n k:=by
    have h1:=hk.1
    clear hk h
    induction ds with
    | nil=>exact ⟨[],rfl,by simp⟩
    | cons d ds ih =>
     rw [List.all_cons,yX] at h1; obtain ⟨ks,e,hks⟩:=ih h1.2
     have one:∃ t,d=trD t/\zY t.lab=true/\GT n t:=by
      have hd:=h1.1
      have sh:∃ l w k,d=.tup [l,w,k]:=by
       unfold zcQ at hd; split at hd
       ·exact ⟨_,_,_,rfl⟩
       ·cases hd
      obtain ⟨l,w,k,rfl⟩:=sh; rw [zgZ,yX] at hd
      cases l with
      | str l =>
       obtain ⟨ws',ks',rfl,rfl,g⟩:=zmi hd.2
       exact ⟨.node l ws' ks',by rw [zbI]; rfl,hd.1,g l⟩
      | _=>exact yM hd.1 (by simp [zq7])
     obtain ⟨t,rfl,h2,h3⟩:=one
     refine ⟨t :: ks,by rw [e]; rfl,fun k hk=>?_⟩
     rcases yJ.mp hk with rfl | hk
     ·exact ⟨h2,h3⟩
     ·exact hks k hk
   obtain ⟨ks,rfl,hks⟩:=kd
   refine ⟨ws,ks,rfl,rfl,fun l=>⟨hw,?_,hks⟩⟩
   have e:(ks.map trD).map zf2=ks.map Tr.lab:=by
    rw [yt]
    refine YC fun t _=>?_
    show zf2 (trD t)=t.lab
    rw [zbI]; rfl
   have hr:=hk.2; rw [e] at hr; exact zjs hr
  | _=>exact yM hk (by simp [zdJ])
theorem GT.ds:∀ {n:Nat} {t:Tr},GT n t->Ds t
 | 0,_,h=>h.elim
 | n+1,.node _ _ _,h=>.mk h.2.1.nodup fun k hk=>GT.ds (h.2.2 k hk).2
structure RowS (r:Row):Prop where
 lab:∀ l ∈ r.1,l.length<=1000
 wds:r.2.length<=100
 wlen:∀ w ∈ r.2,w.length<=1000
structure FI (R:List Row) (s:Fs):Prop where
 len:∀ q,(s.1 q).length<=R.length
 sn:∀ q,∀ d ∈ s.1 q,Sn d
 rows:∀ q,∀ t:Tr,trD t ∈ s.1 q->t.lab≠[]->∀ n,GT n t->∀ r ∈ zaU t (q ++ [t.lab]),r ∈ R
theorem zl9 {r:Row} (h:RowS r):(zeX r.1).length<=1000:=by
 unfold zeX
 cases e:r.1.getLast? with
 | none=>simp
 | some x=>exact h.lab x (List.mem_of_getLast? e)
theorem zlX {R:List Row} {s:Fs} {r:Row} (I:FI R s) (hr:RowS r) (hl:R.length<=100):Sn (zeV s.1 r):=by
 refine .tup (by simp) fun d hd=>?_
 simp only [yJ,yu,or_false] at hd
 rcases hd with rfl | rfl | rfl
 ·exact .str (zl9 hr)
 ·refine .tup (by rw [yD]; exact hr.wds) fun d hd=>?_
  obtain ⟨w,hw,rfl⟩:=yT.mp hd; exact .str (hr.wlen w hw)
 ·refine .tup (by rw [ym]; have:=I.len r.1; omega) fun d hd=>I.sn r.1 d (List.mem_reverse.mp hd)
theorem zem:∀ {ks:List Tr} {p:Pl} {r:Row},r ∈ zbu ks p->∃ k ∈ ks,r ∈ zaU k (p ++ [k.lab])
 | [],_,_,h=>by simp [zbu] at h
 | k :: ks,p,r,h=>by
  rw [zbu,yU] at h
  rcases h with h | h
  ·exact ⟨k,by simp,h⟩
  ·obtain ⟨k',h1,h2⟩:=zem h
   exact ⟨k',by simp [h1],h2⟩
theorem zhR {R:List Row} {s:Fs} {r:Row} {t:Tr} {n:Nat} (I:FI R s) (e:zeV s.1 r=trD t) (g:GT n t):∀ x ∈ zaU t r.1,x ∈ r :: R:=by
 intro x hx; rw [zbI] at e; unfold zeV at e
 injection e with e
 injection e with e1 e
 injection e with e2 e
 injection e with e3
 rw [zgG] at hx
 rcases yJ.mp hx with rfl | hx
 ·rw [<- zdW e2]
  exact yR
 ·obtain ⟨k,hk,hx⟩:=zem hx
  cases n with
  | zero=>exact g.elim
  | succ n =>
   obtain ⟨hl,gk⟩:=g.2.2 k hk; refine yI _ (I.rows r.1 k ?_ (M11.prog_facts hl).2.2 n gk x hx)
   injection e3 with e3
   have:trD k ∈ (s.1 r.1).reverse:=by rw [e3]; exact Yo hk
   exact List.mem_reverse.mp this
theorem FI.step {R:List Row} {s:Fs} {r:Row} (I:FI R s) (hr:RowS r) (hl:R.length<=100):FI (r :: R) (zd6 s r):=by
 refine ⟨fun q=>?_,fun q d hd=>?_,fun q t ht hn n g x hx=>?_⟩
 ·have:=I.len q
  unfold zd6
  dsimp only
  split
  ·simp; omega
  ·simp; omega
 ·unfold zd6 at hd
  dsimp only at hd
  split at hd
  ·rcases yU.mp hd with hd | hd
   ·exact I.sn q d hd
   ·rw [yc.mp hd]
    exact zlX I hr hl
  ·exact I.sn q d hd
 ·unfold zd6 at ht
  dsimp only at ht
  split at ht
  ·rename_i hq
   rcases yU.mp ht with ht | ht
   ·exact yI _ (I.rows q t ht hn n g x hx)
   ·have e:=(yc.mp ht).symm
    refine zhR I e g x ?_
    have el:zeX r.1=t.lab:=by
     rw [zbI] at e; unfold zeV at e
     injection e with e
     injection e with e1 e
     injection e1
    have hne:r.1≠[]:=fun z=>hn (by rw [<- el,z]; rfl)
    have:q ++ [t.lab]=r.1:=by
     rw [hq,<- el]; unfold zeX; rw [List.getLast?_eq_getLast hne,JD]; exact List.dropLast_concat_getLast hne
    rw [<- this]; exact hx
  ·exact yI _ (I.rows q t ht hn n g x hx)
theorem zjQ:∀ (rows:List Row),(∀ r ∈ rows,RowS r)->rows.length<=100->FI rows (zca rows.reverse)
 | [],_,_=>⟨fun _=>by simp [zca],fun q d hd=>by simp [zca] at hd,fun q t ht=>by simp [zca] at ht⟩
 | r :: rows,h,hl=>by
  rw [yg] at hl
  have ih:=zjQ rows (fun x hx=>h x (by simp [hx])) (by omega)
  have:zca (r :: rows).reverse=zd6 (zca rows.reverse) r:=by
   unfold zca; rw [Yz,JK]; rfl
  rw [this]
  exact ih.step (h r (by simp)) (by omega)
theorem zmk {r0:Row} {zba:List Row} (h:∀ r ∈ r0 :: zba,RowS r) (hl:(r0 :: zba).length<=100):Sn (zca (r0 :: zba).reverse).2 /\
  ∀ w k,(zca (r0 :: zba).reverse).2=.tup [.str [],w,k]->zfH 9 w k=true->∃ t:Tr,t.lab=[]/\GT 9 t/\(zca (r0 :: zba).reverse).2=trD t/\∀ r ∈ zaU t r0.1,r ∈ r0 :: zba:=by
 have e:zca (r0 :: zba).reverse=zd6 (zca zba.reverse) r0:=by
  unfold zca; rw [Yz,JK]; rfl
 rw [yg] at hl
 have I:=zjQ zba (fun x hx=>h x (by simp [hx])) (by omega)
 rw [e]
 show Sn (zeV (zca zba.reverse).1 r0)/\∀ w k,zeV (zca zba.reverse).1 r0=_->_->_
 refine ⟨zlX I (h r0 (by simp)) (by omega),fun w k ed g=>?_⟩
 obtain ⟨ws,ks,rfl,rfl,gt⟩:=zmi g
 have et:zeV (zca zba.reverse).1 r0=trD (.node [] ws ks):=by rw [ed,zbI]; rfl
 exact ⟨.node [] ws ks,rfl,gt [],et,zhR I et (gt [])⟩
mutual
theorem zgE (t:Tr) (p q:Pl):zaU t (p ++ q)=(zaU t q).map fun r=>(p ++ r.1,r.2):=by
 cases t with
 | node l ws ks =>
  simp only [zaU,yZ]; rw [zjn ks p q]
theorem zjn (ks:List Tr) (p q:Pl):zbu ks (p ++ q)=(zbu ks q).map fun r=>(p ++ r.1,r.2):=by
 cases ks with
 | nil=>rfl
 | cons k ks =>
  simp only [zbu,YE]
  rw [Yk,zgE k p (q ++ [k.lab]),zjn ks p q]
end
theorem ziu {t:Tr} {p:Pl} {r:Row} (h:r ∈ zaU t p):∃ s,r.1=p ++ s:=by
 have e:=zgE t p []; rw [YG] at e; rw [e] at h; obtain ⟨x,_,rfl⟩:=yT.mp h; exact ⟨x.1,rfl⟩
mutual
theorem zgQ (t:Tr) (h:Ds t) (p:Pl):((zaU t p).map (·.1)).Nodup:=by
 cases t with
 | node l ws ks =>
  simp only [zaU,yZ]
  refine YD.mpr ⟨fun z=>?_,zhF ks h.nd h.kids p⟩
  obtain ⟨r,hr,e⟩:=yT.mp z; obtain ⟨k,_,hr⟩:=zem hr; obtain ⟨s,e2⟩:=ziu hr
  have:=yp List.length (e2.symm.trans e)
  simp at this
theorem zhF (ks:List Tr) (nd:(ks.map Tr.lab).Nodup) (hk:∀ k ∈ ks,Ds k) (p:Pl):((zbu ks p).map (·.1)).Nodup:=by
 cases ks with
 | nil=>exact List.nodup_nil
 | cons k ks =>
  simp only [zbu,YE]; rw [yZ,YD] at nd
  refine JA.mpr ⟨zgQ k (hk k (by simp)) _,zhF ks nd.2 (fun x hx=>hk x (by simp [hx])) p,fun a ha b hb e=>?_⟩
  subst e; obtain ⟨r,hr,e1⟩:=yT.mp ha; obtain ⟨r',hr',e2⟩:=yT.mp hb; obtain ⟨s,e3⟩:=ziu hr; obtain ⟨k',hk',hr'⟩:=zem hr'; obtain ⟨s',e4⟩:=ziu hr'
  have e5:p ++ [k.lab] ++ s=p ++ [k'.lab] ++ s':=by rw [<- e3,<- e4,e1,e2]
  rw [Yk,Yk] at e5; have e6:=List.append_cancel_left e5
  have e7:k.lab=k'.lab:=by
   injection e6
  exact nd.1 (by rw [e7]; exact Yo hk')
end
theorem zg6:∀ {n:Nat} {t:Tr} {p:Pl},GT n t->p.all zY=true->∀ r ∈ zaU t p,r.1.length+1<=p.length+n/\r.1.all zY=true/\∀ w ∈ r.2,zdC w=true
 | 0,_,_,g,_,_,_=>g.elim
 | n+1,t,p,g,hp,r,hr=>by
  rw [zgG] at hr
  rcases yJ.mp hr with rfl | hr
  ·exact ⟨by simp,hp,g.1⟩
  ·obtain ⟨k,hk,hr⟩:=zem hr
   obtain ⟨hl,gk⟩:=g.2.2 k hk
   have:=zg6 gk (p:=p ++ [k.lab]) (by rw [List.all_append,hp]; simp [hl]) r hr
   refine ⟨?_,this.2⟩; have h1:=this.1; rw [yH,ya] at h1; omega
theorem ztn {t:Tr} {n:Nat} {p:Pl} {rows:List Row} (g:GT n t) (h:∀ r ∈ zaU t p,r ∈ rows):(zaU t []).length<=rows.length:=by
 have e:=zgE t p []; rw [YG] at e
 have l1:(zaU t []).length=((zaU t p).map (·.1)).length:=by rw [yD,e,yD]
 rw [l1]
 have:=nodup_len _ (rows.map (·.1)) (zgQ t g.ds p) fun x hx=>by
  obtain ⟨r,hr,rfl⟩:=yT.mp hx; exact Yo (h r hr)
 rw [yD] at this; rw [yD]; rw [yD] at this; exact this
theorem ztm {t:Tr} {n:Nat} {p:Pl} {rows:List Row} {B:Nat} (h:∀ r ∈ zaU t p,r ∈ rows) (hB:∀ r ∈ rows,r.2.length<=B):∀ r ∈ zaU t [],r.2.length<=B:=fun r hr=>by
 have e:=zgE t p []; rw [YG] at e
 exact hB (p ++ r.1,r.2) (h _ (by rw [e]; exact yT.mpr ⟨r,hr,rfl⟩))
def zfS (s:List Nat):Row:=(M11.labelsIn ((spl 32 s).headD []),(spl 32 s).tail)
theorem zhz {r:Row} (h:RowOk r):zfS (zfo r)=r:=by
 unfold zfS; rw [zhy h]
 show (M11.labelsIn (M11.textOf r.1),r.2)=r
 rw [M11.labels_text h.lab]
theorem zga {t:Tr} (h:∀ r ∈ zaU t [],RowOk r):(spl 10 (zeP t)).map zfS=zaU t []:=by
 rw [zdO h,yt]
 have:∀ L:List Row,(∀ r ∈ L,RowOk r)->L.map (zfS ∘ zfo)=L:=fun L hL=>by
  induction L with
  | nil=>rfl
  | cons r L ih=>rw [yZ,ih fun x hx=>hL x (by simp [hx])]; show zfS (zfo r) :: L=_; rw [zhz (hL r (by simp))]
 exact this _ h
theorem zsh {s:List Nat} (h:s.length<=800) (hp:(spl 32 s).length<=7):RowS (zfS s):=by
 have h3:=M11.spl_short 32 s
 have hh:((spl 32 s).headD []).length<=s.length:=by
  cases e:spl 32 s with
  | nil=>simp
  | cons a b=>exact h3 a (by rw [e]; simp)
 refine ⟨fun l hl=>?_,?_,fun w hw=>?_⟩
 ·have hl':l ∈ M11.labelsIn ((spl 32 s).headD []):=hl
  unfold M11.labelsIn at hl'
  split at hl'
  ·simp at hl'
  ·have:=M11.spl_short 46 _ l hl'
   omega
 ·show (spl 32 s).tail.length<=100
  rw [List.length_tail]; omega
 ·have:=h3 w (List.mem_of_mem_tail hw)
  omega
structure TextOk (x:List Nat):Prop where
 len:(spl 10 x).length<=60
 row:∀ s ∈ spl 10 x,s.length<=800/\(spl 32 s).length<=7
def ziw (x:List Nat):D:=(zca ((spl 10 x).map zfS).reverse).2
theorem spl_ne (c:Nat) (x:List Nat):spl c x≠[]:=by
 cases x with
 | nil=>simp [spl]
 | cons a r =>
  unfold spl; split
  ·simp
  ·split <;> simp
theorem zkZ {w:List Nat} (h:zdC w=true):w.length<=12/\32 ∉ w/\10 ∉ w:=by
 unfold zdC at h; rw [yX,yk,yY] at h
 have hc:∀ c ∈ w,c ∈ wsg:=fun c hc=>of_decide_eq_true (h.2 c hc)
 exact ⟨h.1.2,fun z=>yM (hc _ z) (by decide),fun z=>yM (hc _ z) (by decide)⟩
theorem zlm {x:List Nat} (h:TextOk x):Sn (ziw x)/\∀ w k,ziw x=.tup [.str [],w,k]->zfH 9 w k=true->∃ t:Tr,t.lab=[]/\GT 9 t/\ziw x=trD t/\(zaU t []).length<=60/\∀ r ∈ zaU t [],RowOk r:=by
 unfold ziw
 have hR:∀ r ∈ (spl 10 x).map zfS,RowS r/\r.2.length<=6:=fun r hr=>by
  obtain ⟨s,hs,rfl⟩:=yT.mp hr; refine ⟨zsh (h.row s hs).1 (h.row s hs).2,?_⟩
  have:=(h.row s hs).2
  show (spl 32 s).tail.length<=6
  rw [List.length_tail]; omega
 have hL:((spl 10 x).map zfS).length<=60:=by rw [yD]; exact h.len
 cases e:(spl 10 x).map zfS with
 | nil=>exact yM (List.map_eq_nil_iff.mp e) (spl_ne 10 x)
 | cons r0 zba =>
  rw [e] at hR hL
  obtain ⟨h1,h2⟩:=zmk (fun r hr=>(hR r hr).1) (by omega)
  refine ⟨h1,fun w k ed g=>?_⟩
  obtain ⟨t,t1,t2,t3,t4⟩:=h2 w k ed g; have hl:=ztn t2 t4
  refine ⟨t,t1,t2,t3,by omega,fun r hr=>?_⟩
  obtain ⟨g1,g2,g3⟩:=zg6 t2 (p:=[]) rfl r hr
  have hw:=ztm (n:=9) t4 (fun r hr=>(hR r hr).2) r hr
  rw [Ym] at g1
  exact ⟨by omega,g2,hw,fun w hw=>(zkZ (g3 w hw)).1,fun w hw=>(zkZ (g3 w hw)).2⟩
structure RowG (s:List Nat):Prop where
 len:(zfS s).1.length<=8
 lab:(zfS s).1.all zY=true
 wds:∀ w ∈ (zfS s).2,zdC w=true
 back:zfo (zfS s)=s
def zb3 (x:List Nat):Prop:=∃ t:Tr,t.lab=[]/\GT 9 t/\(zaU t []).length<=60/\(∀ r ∈ zaU t [],RowOk r)/\zeP t=x
theorem ziQ {x:List Nat} (h:zb3 x):(∀ s ∈ spl 10 x,RowG s)/\((spl 10 x).map zfS |>.map (·.1)).Nodup:=by
 obtain ⟨t,hl,g,h60,ok,rfl⟩:=h; rw [zga ok]
 refine ⟨fun s hs=>?_,zgQ t g.ds []⟩
 rw [zdO ok] at hs; obtain ⟨r,hr,rfl⟩:=yT.mp hs; obtain ⟨g1,g2,g3⟩:=zg6 g (p:=[]) rfl r hr; rw [Ym] at g1; have e:=zhz (ok r hr)
 exact ⟨by rw [e]; omega,by rw [e]; exact g2,by rw [e]; exact g3,by rw [e]⟩
theorem zqV {s:List Nat} (h:RowG s):∀ c ∈ s,c=32\/c=46\/dig c=true\/sml c=true\/c ∈ wsg:=fun c hc=>by
 rw [<- h.back] at hc; unfold zfo at hc
 rcases ze0 32 hc with rfl | ⟨a,ha,hc⟩
 ·exact .inl rfl
 ·rcases yJ.mp ha with rfl | ha
  ·by_cases z:c=46
   ·exact .inr (.inl z)
   ·cases h1:dig c with
    | true=>exact .inr (.inr (.inl rfl))
    | false =>
     cases h2:sml c with
     | true=>exact .inr (.inr (.inr (.inl rfl)))
     | false=>exact yM hc (zio h.lab h1 h2 z)
  ·have:=h.wds a ha
   unfold zdC at this; rw [yX,yY] at this; exact .inr (.inr (.inr (.inr (of_decide_eq_true (this.2 c hc)))))
theorem ziS {s:List Nat} {c:Nat} (hc:c ∈ s) (h:(c == 32 || c == 46 || dig c || sml c || decide (c ∈ wsg))=false):¬ RowG s:=fun g=>by
 have:=zqV g c hc
 simp only [Bool.or_eq_false_iff,beq_eq_false_iff_ne,decide_eq_false_iff_not] at h
 obtain ⟨⟨⟨⟨h1,h2⟩,h3⟩,h4⟩,h5⟩:=h
 rcases this with z | z | z | z | z
 ·exact h1 z
 ·exact h2 z
 ·rw [h3] at z; cases z
 ·rw [h4] at z; cases z
 ·exact h5 z
theorem zd9 (c:Nat) (x:Nat) (r:List Nat):spl c (x :: r)=if x=c then [] :: spl c r else (x :: (spl c r).headD []) :: (spl c r).tail:=by
 have hne:=spl_ne c r
 cases e:spl c r with
 | nil=>exact yM e hne
 | cons a b =>
  rw [spl]; simp [e]
theorem zcE (c:Nat):∀ (a b:List Nat),spl c (a ++ c :: b)=spl c a ++ spl c b
 | [],b=>by rw [JI,zd9,yS rfl]; simp [spl]
 | x :: a,b=>by
  rw [List.cons_append,zd9,zd9,zcE c a b]; have hne:=spl_ne c a
  cases e:spl c a with
  | nil=>exact yM e hne
  | cons u v=>by_cases z:x=c <;> simp [z]
theorem zcD {c:Nat}:∀ {a:List Nat},c ∉ a->spl c a=[a]
 | [],_=>by simp [spl]
 | x :: a,h=>by
  rw [yJ,not_or] at h
  rw [zd9,yQ (fun z=>h.1 z.symm),zcD h.2]
  rfl
theorem zeJ {row w:List Nat} (h:∃ y ∈ spl 32 w,zdC y=false):¬ RowG (row ++ 32 :: w):=fun g=>by
 obtain ⟨y,hy,hf⟩:=h
 have:=g.wds y (by
  show y ∈ (spl 32 (row ++ 32 :: w)).tail
  rw [zcE]; have hne:=spl_ne 32 row
  cases e:spl 32 row with
  | nil=>exact yM e hne
  | cons u v=>show y ∈ v ++ spl 32 w; exact yf _ hy)
 rw [hf] at this; cases this
theorem zl0 {a row:List Nat} (ha:32 ∉ a) (h:(M11.labelsIn a).all zY=false):¬ RowG (a ++ 32 :: row):=fun g=>by
 have:(M11.labelsIn ((spl 32 (a ++ 32 :: row)).headD [])).all zY=true:=g.lab
 rw [zcE,zcD ha] at this
 rw [show ([a] ++ spl 32 row).headD []=a from rfl,h] at this
 cases this
theorem zlZ:¬ RowG []:=fun g=>yM g.lab (by decide)
theorem zq0:¬ RowG [46,46]:=fun g=>yM g.lab (by decide)
theorem zq1:¬ RowG [49,46,49,46,49,46,49,46,49,46,49,46,49,46,49,46,49,46,49]:=fun g=>yM g.len (by decide)
theorem ze6 (c:Nat):∀ {L:List (List Nat)},L≠[]->spl c (zaT c L)=L.flatMap (spl c)
 | [],h=>yM rfl h
 | [a],_=>by simp [zaT]
 | a :: b :: r,_=>by
  rw [zfF (by simp),zcE,ze6 c (L:=b :: r) (by simp)]
  rfl
theorem zs4 {x s:List Nat} (hs:s ∈ spl 10 x) (h:¬ RowG s):¬ zb3 x:=fun o=>h ((ziQ o).1 s hs)
theorem zjG {x s:List Nat} {A B C:List (List Nat)} (e:spl 10 x=A ++ s :: B ++ s :: C):¬ zb3 x:=fun o=>by
 have:=(ziQ o).2
 rw [e] at this; simp only [YE,yZ] at this; rw [JA] at this
 exact this.2.2 _ (by simp) _ yR rfl
def ze8 (row:List Nat):List (List Nat) :=
  [32 :: row,row ++ [32],row ++ [32,32,98],row ++ [32,66],row ++ [32,97,45,98],row ++ [32,97,98,99,100,101,102,103,104,105,106,107,108,109],row ++ 10 :: row,[],
   [48,32] ++ row,row ++ [10],row ++ [9],[49,97,46,49,66],row ++ [10,49,46,49,46,49,46,49,46,49,46,49,46,49,46,49,46,49,46,49],[46,46],row ++ [32,35],[49,44,49]]
def zmL (A B:List (List Nat)) (s:List Nat):List Nat:=zaT 10 (A ++ [s] ++ B)
theorem ztG {A B:List (List Nat)} {row s:List Nat} (hr:10 ∉ row) (hs:s ∈ ze8 row):¬ zb3 (zmL A B s):=by
 have e:spl 10 (zmL A B s)=A.flatMap (spl 10) ++ spl 10 s ++ B.flatMap (spl 10):=by
  unfold zmL
  rw [ze6 10 (by simp)]
  simp
 have at_:∀ y ∈ spl 10 s,¬ RowG y->¬ zb3 (zmL A B s):=fun y hy hn=>zs4 (by rw [e]; simp [hy]) hn
 have self:10 ∉ s->¬ RowG s->¬ zb3 (zmL A B s):=fun h hn=>at_ s (by rw [zcD h]; simp) hn
 have hrr:10 ∉ row ++ row:=fun z=>by rcases yU.mp z with z | z <;> exact hr z
 simp only [ze8,yJ,yu,or_false] at hs
 rcases hs with h | h | h | h | h | h | h | h | h | h | h | h | h | h | h | h <;> subst h
 ·exact self (by simp [hr]) (zl0 (a:=[]) (by simp) (by decide))
 ·exact self (by simp [hr]) (zeJ (w:=[]) ⟨[],by decide,by decide⟩)
 ·exact self (by simp [hr]) (zeJ (w:=[32,98]) ⟨[],by decide,by decide⟩)
 ·exact self (by simp [hr]) (zeJ (w:=[66]) ⟨[66],by decide,by decide⟩)
 ·exact self (by simp [hr]) (zeJ (w:=[97,45,98]) ⟨[97,45,98],by decide,by decide⟩)
 ·exact self (by simp [hr]) (zeJ (w:=[97,98,99,100,101,102,103,104,105,106,107,108,109]) ⟨_,yR,by decide⟩)
 ·rw [zcE,zcD hr] at e
  exact zjG (A:=A.flatMap (spl 10)) (B:=[]) (C:=B.flatMap (spl 10)) (s:=row) (by rw [e]; simp)
 ·exact self (by simp) zlZ
 ·exact self (by simp [hr]) (zl0 (a:=[48]) (by decide) (by decide))
 ·exact at_ [] (by rw [zcE]; simp [spl]) zlZ
 ·exact self (by simp [hr]) (ziS (c:=9) (by simp) (by decide))
 ·exact self (by decide) (ziS (c:=66) (by decide) (by decide))
 ·exact at_ _ (by rw [zcE]; exact yf _ (by decide:[49,46,49,46,49,46,49,46,49,46,49,46,49,46,49,46,49,46,49] ∈ spl 10 [49,46,49,46,49,46,49,46,49,46,49,46,49,46,49,46,49,46,49])) zq1
 ·exact self (by decide) zq0
 ·exact self (by simp [hr]) (zeJ (w:=[35]) ⟨[35],by decide,by decide⟩)
 ·exact self (by decide) (ziS (c:=44) (by decide) (by decide))
end K13
namespace K13
open PySem L2 Lb PL MT M04 MS M70 M11 M12
open Classical in
theorem zlk:∀ {L:List (List Nat)},Ris L->zll L=true
 | [],_=>rfl
 | [a],_=>rfl
 | a :: b :: r,h=>by
  have h':=List.pairwise_cons.mp h; unfold zll
  rw [YB (h'.1 b (by simp)),Bool.true_and]
  exact zlk h'.2
theorem zmh:∀ {n:Nat} {t:Tr},GT n t->zfH n (plc t.wds) (.tup (t.kds.map trD))=true
 | 0,_,h=>h.elim
 | n+1,t,h=>by
  show (zcS (plc t.wds) && zdJ (zcQ n) (.tup (t.kds.map trD)))=true
  have hw:zcS (plc t.wds)=true:=by
   show (t.wds.map D.str).all zo1=true
   rw [yY]; intro d hd; obtain ⟨l,hl,rfl⟩:=yT.mp hd; exact h.1 l hl
  have hl:(t.kds.map trD).map zf2=t.kds.map Tr.lab:=by
   rw [yt]
   refine YC fun k _=>?_
   show zf2 (trD k)=_
   rw [zbI]; rfl
  rw [hw,Bool.true_and]
  show ((t.kds.map trD).all (zcQ n) && zll ((t.kds.map trD).map zf2))=true
  rw [hl,zlk h.2.1,Bool.and_true,yY]; intro d hd; obtain ⟨k,hk,rfl⟩:=yT.mp hd; obtain ⟨h1,h2⟩:=h.2.2 k hk; rw [zbI,zgZ,zmh h2,Bool.and_true]; exact h1
mutual
theorem zo3 (t u:Tr) (e:trD t=trD u):t=u:=by
 cases t with
 | node l ws ks =>
  cases u with
  | node l' ws' ks' =>
   simp only [trD] at e
   injection e with e
   injection e with e1 e
   injection e with e2 e
   injection e with e3
   injection e3 with e3
   injection e1 with e1
   rw [e1,zdW e2,zk4 ks ks' e3]
theorem zk4 (ks ls:List Tr) (e:zmT ks=zmT ls):ks=ls:=by
 cases ks with
 | nil =>
  cases ls with
  | nil=>rfl
  | cons b ls=>simp [zmT] at e
 | cons a ks =>
  cases ls with
  | nil=>simp [zmT] at e
  | cons b ls =>
   simp only [zmT] at e
   injection e with e1 e2
   rw [zo3 a b e1,zk4 ks ls e2]
end
theorem zlS {t:Tr} (hl:t.lab=[]) (g:GT 9 t) (ok:∀ r ∈ zaU t [],RowOk r):ziw (zeP t)=trD t:=by
 unfold ziw; rw [zga ok]; exact zoK t g.ds hl
end K13
namespace K13
open PySem L2 Lb PL MT M04 MS M70 M11 M12
def zbO:Sp':=fun ds Q=>∃ t l,ds=[trD t,.str l]/\Q (.val (zpg (zbB l t.kds)))
def zcu:Sp':=fun ds Q=>∃ t p,ds=[trD t,plc p]/\Q (.val (zpg (zbG t p)))
instance:MSp zcu:=⟨fun _ _ _ h ⟨t,p,e,q⟩=>⟨t,p,e,h _ q⟩⟩
def zea:Sp':=fun ds Q=>∃ t:Tr,ds=[trD t]/\(zdV t []).length<=60/\(∀ q,q ∈ zdV t []->q.length<=8)/\Q (.own (.lst ((zdV t []).map plc)))
theorem zgP (t:Tr) (p:Pl):1<=(zdV t p).length:=by rw [zfq]; simp
theorem ze2 {α β:Type} {f:α->List β}:∀ {l:List α},(∀ a,a ∈ l->1<=(f a).length)->l.length<=(l.flatMap f).length
 | [],_=>by simp
 | a :: l,h=>by
  have h1:=h a (by simp)
  have h2:=ze2 (f:=f) (l:=l) fun b hb=>h b (by simp [hb])
  simp only [List.flatMap_cons,yg,yH]; omega
theorem znG (t:Tr) (Q:D->Prop):zjw (trD t) (.int 0) Q↔Q (.str t.lab):=by rw [zbI]; simp
def wD (x:Pl × Tr):D:=.tup [plc x.1,trD x.2]
abbrev wP (x:Pl × Tr):List Pl:=zdV x.2 x.1
def zco:Sp':=fun ds Q=>∃ l,ds=[.str l]/\l.length<=900/\Q (.val (plc (labelsIn l)))
def zvJ (L:List (List Nat)):Prop:=L.length<=8/\L.all zY=true
def zb4:Sp':=fun ds Q=>∃ L,ds=[plc L]/\zvJ L/\Q (.val (.str (textOf L)))
theorem zp8:1000<sizeLine:=za4 (yG _)
theorem ztE:bootBuiltins "ValueError"=some (.type "ValueError"):=by rfl
structure Cs where
 MendError:Addr
 NoPlace:Addr
 NoText:Addr
 NoFit:Addr
 NoName:Addr
 Twice:Addr
 NoDay:Addr
 NoAct:Addr
 NoRow:Addr
structure CF (K:W.Frag) (T:Cs):Prop where
 xis:X1.XIs K T.NoText
 exm:W.exmOne K (.ref T.NoText) (.ref T.MendError)=some true
 exn:W.exmOne K (.ref T.NoText) (.ref T.NoText)=some true
 kN:W.kitOne K (.ref T.NoText) (.ref T.NoText)=some true
 kV:W.kitOne K (.ref T.NoText) (.type "ValueError")=some true
 kA:W.kitAny K (.ref T.NoText) [.ref T.NoAct,.ref T.NoDay,.ref T.NoFit,.ref T.NoName,.ref T.NoPlace,.ref T.NoRow,.ref T.Twice]=some false
structure TOk (t:Tr):Prop where
 ds:Ds t
 len:(zaU t []).length<=60
 ok:∀ r ∈ zaU t [],RowOk r
def zcc:Sp':=fun ds Q=>∃ r:Row,ds=[plc r.1,plc r.2]/\RowOk r/\Q (.val (.str (zfo r)))
def zdp:Sp':=fun ds Q=>∃ t,ds=[trD t]/\TOk t/\Q (.val (.str (zeP t)))
def zcm:Sp':=fun ds Q=>∃ x:List Nat,ds=[.str x]/\(x.length<=800/\(spl 32 x).length<=7)/\Q (.val (zhA (zfS x)))
def zev (T:Cs):zoX:=fun ds Q E=>∃ d,ds=[d]/\((∃ x,d=.str x/\TextOk x/\x.length<=90000/\(∀ t,TOk t->t.lab=[]->GT 9 t->zeP t=x->Q (.val (trD t)))/\(¬ zb3 x->E T.NoText []))\/(zfR d/\E T.NoText []))
instance:MSp zcc:=⟨fun _ _ _ h ⟨r,e,a,q⟩=>⟨r,e,a,h _ q⟩⟩
instance:MSp zcm:=⟨fun _ _ _ h ⟨r,e,a,q⟩=>⟨r,e,a,h _ q⟩⟩
theorem zex {n:Nat} (h:n<=100000):n<=sizeLine:=by rw [sizeLine_eq]; omega
def zbr:Sp':=fun ds Q=>∃ rows:List Row,ds=[.lst (rows.map zhA)]/\rows.length<=800/\Q (.val (zca rows.reverse).2)
theorem zhh {q:Pl} (h:q≠[]):atI (q.map D.str) (-1)=some (.str (zbH q)):=by
 have e:=List.dropLast_concat_getLast h
 have e2:zbH q=q.getLast h:=by unfold zbH; rw [List.getLast?_eq_some_getLast h]; rfl
 rw [e2]
 conv=>lhs; rw [<- e,YE,List.map_singleton]
 exact zoU _ _
section
variable {P:Program} {w:World} {K:W.Frag} {mg:Str->Option Value} {base:Heap}
theorem zaZ:FnScope ["rows","kids","node","place","words","label"] ["rows"] (zo zcs):=sc0
theorem zfu (d:Df K mg "tree_of_rows" zcs ["rows"]) (z_reversed:mg "reversed"=none) (z_tuple:mg "tuple"=none):Fn P w K mg base 1 "tree_of_rows" ["rows"] zbr:=by
 refine d.ok zaZ (fun ds Q h=>?_) (fun f cdv A outer s H E hr ds Q h=>⟨_,(zj (zeg 1 zaZ.nd zqt)
  (zj (zai 2 zaZ.nd zc9)
  (zj (zqn (by rfl) (zqy (by rfl) z_reversed (zc (pv' 0) zi)) (zlG (n:=2) (zeh (zaQ 3 zaZ.nd) (zeh (zaQ 4 zaZ.nd) zjC)))
   (zai 5 zaZ.nd (zsJ (zbc (zek (zdg hr)) (pv' 3) (zaX zi)) (zR []) (za0 (i_A (zbe hr)) (pv' 3) zfs))) ?label
   (zlz (i:=2) zaZ.nd (by rfl) (by exact .inl rfl) (zpe (zeH (zc8 (i:=5) (by rfl) (by exact .inl rfl)) (zeH (zc8 (i:=4) (by rfl) (by exact .inl rfl)) (zeH (zqC hr.hd (by rfl) z_tuple (by rfl) z_reversed (zn3 (zbe hr) (zc8 (i:=1) (by rfl) (by exact .inl rfl)) (zc8 (i:=3) (by rfl) (by exact .inl rfl)) (zlH zgg) (by exact ⟨rfl,rfl,rfl,rfl⟩))) zgg)))))
   (zlB (zqN PySem.F.plainAttrs_list PySem.F.slot_list_append PySem.F.type_list_append (zel (X:=_)) (zn2 (zbe hr) (zc8 (i:=1) (by rfl) (by exact .inl rfl)) (zbz s_A (pv' 3) zcV (zb9 zfs)).h (zlH zgg) (by exact ⟨rfl,rfl,rfl,rfl⟩)) (zeH (zc8 (i:=2) (by rfl) (by exact .inl rfl)) zgg))))
  (zl (zQ (pv' 2)))))),?_⟩)
 case label =>
  intro N rD nd s5 a p ws q; simp [zaj,zab,zaf,zah,zw,zZ,tC',zaE,za9,tB',zaq,zav,zbp,zP,zaJ,zM,zbq,zad,zx,zal,zar,zbj,zbn,zbg,zag,zbh,zp,zat,zaG,zT,zS,zF,zz,zbf,zy,zas,zD,zau,zE,zO,zK,zN,zaL,zae,zbm,zU,zap,zW,zaw,xS,zax,zG,zaH,zay,zH,zt,zaA,zC,zaC,zaI,zan,zA,zao,zaF,zV,zX,zam,zaK,zu,zL,zq,zaD,zaE,zaB,zJ,zm,zaz,zr]
  by_cases hp:p=[]
  ·subst hp
   exact .inr ⟨rfl,q⟩
  ·exact .inl ⟨hp,_,zhh hp,q⟩
 ·obtain ⟨r,rfl,_⟩:=h
  rfl
 obtain ⟨rows,rfl,hl,q⟩:=h; simp [zaj,zab,zaf,zah,zw,zZ,tC',zaE,za9,tB',zaq,zav,zbp,zP,zaJ,zM,zbq,zad,zx,zal,zar,zbj,zbn,zbg,zag,zbh,zp,zat,zaG,zT,zS,zF,zz,zbf,zy,zas,zD,zau,zE,zO,zK,zN,zaL,zae,zbm,zU,zap,zW,zaw,xS,zax,zG,zaH,zay,zH,zt,zaA,zC,zaC,zaI,zan,zA,zao,zaF,zV,zX,zam,zaK,zu,zL,zq,zaD,zaE,zaB,zJ,zm,zaz,zr]
 exact ⟨rows,rfl,hl,fun _ _ _=>q⟩
theorem zfc:FnScope ["node","label","kid"] ["node","label"] (zo zeC):=sc0
theorem ziM (d:Df K mg "kid_with" zeC ["node","label"]):Fn P w K mg base 1 "kid_with" ["node","label"] zbO:=by
 refine d.ok zfc (fun ds Q h=>?_) (fun f cdv A outer s H E hr ds Q h=>⟨_,(zj (zc5 (zch (za0 (i_A (zbe hr)) (pv' 0) zn)) (zaQ 2 zfc.nd)
   (zl (zbl (zbc (zek (zdg hr)) (za0 (i_A (zbe hr)) (pv' 2) zn) (pv' 1)) (zl (zQ (pv' 2))) zaM)))
  (zl (zQ zc9))),?_⟩)
 ·obtain ⟨t,l,rfl,_⟩:=h
  rfl
 obtain ⟨t,l,rfl,q⟩:=h; rw [zbI]; simp [zaj,zab,zaf,zah,zw,zZ,tC',zaE,za9,tB',zaq,zav,zbp,zP,zaJ,zM,zbq,zad,zx,zal,zar,zbj,zbn,zbg,zag,zbh,zp,zat,zaG,zT,zS,zF,zz,zbf,zy,zas,zD,zau,zE,zO,zK,zN,zaL,zae,zbm,zU,zap,zW,zaw,xS,zax,zG,zaH,zay,zH,zt,zaA,zC,zaC,zaI,zan,zA,zao,zaF,zV,zX,zam,zaK,zu,zL,zq,zaD,zaE,zaB,zJ,zm,zaz,zr]
 have key:∀ (ks:List Tr) (A s2:Slot),Q (.val (zpg (zbB l ks)))->zfT (zw 2) (zaf (tB' (za9 znK (za9 zjw (zZ 2) (tC' (D.int 0))) (zZ 1))) (zab (zZ 2)) zy)
   { nx:=zab (tC' D.non) { nx:=fun x=>Q (Res.val D.non),rt:=fun r x=>Q r },rt:=fun r x=>Q r } (ks.map trD) [A,.val (.str l),s2]:=by
  intro ks
  induction ks with
  | nil=>intro A s2 q; simpa [zfT,zab,tC',zbB,zpg] using q
  | cons k ks ih =>
   intro A s2 q; have ih':=ih A (.val (trD k)); rw [zbI] at ih'; simp only [yZ,zfT]; rw [zbI k]
   by_cases e:k.lab=l
   ·have:zbB l (k :: ks)=some k:=by simp [zbB,e]
    rw [this] at q
    have q':Q (.val (trD k)):=q
    rw [zbI k] at q'
    simpa [zw,zaf,tB',za9,zZ,tC',zab,zy,e] using q'
   ·have:zbB l (k :: ks)=zbB l ks:=by simp [zbB,e]
    rw [this] at q
    simpa [zw,zaf,tB',za9,zZ,tC',zab,zy,e] using ih' q
 exact key _ _ _ q
theorem zds:FnScope ["tree","place","node","label"] ["tree","place"] (zo zff):=sc0
theorem zkt (d:Df K mg "node_at" zff ["tree","place"]) (G_kid_with:Fn P w K mg base 1 "kid_with" ["node","label"] zbO):Fn P w K mg base 2 "node_at" ["tree","place"] zcu:=by
 refine d.ok zds (fun ds Q h=>?_) (fun f cdv A outer s H E hr ds Q h=>⟨_,(zj (zai 2 zds.nd (pv' 0))
  (zj (zc5 (zch (pv' 1)) (zaQ 3 zds.nd)
   (zj (zai 2 zds.nd (za1 G_kid_with (hr.mono (by decide)) (zc (pv' 2) (zc (pv' 3) zi))))
  (zl (zbl (zbc zvb (pv' 2) zc9) (zl (zQ zc9)) zaM))))
  (zl (zQ (pv' 2))))),?_⟩)
 ·obtain ⟨t,l,rfl,_⟩:=h
  rfl
 obtain ⟨t,p,rfl,q⟩:=h; simp [zaj,zab,zaf,zah,zw,zZ,tC',zaE,za9,tB',zaq,zav,zbp,zP,zaJ,zM,zbq,zad,zx,zal,zar,zbj,zbn,zbg,zag,zbh,zp,zat,zaG,zT,zS,zF,zz,zbf,zy,zas,zD,zau,zE,zO,zK,zN,zaL,zae,zbm,zU,zap,zW,zaw,xS,zax,zG,zaH,zay,zH,zt,zaA,zC,zaC,zaI,zan,zA,zao,zaF,zV,zX,zam,zaK,zu,zL,zq,zaD,zaE,zaB,zJ,zm,zaz,zr,zbO]
 have key:∀ (p:Pl) (t:Tr) (A B s3:Slot),Q (.val (zpg (zbG t p)))->zfT (zw 3) (zaj (zah (zz zbO (zx (zZ 2) (zx (zZ 3) zad))) (zw 2)) (zaf (tB' (za9 (zuS false) (zZ 2) (tC' D.non))) (zab (tC' D.non)) zy))
   { nx:=zab (zZ 2) { nx:=fun x=>Q (Res.val D.non),rt:=fun r x=>Q r },rt:=fun r x=>Q r } (p.map D.str) [A,B,.val (trD t),s3]:=by
  intro p
  induction p with
  | nil=>intro t A B s3 q; simpa [zfT,zab,zZ,zbG,zpg] using q
  | cons l p ih =>
   intro t A B s3 q; simp only [yZ,zfT]; simp [zw,zaj,zah,zz,zx,zad,zZ,tC',zaf,tB',za9,zab,zy,zbO,Res.toD,zuS]; refine ⟨t,l,⟨rfl,rfl⟩,?_⟩
   cases hk:zbB l t.kds with
   | none =>
    have:zbG t (l :: p)=none:=by simp [zbG,hk]
    rw [this] at q
    simpa [zpg] using q
   | some k =>
    have:zbG t (l :: p)=zbG k p:=by simp [zbG,hk]
    rw [this] at q
    simpa [zpg,zka] using ih k A B _ q
 exact key _ _ _ _ _ q
theorem zcZ:FnScope ["tree","told","waiting","here","kid"] ["tree"] (zo zgD):=sc0
theorem zlQ (d:Df K mg "places" zgD ["tree"]) (z_len:mg "len"=none) (z_reversed:mg "reversed"=none):Fn P w K mg base 1 "places" ["tree"] zea:=by
 refine d.ok zcZ (fun ds Q h=>?_) (fun f cdv A outer s H E hr ds Q h=>⟨_,(zj (zeg 1 zcZ.nd (zcx zi))
  (zj (zeg 2 zcZ.nd (zcx (zc (zaX (zc (zaX zi) (zc (pv' 0) zi))) zi)))
  (zj (zhE (zlw (zbc zvZ (zaa zb2 z_len YH (zc (pv' 2) zi)) zn))
   (zj (zai 3 zcZ.nd (zqD 2))
  (zj (zeF 1 (za0 (i_A (zbe hr)) (pv' 3) zn))
  (zl (zc5 (zqx rfl z_reversed (zc (za0 (i_A (zbe hr)) (za0 (i_A (zbe hr)) (pv' 3) zn) zn) zi)) (zaQ 4 zcZ.nd)
   (zl (zeF 2 (zaX (zc (zB zaP (za0 (i_A (zbe hr)) (pv' 3) zn) (zaX (zc (za0 (i_A (zbe hr)) (pv' 4) zn) zi))) (zc (pv' 4) zi))))))))))
  (zl (zjA 1))))),?_⟩)
 ·obtain ⟨t,rfl,_⟩:=h
  rfl
 obtain ⟨t,rfl,hl,h8,hq⟩:=h; simp [zaj,zab,zaf,zah,zw,zZ,tC',zaE,za9,tB',zaq,zav,zbp,zP,zaJ,zM,zbq,zad,zx,zal,zar,zbj,zbn,zbg,zag,zbh,zp,zat,zaG,zT,zS,zF,zz,zbf,zy,zas,zD,zau,zE,zO,zK,zN,zaL,zae,zbm,zU,zap,zW,zaw,xS,zax,zG,zaH,zay,zH,zt,zaA,zC,zaC,zaI,zan,zA,zao,zaF,zV,zX,zam,zaK,zu,zL,zq,zaD,zaE,zaB,zJ,zm,zaz,zr]
 refine zhj (fun Γ=>∃ (told:List Pl) (ws:List (Pl × Tr)) (s3 s4:Slot),Γ=[.val (trD t),.own (.lst (told.map plc)),.own (.lst (ws.map wD)),s3,s4]/\told ++ ws.reverse.flatMap wP=zdV t []) (fun Γ=>match Γ with | [_,.own (.lst l),_,_,_]=>61-l.length | _=>0) ⟨[],[([],t)],.emp,.emp,rfl,by simp⟩ ?_
 rintro Γ ⟨told,ws,s3,s4,rfl,he⟩
 have hle:=yp List.length he; rw [yH] at hle
 have hwl:ws.length<=(ws.reverse.flatMap wP).length:=by
  have:=ze2 (f:=wP) (l:=ws.reverse) fun a _=>zgP _ _
  rw [ym] at this; exact this
 simp [zaj,zab,zaf,zah,zw,zZ,tC',zaE,za9,tB',zaq,zav,zbp,zP,zaJ,zM,zbq,zad,zx,zal,zar,zbj,zbn,zbg,zag,zbh,zp,zat,zaG,zT,zS,zF,zz,zbf,zy,zas,zD,zau,zE,zO,zK,zN,zaL,zae,zbm,zU,zap,zW,zaw,xS,zax,zG,zaH,zay,zH,zt,zaA,zC,zaC,zaI,zan,zA,zao,zaF,zV,zX,zam,zaK,zu,zL,zq,zaD,zaE,zaB,zJ,zm,zaz,zr]
 rcases List.eq_nil_or_concat ws with rfl | ⟨ws',x,rfl⟩
 ·refine .inl ⟨rfl,?_⟩
  have:told=zdV t []:=by simpa using he
  rw [this]; exact hq
 ·obtain ⟨q,u⟩:=x
  have he':told ++ (zdV u q ++ ws'.reverse.flatMap wP)=zdV t []:=by simpa using he
  have hq8:q.length<=8:=h8 q (by rw [<- he',zfq u q]; simp)
  have hkl:u.kds.length<=(u.kds.flatMap fun k=>zdV k (q ++ [k.lab])).length:=ze2 fun a _=>zgP _ _
  have hle2:=yp List.length he'; rw [zfq u q] at hle2; simp only [yH,yg] at hle2
  have hwl2:ws'.length<=(ws'.reverse.flatMap wP).length:=by
   have:=ze2 (f:=wP) (l:=ws'.reverse) fun a _=>zgP _ _
   rw [ym] at this; exact this
  refine .inr ⟨by simp,ws'.map wD,wD (q,u),by simp,?_⟩
  have e0:wD (q,u)=.tup [plc q,.tup [.str u.lab,plc u.wds,.tup (u.kds.map trD)]]:=by unfold wD; rw [zbI u]
  rw [e0]; simp [zrq,zaj,zab,zaf,zah,zw,zZ,tC',zaE,za9,tB',zaq,zav,zbp,zP,zaJ,zM,zbq,zad,zx,zal,zar,zbj,zbn,zbg,zag,zbh,zp,zat,zaG,zT,zS,zF,zz,zbf,zy,zas,zD,zau,zE,zO,zK,zN,zaL,zae,zbm,zU,zap,zW,zaw,xS,zax,zG,zaH,zay,zH,zt,zaA,zC,zaC,zaI,zan,zA,zao,zaF,zV,zX,zam,zaK,zu,zL,zq,zaD,zaE,zaB,zJ,zm,zaz,zr]
  refine ⟨za4 (by omega),?_⟩
  refine zgk (fun i Γ=>∃ s4,Γ=[.val (trD t),.own (.lst ((told ++ [q]).map plc)),.own (.lst ((ws' ++ ((u.kds.reverse.take i).map fun k=>(q ++ [k.lab],k))).map wD)),.val (.tup [plc q,.tup [.str u.lab,plc u.wds,.tup (u.kds.map trD)]]),s4]) ⟨s4,by simp⟩ ?_ ?_
  ·rintro i d Γ hd ⟨s4',rfl⟩
   rw [<- List.map_reverse,yL] at hd
   cases hc:u.kds.reverse[i]? with
   | none=>rw [hc] at hd; cases hd
   | some k =>
    rw [hc] at hd; cases hd
    have hi:i<u.kds.length:=by
     have:=(yF.mp hc).1
     rw [ym] at this; exact this
    have e2:u.kds.reverse.take (i+1)=u.kds.reverse.take i ++ [k]:=by rw [Yh,hc]; rfl
    rw [e2]
    have e3:wD (q ++ [k.lab],k)=.tup [plc (q ++ [k.lab]),trD k]:=rfl
    simp [zaj,zab,zaf,zah,zw,zZ,tC',zaE,za9,tB',zaq,zav,zbp,zP,zaJ,zM,zbq,zad,zx,zal,zar,zbj,zbn,zbg,zag,zbh,zp,zat,zaG,zT,zS,zF,zz,zbf,zy,zas,zD,zau,zE,zO,zK,zN,zaL,zae,zbm,zU,zap,zW,zaw,xS,zax,zG,zaH,zay,zH,zt,zaA,zC,zaC,zaI,zan,zA,zao,zaF,zV,zX,zam,zaK,zu,zL,zq,zaD,zaE,zaB,zJ,zm,zaz,zr,wD,znG]
    exact ⟨small (by omega),za4 (by omega)⟩
  ·rintro Γ ⟨s4',rfl⟩
   have e5:u.kds.reverse.take (List.map trD u.kds).reverse.length=u.kds.reverse:=yr (by simp)
   simp only [e5]; refine ⟨⟨told ++ [q],_,⟨_,_,rfl⟩,?_⟩,?_⟩
   ·rw [<- he',zfq u q]
    simp [List.flatMap_map]
   ·simp
    omega
theorem zhu:FnScope ["text"] ["text"] (zo zdS):=sc0
theorem zhO (d:Df K mg "labels_in" zdS ["text"]) (z_tuple:mg "tuple"=none):Fn P w K mg base 1 "labels_in" ["text"] zco:=by
 refine d.ok zhu (fun ds Q h=>?_) (fun f cdv A outer s H E hr ds Q h=>⟨_,(zj (zbl (zbc (zek (zdg hr)) (pv' 0) (zR [46])) (zl (zQ (zaX zi))) zaM)
  (zl (zQ (zbS zhg z_tuple YV (zc (zcr zg1 yh YY PySem.F.type_str_split (pv' 0) (zc (zR [46]) zi)) zi))))),?_⟩)
 ·obtain ⟨l,rfl,_⟩:=h
  rfl
 obtain ⟨l,rfl,hl,q⟩:=h; simp [zaj,zab,zaf,zah,zw,zZ,tC',zaE,za9,tB',zaq,zav,zbp,zP,zaJ,zM,zbq,zad,zx,zal,zar,zbj,zbn,zbg,zag,zbh,zp,zat,zaG,zT,zS,zF,zz,zbf,zy,zas,zD,zau,zE,zO,zK,zN,zaL,zae,zbm,zU,zap,zW,zaw,xS,zax,zG,zaH,zay,zH,zt,zaA,zC,zaC,zaI,zan,zA,zao,zaF,zV,zX,zam,zaK,zu,zL,zq,zaD,zaE,zaB,zJ,zm,zaz,zr]
 by_cases e:l=[46]
 ·exact .inr ⟨e,by simpa [labelsIn,e] using q⟩
 ·refine .inl ⟨e,l,46,rfl,rfl,by have:=zp8; omega,_,_,rfl,.inl rfl,?_⟩
  have z:labelsIn l=spl 46 l:=yQ e
  rw [z] at q; exact q
theorem zgz:FnScope ["place"] ["place"] (zo zc1):=sc0
theorem zgR (d:Df K mg "place_text" zc1 ["place"]):Fn P w K mg base 1 "place_text" ["place"] zb4:=by
 refine d.ok zgz (fun ds Q h=>?_) (fun f cdv A outer s H E hr ds Q h=>⟨_,(zj (zbl (zbc (zek (zdg hr)) (pv' 0) (zaX zi)) (zl (zQ (zR [46]))) zaM)
  (zl (zQ (zcr zeo yh YN YM (zR [46]) (zc (pv' 0) zi))))),?_⟩)
 ·obtain ⟨l,rfl,_⟩:=h
  rfl
 obtain ⟨L,rfl,hl,q⟩:=h; simp [zaj,zab,zaf,zah,zw,zZ,tC',zaE,za9,tB',zaq,zav,zbp,zP,zaJ,zM,zbq,zad,zx,zal,zar,zbj,zbn,zbg,zag,zbh,zp,zat,zaG,zT,zS,zF,zz,zbf,zy,zas,zD,zau,zE,zO,zK,zN,zaL,zae,zbm,zU,zap,zW,zaw,xS,zax,zG,zaH,zay,zH,zt,zaA,zC,zaC,zaI,zan,zA,zao,zaF,zV,zX,zam,zaK,zu,zL,zq,zaD,zaE,zaB,zJ,zm,zaz,zr]
 by_cases e:L=[]
 ·exact .inr ⟨e,by simpa [textOf,e] using q⟩
 ·refine .inl ⟨e,46,L,rfl,.inr rfl,?_,?_⟩
  ·have hp:=yY.mp hl.2
   have:=sum_le (B:=12) fun a ha=>(prog_facts (hp a ha)).2.1
   have:=hl.1
   omega
  ·simpa [textOf,e] using q
theorem zir:FnScope ["place","words"] ["place","words"] (zo zeA):=sc0
theorem ziI (d:Df K mg "row_text" zeA ["place","words"]) (G_place_text:Fn P w K mg base 1 "place_text" ["place"] zb4):Fn P w K mg base 2 "row_text" ["place","words"] zcc:=by
 refine d.ok zir (fun ds Q h=>?_) (fun f cdv A outer s H E hr ds Q h=>⟨_,(zl (zQ (zcr zeo yh YN YM (zR [32]) (zc (zB zaP (zaX (zc (za1 G_place_text (hr.mono (by decide)) (zc (pv' 0) zi)) zi)) (pv' 1)) zi)))),?_⟩)
 ·obtain ⟨r,rfl,_⟩:=h
  rfl
 obtain ⟨r,rfl,ok,q⟩:=h; simp [zaj,zab,zaf,zah,zw,zZ,tC',zaE,za9,tB',zaq,zav,zbp,zP,zaJ,zM,zbq,zad,zx,zal,zar,zbj,zbn,zbg,zag,zbh,zp,zat,zaG,zT,zS,zF,zz,zbf,zy,zas,zD,zau,zE,zO,zK,zN,zaL,zae,zbm,zU,zap,zW,zaw,xS,zax,zG,zaH,zay,zH,zt,zaA,zC,zaC,zaI,zan,zA,zao,zaF,zV,zX,zam,zaK,zu,zL,zq,zaD,zaE,zaB,zJ,zm,zaz,zr,zb4]
 refine ⟨⟨ok.len,ok.lab⟩,zex (by have:=ok.wds; omega),32,textOf r.1 :: r.2,rfl,.inr rfl,?_,q⟩
 have h1:=zjg ok.len ok.lab; have h2:=M11.sum_le (B:=12) (L:=r.2) ok.wlen; have h3:=ok.wds; rw [yZ,List.sum_cons,yg]; omega
theorem znt:FnScope ["tree"] ["tree"] (zo zgC):=sc0
theorem zn7 (d:Df K mg "shown" zgC ["tree"]) (G_node_at:Fn P w K mg base 2 "node_at" ["tree","place"] zcu) (G_places:Fn P w K mg base 1 "places" ["tree"] zea) (G_row_text:Fn P w K mg base 2 "row_text" ["place","words"] zcc):Fn P w K mg base 3 "shown" ["tree"] zdp:=by
 refine d.ok znt (fun ds Q h=>?_) (fun f cdv A outer s H E hr ds Q h=>⟨_,(zl (zQ (zcr zeo yh YN YM (zR [10]) (zc (za5 (zc6 (fsc:=zo zgC) (N:=["tree"]) (N':=["place","tree"]) (src:=[none,some 0]) (by refine ⟨rfl,?_,?_,?_,rfl,rfl⟩ <;> decide +kernel) (zch (za1 G_places (hr.mono (by decide)) (zc (pv' 0) zi))) (fun _ _ _ _ _ _=>(zaQ 0 (show (["place","tree"]:List Str).Nodup by decide +kernel))) (fun _ _ _ _ _ _=>zb7) (fun _ _ _ _ _ _=>(za1 G_row_text (hr.mono (by decide)) (zc (pv' 0) (zc (za0 (i_A (zbe hr)) (za1 G_node_at (hr.mono (by decide)) (zc (pv' 1) (zc (pv' 0) zi))) zn) zi)))))) zi)))),?_⟩)
 ·obtain ⟨t,rfl,_⟩:=h
  rfl
 obtain ⟨t,rfl,ok,q⟩:=h; simp [zaj,zab,zaf,zah,zw,zZ,tC',zaE,za9,tB',zaq,zav,zbp,zP,zaJ,zM,zbq,zad,zx,zal,zar,zbj,zbn,zbg,zag,zbh,zp,zat,zaG,zT,zS,zF,zz,zbf,zy,zas,zD,zau,zE,zO,zK,zN,zaL,zae,zbm,zU,zap,zW,zaw,xS,zax,zG,zaH,zay,zH,zt,zaA,zC,zaC,zaI,zan,zA,zao,zaF,zV,zX,zam,zaK,zu,zL,zq,zaD,zaE,zaB,zJ,zm,zaz,zr,zea]; have hrows:=zli t t ok.ds [] rfl
 have hll:(zdV t []).length=(zaU t []).length:=by rw [<- hrows,yD]
 have hlen:=ok.len
 have hok:∀ q ∈ zdV t [],RowOk (q,zfU t q):=fun q hq=>ok.ok _ (by rw [<- hrows]; exact Yo hq)
 refine ⟨t,rfl,by omega,fun q hq=>(hok q hq).len,small (by omega),?_⟩
 refine zcR (fun i acc Γ=>∃ s0,acc=(((zdV t []).take i).map fun q=>zfo (q,zfU t q)).map D.str/\Γ=[s0,.val (trD t)]) ⟨.emp,rfl,rfl⟩ ?_ ?_
 ·rintro i d acc Γ hd ⟨s0,rfl,rfl⟩
  rw [yL] at hd
  cases hc:(zdV t [])[i]? with
  | none=>rw [hc] at hd; cases hd
  | some q =>
   rw [hc] at hd; cases hd; have hm:=yb hc; obtain ⟨u,hu⟩:=zl4 t t ok.ds [] rfl q hm
   have hw:zfU t q=u.wds:=by unfold zfU; rw [hu]; rfl
   rw [Yh,hc]; simp [zaj,zab,zaf,zah,zw,zZ,tC',zaE,za9,tB',zaq,zav,zbp,zP,zaJ,zM,zbq,zad,zx,zal,zar,zbj,zbn,zbg,zag,zbh,zp,zat,zaG,zT,zS,zF,zz,zbf,zy,zas,zD,zau,zE,zO,zK,zN,zaL,zae,zbm,zU,zap,zW,zaw,xS,zax,zG,zaH,zay,zH,zt,zaA,zC,zaC,zaI,zan,zA,zao,zaF,zV,zX,zam,zaK,zu,zL,zq,zaD,zaE,zaB,zJ,zm,zaz,zr,zcu,zcc]; refine ⟨t,q,⟨rfl,rfl⟩,?_⟩; rw [hu]
   show zjw (trD u) (.int 1) _
   rw [zbI]; simp
   have:=hok q hm
   rw [hw] at this
   exact ⟨this,by rw [hw]⟩
 ·rintro acc Γ ⟨s0,rfl,rfl⟩
  rw [show List.take (List.map plc (zdV t [])).length (zdV t [])=zdV t [] from yr (by rw [yD]; exact yG _)]
  have e:(zdV t []).map (fun q=>zfo (q,zfU t q))=(zaU t []).map zfo:=by
   rw [<- hrows,yt]; rfl
  rw [e]; refine ⟨10,(zaU t []).map zfo,rfl,.inl rfl,?_,q⟩
  have:=znk ok.ok
  rw [yD]; omega
theorem zeQ:FnScope ["row","parts"] ["row"] (zo zdP):=sc0
theorem zhK (d:Df K mg "row_parts" zdP ["row"]) (G_labels_in:Fn P w K mg base 1 "labels_in" ["text"] zco) (z_tuple:mg "tuple"=none):Fn P w K mg base 2 "row_parts" ["row"] zcm:=by
 refine d.ok zeQ (fun ds Q h=>?_) (fun f cdv A outer s H E hr ds Q h=>⟨_,(zj (zai 1 zeQ.nd (zcr zg1 yh YY PySem.F.type_str_split (pv' 0) (zc (zR [32]) zi)))
  (zl (zQ (zaX (zc (za1 G_labels_in (hr.mono (by decide)) (zc (za0 (i_A (zbe hr)) (pv' 1) zn) zi)) (zc (zbS zhg z_tuple YV (zc (zbz s_A (pv' 1) (zb9 zn) zcV) zi)) zi)))))),?_⟩)
 ·obtain ⟨r,rfl,_⟩:=h
  rfl
 obtain ⟨x,rfl,⟨hx,h7⟩,q⟩:=h
 simp [zaj,zab,zaf,zah,zw,zZ,tC',zaE,za9,tB',zaq,zav,zbp,zP,zaJ,zM,zbq,zad,zx,zal,zar,zbj,zbn,zbg,zag,zbh,zp,zat,zaG,zT,zS,zF,zz,zbf,zy,zas,zD,zau,zE,zO,zK,zN,zaL,zae,zbm,zU,zap,zW,zaw,xS,zax,zG,zaH,zay,zH,zt,zaA,zC,zaC,zaI,zan,zA,zao,zaF,zV,zX,zam,zaK,zu,zL,zq,zaD,zaE,zaB,zJ,zm,zaz,zr,zco]
 refine ⟨x,32,rfl,rfl,zex (by omega),?_⟩
 have h3:=M11.spl_short 32 x; unfold zhA zfS at q
 cases e:spl 32 x with
 | nil=>exact yM e (spl_ne 32 x)
 | cons a b =>
  rw [e] at q
  have ha:=h3 a (by rw [e]; simp)
  simp [zaj,zab,zaf,zah,zw,zZ,tC',zaE,za9,tB',zaq,zav,zbp,zP,zaJ,zM,zbq,zad,zx,zal,zar,zbj,zbn,zbg,zag,zbh,zp,zat,zaG,zT,zS,zF,zz,zbf,zy,zas,zD,zau,zE,zO,zK,zN,zaL,zae,zbm,zU,zap,zW,zaw,xS,zax,zG,zaH,zay,zH,zt,zaA,zC,zaC,zaI,zan,zA,zao,zaF,zV,zX,zam,zaK,zu,zL,zq,zaD,zaE,zaB,zJ,zm,zaz,zr]
  refine ⟨by omega,?_⟩
  have e2:=zvv (a :: b); rw [yZ] at e2; rw [e2]; exact q
theorem zlg:FnScope ["text","tree"] ["text"] (zo zjl):=sc0
theorem zqU (d:Df K mg "read" zjl ["text"]) (cf:CF K T) (G_is_tree:Fn P w K mg base 39 "is_tree" ["thing"] zdr) (G_shown:Fn P w K mg base 3 "shown" ["tree"] zdp) (G_row_parts:Fn P w K mg base 2 "row_parts" ["row"] zcm) (G_tree_of_rows:Fn P w K mg base 1 "tree_of_rows" ["rows"] zbr) (z_isinstance:mg "isinstance"=none) (z_str:mg "str"=none) (m_NoText:mg "NoText"=some (.ref T.NoText)) (Z_NoText:Xc0 K mg "NoText" T.NoText):FnX P w K mg base 40 "read" ["text"] (zev T):=by
 refine d.okx zlg (fun ds Q E' h=>?_) (fun f cdv A outer s H E hr ds Q E' h=>⟨_,(ze5 (zo0 (zbi (zbv (zaa (zdL K rfl) z_isinstance yi (zc (pv' 0) (zc (zei z_str Yv) zi))))) (zd3 (zf6 Z_NoText (zc (zR [97,32,116,114,101,101,32,105,115,32,114,101,97,100,32,102,114,111,109,32,97,32,116,101,120,116,32,97,108,111,110,101]) zi))) zja)
  (ze5 (PS'.x (zai 1 zlg.nd (za1 G_tree_of_rows (hr.mono (by decide)) (zc (za5 (zc6 (fsc:=zo zjl) (N:=["text","tree"]) (N':=["row"]) (src:=[none]) (by refine ⟨rfl,?_,?_,?_,rfl,rfl⟩ <;> decide +kernel) (zch (zcr zg1 yh YY PySem.F.type_str_split (pv' 0) (zc (zR [10]) zi))) (fun _ _ _ _ _ _=>(zaQ 0 (show (["row"]:List Str).Nodup by decide +kernel))) (fun _ _ _ _ _ _=>zb7) (fun _ _ _ _ _ _=>(za1 G_row_parts (hr.mono (by decide)) (zc (pv' 0) zi))))) zi))))
  (ze5 (zo0 (PW'.pt (zjx (zbi (zbv (za1 G_is_tree (hr.mono (by decide)) (zc (pv' 1) zi)))) (zgL (zbc (zqW (zdg hr)) (za1 G_shown (hr.mono (by decide)) (zc (pv' 1) zi)) (pv' 0))))) (zd3 (zf6 Z_NoText (zc (zR [110,111,116,32,116,104,101,32,116,101,120,116,32,111,102,32,97,32,116,114,101,101]) zi))) zja)
  (zd3 (PS'.x (zQ (pv' 1))))))),?_⟩)
 ·obtain ⟨r,rfl,_⟩:=h
  rfl
 obtain ⟨d,rfl,h⟩:=h
 rcases h with ⟨x,rfl,ok,hx,q,q2⟩ | ⟨hn,q⟩
 ·simp [zaj,zab,zaf,zah,zw,zZ,tC',zaE,za9,tB',zaq,zav,zbp,zP,zaJ,zM,zbq,zad,zx,zal,zar,zbj,zbn,zbg,zag,zbh,zp,zat,zaG,zT,zS,zF,zz,zbf,zy,zas,zD,zau,zE,zO,zK,zN,zaL,zae,zbm,zU,zap,zW,zaw,xS,zax,zG,zaH,zay,zH,zt,zaA,zC,zaC,zaI,zan,zA,zao,zaF,zV,zX,zam,zaK,zu,zL,zq,zaD,zaE,zaB,zJ,zm,zaz,zr,zbr]
  have h60:=ok.len
  refine ⟨x,10,rfl,rfl,zex (by omega),_,rfl,?_,?_⟩
  ·rw [yD]
   exact small (by omega)
  refine zcR (fun i acc Γ=>∃ s0,acc=(((spl 10 x).map zfS).take i).map zhA/\Γ=[s0]) ⟨.emp,rfl,rfl⟩ ?_ ?_
  ·rintro i d acc Γ hd ⟨s0,rfl,rfl⟩
   rw [yL] at hd
   cases hc:(spl 10 x)[i]? with
   | none=>rw [hc] at hd; cases hd
   | some r =>
    rw [hc] at hd; cases hd; rw [Yh,yL,hc]; simp [zaj,zab,zaf,zah,zw,zZ,tC',zaE,za9,tB',zaq,zav,zbp,zP,zaJ,zM,zbq,zad,zx,zal,zar,zbj,zbn,zbg,zag,zbh,zp,zat,zaG,zT,zS,zF,zz,zbf,zy,zas,zD,zau,zE,zO,zK,zN,zaL,zae,zbm,zU,zap,zW,zaw,xS,zax,zG,zaH,zay,zH,zt,zaA,zC,zaC,zaI,zan,zA,zao,zaF,zV,zX,zam,zaK,zu,zL,zq,zaD,zaE,zaB,zJ,zm,zaz,zr]
    exact ⟨r,rfl,ok.row r (yb hc),by simp [zaj,zab,zaf,zah,zw,zZ,tC',zaE,za9,tB',zaq,zav,zbp,zP,zaJ,zM,zbq,zad,zx,zal,zar,zbj,zbn,zbg,zag,zbh,zp,zat,zaG,zT,zS,zF,zz,zbf,zy,zas,zD,zau,zE,zO,zK,zN,zaL,zae,zbm,zU,zap,zW,zaw,xS,zax,zG,zaH,zay,zH,zt,zaA,zC,zaC,zaI,zan,zA,zao,zaF,zV,zX,zam,zaK,zu,zL,zq,zaD,zaE,zaB,zJ,zm,zaz,zr]⟩
  ·rintro acc Γ ⟨s0,rfl,rfl⟩
   rw [show List.take (List.map D.str (spl 10 x)).length ((spl 10 x).map zfS)=(spl 10 x).map zfS from yr (by rw [yD,yD]; exact yG _)]
   refine ⟨(spl 10 x).map zfS,rfl,by rw [yD]; omega,?_⟩
   obtain ⟨hsn,hgd⟩:=zlm ok
   show zdr [ziw x] _
   refine ⟨_,rfl,hsn,fun b hb=>?_⟩
   cases b with
   | false =>
    refine .inl ⟨rfl,q2 fun o=>?_⟩
    obtain ⟨t,t1,t2,t3,t4,t5⟩:=o; have e:=zlS t1 t2 t4; rw [t5] at e
    have:=hb.mpr ⟨_,_,(by rw [e,zbI,t1]),zmh t2⟩
    cases this
   | true =>
    obtain ⟨w,k,e,g⟩:=hb.mp rfl; obtain ⟨t,t1,t2,t3,t4,t5⟩:=hgd w k e g
    have tok:TOk t:=⟨t2.ds,t4,t5⟩
    have t3':(zca (List.map zfS (spl 10 x)).reverse).snd=trD t:=t3
    refine .inr ⟨rfl,?_⟩; rw [t3']; refine ⟨t,rfl,tok,?_⟩
    show zrN (.str (zeP t)) (.str x) _
    rw [znC]
    by_cases z:zeP t=x
    ·exact .inl ⟨by simp [z],q t tok t1 t2 z⟩
    ·refine .inr ⟨by simp [z],q2 fun o=>z ?_⟩
     obtain ⟨u,u1,u2,u3,u4,u5⟩:=o; have eu:=zlS u1 u2 u4; rw [u5,t3] at eu; rw [zo3 _ _ eu,u5]
 ·simp [zaj,zab,zaf,zah,zw,zZ,tC',zaE,za9,tB',zaq,zav,zbp,zP,zaJ,zM,zbq,zad,zx,zal,zar,zbj,zbn,zbg,zag,zbh,zp,zat,zaG,zT,zS,zF,zz,zbf,zy,zas,zD,zau,zE,zO,zK,zN,zaL,zae,zbm,zU,zap,zW,zaw,xS,zax,zG,zaH,zay,zH,zt,zaA,zC,zaC,zaI,zan,zA,zao,zaF,zV,zX,zam,zaK,zu,zL,zq,zaD,zaE,zaB,zJ,zm,zaz,zr,zbr]
  obtain ⟨t,hk,ht⟩:=hn
  have hz:W.kitOne K (.type t) (.type "str")=some false:=by rcases ht with rfl | rfl | rfl | rfl | rfl | rfl <;> rfl
  rw [zdz K hk rfl]; exact ⟨false,hz,.inl ⟨rfl,q⟩⟩
end
def ndD (ns:Nd):List (D × D):=ns.map fun x=>(plc x.1,plc x.2)
def WS (ws:Pl):Prop:=ws.length<=4/\∀ x ∈ ws,zdC x=true
def zbE:Sp':=fun ds Q=>∃ c:Int,ds=[.int c]/\∀ l,zY l=true->Q (.val (.str l))
def zbN:Sp':=fun ds Q=>∃ c:Int,ds=[.int c]/\∀ l,zdC l=true->Q (.val (.str l))
def zbD:Sp':=fun ds Q=>∃ c:Int,ds=[.int c]/\∀ ws:Pl,WS ws->Q (.val (plc ws))
def zbW:Sp':=fun ds Q=>∃ (ns:List Int) (k:Int),ds=[.lst (ns.map .int),.int k]/\0<=k/\∀ c:Int,Q (.val (.int c))
instance:MSp zbW:=⟨fun _ _ _ h ⟨ns,k,e,a,q⟩=>⟨ns,k,e,a,fun c=>h _ (q c)⟩⟩
def zew:Sp':=fun ds Q=>∃ l,ds=[.str l]/\zY l=true/\Q (.val (keyD l))
instance:MSp zbE:=⟨fun _ _ _ h ⟨c,e,q⟩=>⟨c,e,fun l z=>h _ (q l z)⟩⟩
instance:MSp zbN:=⟨fun _ _ _ h ⟨c,e,q⟩=>⟨c,e,fun l z=>h _ (q l z)⟩⟩
instance:MSp zbD:=⟨fun _ _ _ h ⟨c,e,q⟩=>⟨c,e,fun l z=>h _ (q l z)⟩⟩
@[simp] theorem sz5:5<=sizeLine:=small (by decide)
@[simp] theorem sz8:8<=sizeLine:=small (by decide)
section
variable {P:Program} {w:World} {K:W.Frag} {mg:Str->Option Value} {base:Heap}
theorem zc0:FnScope ["_law_cell","_law_number"] ["_law_cell"] (zo zdR):=sc0
theorem zhN (d:Df K mg "_law_label" zdR ["_law_cell"]) (z_str:mg "str"=none):Fn P w K mg base 1 "_law_label" ["_law_cell"] zbE:=by
 refine d.ok zc0 (fun ds Q h=>?_) (fun f cdv A outer s H E hr ds Q h=>⟨_,(zj (zai 1 zc0.nd (zB zaP zn (zB zdc (pv' 0) zn)))
  (zj (zbl (zbc (zek (zdg hr)) (zB zdc (zB zcU (pv' 0) zn) zn) zn) (zl (zai 1 zc0.nd (zB zaP zn (zB zdc (zB zjF (zB zcU (pv' 0) zn) zn) zn)))) zaM)
  (zl (zQ (zB zaP (zbS zvA z_str Yv (zc (pv' 1) zi)) (za0 (i_A (zbe hr)) (za5 (zcx (zc (zR []) (zc (zR []) (zc (zR [97]) (zc (zR [98]) (zc (zR [97,97]) (zc (zR [122,122]) (zc (zR [99,98,97]) zi))))))))) (zB zdc (zB zcU (pv' 0) zn) zn))))))),?_⟩)
 ·obtain ⟨c,rfl,_⟩:=h
  rfl
 obtain ⟨c,rfl,q⟩:=h; simp [zaj,zab,zaf,zah,zw,zZ,tC',zaE,za9,tB',zaq,zav,zbp,zP,zaJ,zM,zbq,zad,zx,zal,zar,zbj,zbn,zbg,zag,zbh,zp,zat,zaG,zT,zS,zF,zz,zbf,zy,zas,zD,zau,zE,zO,zK,zN,zaL,zae,zbm,zU,zap,zW,zaw,xS,zax,zG,zaH,zay,zH,zt,zaA,zC,zaC,zaI,zan,zA,zao,zaF,zV,zX,zam,zaK,zu,zL,zq,zaD,zaE,zaB,zJ,zm,zaz,zr,zoZ,zpK]
 obtain ⟨x,e2,m2⟩:=zfP [D.str [],D.str [],D.str [97],D.str [98],D.str [97,97],D.str [122,122],D.str [99,98,97]] (md (i:=c / 8) (n:=7) (by decide)).1 (md (i:=c / 8) (n:=7) (by decide)).2
 have hx:∃ l:List Nat,x=.str l/\l.length<=3/\∀ c ∈ l,sml c=true:=by
  simp only [yJ,yu,or_false] at m2
  rcases m2 with rfl | rfl | rfl | rfl | rfl | rfl | rfl <;> exact ⟨_,rfl,by decide,by decide⟩
 obtain ⟨l,rfl,hl,hs⟩:=hx
 have fin:∀ n:Int,1<=n->n<10 ^ 9->n.natAbs.log2<1920/\7<=sizeLine/\∃ d,atI [D.str [],D.str [],D.str [97],D.str [98],D.str [97,97],D.str [122,122],D.str [99,98,97]] (c / 8 % 7)=some d/\zfp (D.str (zlU n)) d fun d=>Q (Res.val d):=by
  intro n h0 h1; obtain ⟨n1,n2,n3,n4⟩:=zqY h0 h1
  refine ⟨zl7 (by omega) (by omega),small (by decide),_,e2,?_⟩
  rw [zef]
  exact ⟨small (by omega),q _ (ztb n1 n2 n3 n4 hs hl)⟩
 have m4:=md (i:=c) (n:=4) (by decide)
 have m9:=md (i:=c / 20 * 48271) (n:=999999999) (by decide)
 by_cases e:c / 4 % 5=4
 ·exact .inr ⟨e,fin _ (by omega) (by omega)⟩
 ·exact .inl ⟨e,fin _ (by omega) (by omega)⟩
theorem zcd:FnScope ["_law_cell","_law_word_here","_law_k","_law_at"] ["_law_cell"] (zo zeB):=sc0
theorem ziJ (d:Df K mg "_law_word" zeB ["_law_cell"]) (z_range:mg "range"=none):Fn P w K mg base 1 "_law_word" ["_law_cell"] zbN:=by
 refine d.ok zcd (fun ds Q h=>?_) (fun f cdv A outer s H E hr ds Q h=>⟨_,(zj (zai 1 zcd.nd (za0 (i_A (zbe hr)) (zR [97,98,122,48,49,57,107,113]) (zB zdc (pv' 0) zn)))
  (zj (zc5 (zeG z_range (zc (za0 (i_A (zbe hr)) (za5 (zcx (zc zn (zc zn (zc zn (zc zn zi)))))) (zB zdc (zB zcU (pv' 0) zn) zn)) zi)) (zaQ 2 zcd.nd)
   (zj (zai 3 zcd.nd (zB zaP (zB zcU (pv' 0) zn) (zB zjF (pv' 2) (zB zaP zn (zB zdc (zB zcU (pv' 0) zn) zn)))))
  (zl (zai 1 zcd.nd (zB zaP (pv' 1) (za0 (i_A (zbe hr)) (zR wsg) (zB zdc (pv' 3) zn)))))))
  (zl (zQ (pv' 1))))),?_⟩)
 ·obtain ⟨c,rfl,_⟩:=h
  rfl
 obtain ⟨c,rfl,hq⟩:=h; simp [zaj,zab,zaf,zah,zw,zZ,tC',zaE,za9,tB',zaq,zav,zbp,zP,zaJ,zM,zbq,zad,zx,zal,zar,zbj,zbn,zbg,zag,zbh,zp,zat,zaG,zT,zS,zF,zz,zbf,zy,zas,zD,zau,zE,zO,zK,zN,zaL,zae,zbm,zU,zap,zW,zaw,xS,zax,zG,zaH,zay,zH,zt,zaA,zC,zaC,zaI,zan,zA,zao,zaF,zV,zX,zam,zaK,zu,zL,zq,zaD,zaE,zaB,zJ,zm,zaz,zr,zoZ]
 obtain ⟨z,e1,m1⟩:=zfP [97,98,122,48,49,57,107,113] (md (i:=c) (n:=8) (by decide)).1 (md (i:=c) (n:=8) (by decide)).2
 have hz:z ∈ wsg:=by
  simp only [yJ,yu,or_false] at m1
  rcases m1 with rfl | rfl | rfl | rfl | rfl | rfl | rfl | rfl <;> decide
 refine ⟨z,e1,?_⟩
 obtain ⟨d,e2,m2⟩:=zfP [D.int 0,D.int 0,D.int 2,D.int 11] (md (i:=c / 8) (n:=4) (by decide)).1 (md (i:=c / 8) (n:=4) (by decide)).2
 have hd:∃ n:Int,d=.int n/\0<=n/\n<=11:=by
  simp only [yJ,yu,or_false] at m2
  rcases m2 with rfl | rfl | rfl | rfl <;> exact ⟨_,rfl,by omega,by omega⟩
 obtain ⟨n,rfl,h0,h1⟩:=hd
 refine ⟨_,e2,n,rfl,by omega,by omega,?_⟩
 refine zgk (fun i Γ=>∃ (l:List Nat) (s2 s3:Slot),Γ=[.val (.int c),.val (.str l),s2,s3]/\l.length=1+i/\∀ c ∈ l,c ∈ wsg) ⟨[z],.emp,.emp,rfl,rfl,fun c hc=>by rw [yc.mp hc]; exact hz⟩ ?_ ?_
 ·rintro i d Γ hd ⟨l,s2,s3,rfl,hl,hw⟩
  rw [yL] at hd
  have hi:i<n.toNat:=by
   cases hc:(List.range n.toNat)[i]? with
   | none=>rw [hc] at hd; cases hd
   | some k=>simpa using (yF.mp hc).1
  rw [List.getElem?_range hi] at hd; cases hd
  have hm:=md (i:=c / 7) (n:=5) (by decide)
  simp [zaj,zab,zaf,zah,zw,zZ,tC',zaE,za9,tB',zaq,zav,zbp,zP,zaJ,zM,zbq,zad,zx,zal,zar,zbj,zbn,zbg,zag,zbh,zp,zat,zaG,zT,zS,zF,zz,zbf,zy,zas,zD,zau,zE,zO,zK,zN,zaL,zae,zbm,zU,zap,zW,zaw,xS,zax,zG,zaH,zay,zH,zt,zaA,zC,zaC,zaI,zan,zA,zao,zaF,zV,zX,zam,zaK,zu,zL,zq,zaD,zaE,zaB,zJ,zm,zaz,zr,zoZ]
  refine ⟨.inr ⟨by omega,by omega⟩,?_⟩
  obtain ⟨y,e3,m3⟩:=zfP wsg (md (i:=c / 32+↑i * (1+c / 7 % 5)) (n:=36) (by decide)).1 (md (i:=c / 32+↑i * (1+c / 7 % 5)) (n:=36) (by decide)).2
  refine ⟨small (by decide),y,e3,small (by omega),by omega,fun c hc=>hc.elim (hw c) fun z=>by rw [z]; exact m3⟩
 ·rintro Γ ⟨l,s2,s3,rfl,hl,hw⟩
  simp [zaj,zab,zaf,zah,zw,zZ,tC',zaE,za9,tB',zaq,zav,zbp,zP,zaJ,zM,zbq,zad,zx,zal,zar,zbj,zbn,zbg,zag,zbh,zp,zat,zaG,zT,zS,zF,zz,zbf,zy,zas,zD,zau,zE,zO,zK,zN,zaL,zae,zbm,zU,zap,zW,zaw,xS,zax,zG,zaH,zay,zH,zt,zaA,zC,zaC,zaI,zan,zA,zao,zaF,zV,zX,zam,zaK,zu,zL,zq,zaD,zaE,zaB,zJ,zm,zaz,zr]; rw [yD,List.length_range] at hl; refine hq l ?_; unfold zdC
  rw [YB (show 1<=l.length/\l.length<=12 by omega),Bool.true_and,yY]
  exact fun c hc=>YB (hw c hc)
theorem zht:FnScope ["_law_cell"] ["_law_cell"] (zo zcI):=sc0
theorem zhL (d:Df K mg "_law_words" zcI ["_law_cell"]) (G_law_word:Fn P w K mg base 1 "_law_word" ["_law_cell"] zbN) (z_range:mg "range"=none) (z_tuple:mg "tuple"=none):Fn P w K mg base 2 "_law_words" ["_law_cell"] zbD:=by
 refine d.ok zht (fun ds Q h=>?_) (fun f cdv A outer s H E hr ds Q h=>⟨_,(zl (zQ (zbS zhg z_tuple YV (zc (za5 (zc6 (fsc:=zo zcI) (N:=["_law_cell"]) (N':=["_law_k","_law_cell"]) (src:=[none,some 0]) (by refine ⟨rfl,?_,?_,?_,rfl,rfl⟩ <;> decide +kernel) (zeG z_range (zc (zB zdc (pv' 0) zn) zi)) (fun _ _ _ _ _ _=>(zaQ 0 (show (["_law_k","_law_cell"]:List Str).Nodup by decide +kernel))) (fun _ _ _ _ _ _=>zb7) (fun _ _ _ _ _ _=>(za1 G_law_word (hr.mono (by decide)) (zc (zB zaP (zB zcU (pv' 1) (zB zaP zn (zB zjF zn (pv' 0)))) (pv' 0)) zi))))) zi)))),?_⟩)
 ·obtain ⟨c,rfl,_⟩:=h
  rfl
 obtain ⟨c,rfl,hq⟩:=h; simp [zaj,zab,zaf,zah,zw,zZ,tC',zaE,za9,tB',zaq,zav,zbp,zP,zaJ,zM,zbq,zad,zx,zal,zar,zbj,zbn,zbg,zag,zbh,zp,zat,zaG,zT,zS,zF,zz,zbf,zy,zas,zD,zau,zE,zO,zK,zN,zaL,zae,zbm,zU,zap,zW,zaw,xS,zax,zG,zaH,zay,zH,zt,zaA,zC,zaC,zaI,zan,zA,zao,zaF,zV,zX,zam,zaK,zu,zL,zq,zaD,zaE,zaB,zJ,zm,zaz,zr,zbN]
 have hm:=md (i:=c) (n:=5) (by decide)
 have h5:5<=sizeLine:=sz5
 refine ⟨by omega,by omega,by omega,?_⟩
 refine zcR (fun i acc Γ=>∃ (ws:Pl) (s0:Slot),acc=ws.map .str/\ws.length=i/\(∀ x ∈ ws,zdC x=true)/\Γ=[s0,.val (.int c)]) ⟨[],.emp,rfl,rfl,fun _ z=>(nomatch z),rfl⟩ ?_ ?_
 ·rintro i d acc Γ hd ⟨ws,s0,rfl,hl,hw,rfl⟩
  rw [yL] at hd
  have hi:i<(c % 5).toNat:=by
   cases hc:(List.range (c % 5).toNat)[i]? with
   | none=>rw [hc] at hd; cases hd
   | some k=>simpa using (yF.mp hc).1
  rw [List.getElem?_range hi] at hd; cases hd; simp [zaj,zab,zaf,zah,zw,zZ,tC',zaE,za9,tB',zaq,zav,zbp,zP,zaJ,zM,zbq,zad,zx,zal,zar,zbj,zbn,zbg,zag,zbh,zp,zat,zaG,zT,zS,zF,zz,zbf,zy,zas,zD,zau,zE,zO,zK,zN,zaL,zae,zbm,zU,zap,zW,zaw,xS,zax,zG,zaH,zay,zH,zt,zaA,zC,zaC,zaI,zan,zA,zao,zaF,zV,zX,zam,zaK,zu,zL,zq,zaD,zaE,zaB,zJ,zm,zaz,zr,zoZ,zbN]
  exact ⟨.inr ⟨by omega,by omega⟩,⟨by omega,by omega⟩,fun l hwl=>⟨ws ++ [l],by simp,by simp; omega,fun x hx=>(yU.mp hx).elim (hw x) fun z=>by rw [yc.mp z]; exact hwl⟩⟩
 ·rintro acc Γ ⟨ws,s0,rfl,hl,hw,rfl⟩
  rw [yD,List.length_range] at hl
  exact hq ws ⟨by omega,hw⟩
theorem zey:FnScope ["_law_label_here","_law_at"] ["_law_label_here"] (zo zfg):=sc0
theorem zku (d:Df K mg "_law_key" zfg ["_law_label_here"]) (z_int:mg "int"=none) (z_len:mg "len"=none):Fn P w K mg base 1 "_law_key" ["_law_label_here"] zew:=by
 refine d.ok zey (fun ds Q h=>?_) (fun f cdv A outer s H E hr ds Q h=>⟨_,(zj (zai 1 zey.nd zn)
  (zj (zhE (PW'.pt (ziF (zbc zvY (pv' 1) (zaa zb2 z_len YH (zc (pv' 0) zi))) (zgM (zbc (zs3 (zbe hr)) (za0 (i_A (zbe hr)) (pv' 0) (pv' 1)) (zR zrR)))))
   (zl (zai 1 zey.nd (zB zaP (pv' 1) zn))))
  (zl (zQ (zaX (zc (zbS zpH z_int PyProof.Rows.boot_int (zc (zbz s_A (pv' 0) zcV (zb9 (pv' 1))) zi)) (zc (zbz s_A (pv' 0) (zb9 (pv' 1)) zcV) zi))))))),?_⟩)
 ·obtain ⟨l,rfl,_⟩:=h
  rfl
 obtain ⟨l,rfl,hl,hq⟩:=h; obtain ⟨m,n,hm,m1,m9,ml,l12,tk,dr,cd,tf,rd,kf⟩:=zfD hl; simp [zaj,zab,zaf,zah,zw,zZ,tC',zaE,za9,tB',zaq,zav,zbp,zP,zaJ,zM,zbq,zad,zx,zal,zar,zbj,zbn,zbg,zag,zbh,zp,zat,zaG,zT,zS,zF,zz,zbf,zy,zas,zD,zau,zE,zO,zK,zN,zaL,zae,zbm,zU,zap,zW,zaw,xS,zax,zG,zaH,zay,zH,zt,zaA,zC,zaC,zaI,zan,zA,zao,zaF,zV,zX,zam,zaK,zu,zL,zq,zaD,zaE,zaB,zJ,zm,zaz,zr]
 refine zhj (fun Γ=>∃ k:Nat,k<=m/\Γ=[.val (.str l),.val (.int k)]) (fun Γ=>match Γ with | [_,.val (.int k)]=>m-k.toNat | _=>0) ⟨0,yo _,rfl⟩ ?_
 rintro Γ ⟨k,hk,rfl⟩
 simp [zaj,zab,zaf,zah,zw,zZ,tC',zaE,za9,tB',zaq,zav,zbp,zP,zaJ,zM,zbq,zad,zx,zal,zar,zbj,zbn,zbg,zag,zbh,zp,zat,zaG,zT,zS,zF,zz,zbf,zy,zas,zD,zau,zE,zO,zK,zN,zaL,zae,zbm,zU,zap,zW,zaw,xS,zax,zG,zaH,zay,zH,zt,zaA,zC,zaC,zaI,zan,zA,zao,zaF,zV,zX,zam,zaK,zu,zL,zq,zaD,zaE,zaB,zJ,zm,zaz,zr]
 have hs:l.length<=sizeLine:=small (by omega)
 have fin:k=m->zss [D.str (l.take k)] fun d=>l.length<=sizeLine/\Q (.val (.tup [d,.str (l.drop k)])):=by
  rintro rfl
  rw [tk,dr]
  refine .inl ⟨cut l,n,rfl,rd,by omega,hs,?_⟩
  unfold keyD at hq; rw [kf] at hq; exact hq
 refine ⟨hs,?_⟩
 by_cases e:l.length<=k
 ·exact .inl ⟨e,hs,fin (by omega)⟩
 ·have hg:l[k]?=some (l[k]'(by omega)):=yC (by omega)
  refine .inr ⟨by omega,hs,_,zdm hg,?_⟩
  by_cases e2:k=m
  ·refine .inl ⟨?_,hs,fin e2⟩
   have:l[k]'(by omega) ∈ zd4 l:=by
    rw [<- dr]; refine yb (i:=0) ?_; rw [List.getElem?_drop,Nat.add_zero,<- e2]; exact hg
   have:=tf _ this
   simpa [dig] using this
  ·refine .inr ⟨?_,⟨k+1,by omega,by simp⟩,by omega⟩
   have:l[k]'(by omega) ∈ cut l:=by
    rw [<- tk]; refine yb (i:=k) ?_
    rw [List.getElem?_take_of_lt (by omega)]
    exact hg
   have:=cd _ this
   simpa [dig] using this
end
open Classical in
theorem zg9 {ns:Nd} {p:Pl} (h:p ∈ keys ns):zcl (ndD ns) (plc p)=some (plc (zdM ns p)):=by
 unfold zdM zcl ndD
 induction ns with
 | nil=>cases h
 | cons x r ih =>
  obtain ⟨a,b⟩:=x
  by_cases e:p=a
  ·subst e
   simp
  ·have h':p ∈ keys r:=by
    rcases yJ.mp h with z | z
    ·exact yM z e
    ·exact z
   have ne:¬ plc a=plc p:=fun z=>e (zdW z).symm
   have ne2:(p == a)=false:=beq_eq_false_iff_ne.mpr e
   simp only [yZ,YL,ne2]; rw [YF]; simp only [ne,decide_false]; exact ih h'
theorem znh {ns:Nd} (o:NOk ns) {n:Nat} {p:Pl} (h8:8<=p.length+n):trD (zaR n ns p)=.tup [.str (zbH p),plc (zdM ns p),.tup ((zbL ns p).map fun q=>trD (zaR (n-1) ns q))]:=by
 cases n with
 | zero =>
  rw [zdd o (by omega)]
  rw [zbI]; rfl
 | succ n =>
  rw [zbI]
  show D.tup [_,_,.tup (((zbL ns p).map (zaR n ns)).map trD)]=_
  rw [yt]; rfl
structure NW (ns:Nd):Prop where
 ok:NOk ns
 wd:∀ x ∈ ns,WS x.2
def zcn:Sp':=fun ds Q=>∃ cs:List Int,ds=[.lst (cs.map .int)]/\cs.length<=50/\∀ ns,NW ns/\ns.length<=1+cs.length->Q (.own (.dit (ndD ns)))
open Classical in
open Classical in
open Classical in
open Classical in
theorem zmy {es:List (D × D)} {k v:D} (h:zcl es k=some v):(k,v) ∈ es:=by
 unfold zcl at h; obtain ⟨q,hq,e⟩:=Option.map_eq_some_iff.mp h; have h1:=List.mem_of_find?_eq_some hq; have h2:=List.find?_some hq; obtain ⟨a,b⟩:=q
 have h2':a=k:=by simpa using h2
 dsimp only at e
 rw [<- h2',<- e]; exact h1
def putN (ns:Nd) (q ws:Pl):Nd:=if q ∈ keys ns then ns.map (fun x=>if x.1=q then (q,ws) else x) else ns ++ [(q,ws)]
theorem zjM (ns:Nd) (q ws:Pl):keys (putN ns q ws)=if q ∈ keys ns then keys ns else keys ns ++ [q]:=by
 unfold putN; split
 ·unfold keys
  rw [yt]
  refine YC fun x _=>?_
  show (if x.1=q then (q,ws) else x).1=x.1
  split
  ·rename_i h; exact h.symm
  ·rfl
 ·simp [keys]
open Classical in
theorem zmv (ns:Nd) (q ws:Pl):zpF (ndD ns) (plc q) (plc ws)=ndD (putN ns q ws):=by
 have hs:(zcl (ndD ns) (plc q)).isSome=true↔q ∈ keys ns:=by
  constructor
  ·intro h
   obtain ⟨v,hv⟩:=Option.isSome_iff_exists.mp h; obtain ⟨y,hy,e⟩:=yT.mp (zmy hv)
   injection e with e1 e2
   rw [<- zdW e1]; exact Yo hy
  ·intro h
   rw [zg9 h]; rfl
 unfold zpF putN
 by_cases e:q ∈ keys ns
 ·rw [yS (hs.mpr e),yS e]
  unfold ndD; rw [yt,yt]
  refine YC fun x _=>?_
  show (if plc x.1=plc q then (plc x.1,plc ws) else (plc x.1,plc x.2))=(plc (if x.1=q then (q,ws) else x).1,plc (if x.1=q then (q,ws) else x).2)
  by_cases z:x.1=q
  ·rw [yS (by rw [z]),yS z,z]
  ·rw [yQ (fun y=>z (zdW y)),yQ z]
 ·rw [yQ (fun z=>e (hs.mp z)),yQ e]
  simp [ndD]
theorem zsx {ns:Nd} (o:NOk ns) {q ws:Pl} (hl:ns.length<=59) (h8:q.length<=8) (hu:q.dropLast ∈ keys ns) (hlab:∀ l,l ∈ q->zY l=true):NOk (putN ns q ws):=by
 have hk:=zjM ns q ws
 have hlen:(putN ns q ws).length<=ns.length+1:=by
  unfold putN; split
  ·rw [yD]; omega
  ·simp
 by_cases e:q ∈ keys ns
 ·rw [yS e] at hk
  exact ⟨by rw [hk]; exact o.nil,by rw [hk]; exact o.nd,by rw [hk]; exact o.len,by rw [hk]; exact o.up,by rw [hk]; exact o.lab,by omega⟩
 ·rw [yQ e] at hk
  refine ⟨by rw [hk]; simp [o.nil],?_,fun x hx=>?_,fun x hx=>?_,fun x hx=>?_,by omega⟩
  ·rw [hk,JA]
   refine ⟨o.nd,by simp,fun a ha b hb=>?_⟩
   rw [show b=q by simpa using hb]
   exact fun z=>e (z ▸ ha)
  all_goals
   rw [hk] at hx
   rcases yU.mp hx with h | h
  ·exact o.len x h
  ·rw [show x=q by simpa using h]; exact h8
  ·rw [hk]; simp [o.up x h]
  ·rw [hk,show x=q by simpa using h]; simp [hu]
  ·exact o.lab x h
  ·rw [show x=q by simpa using h]; exact hlab
theorem zpc {ns:Nd} (o:NW ns) {q ws:Pl} (hw:WS ws) (hl:ns.length<=59) (h8:q.length<=8) (hu:q.dropLast ∈ keys ns) (hlab:∀ l,l ∈ q->zY l=true):NW (putN ns q ws):=by
 refine ⟨zsx o.ok hl h8 hu hlab,fun x hx=>?_⟩
 unfold putN at hx; split at hx
 ·obtain ⟨y,hy,e⟩:=yT.mp hx
  rw [<- e]; split
  ·exact hw
  ·exact o.wd y hy
 ·rcases yU.mp hx with z | z
  ·exact o.wd x z
  ·rw [yc.mp z]; exact hw
theorem zgh {α β:Type} {f:α->β}:∀ {l:List α},l.Nodup->(∀ a ∈ l,∀ b ∈ l,f a=f b->a=b)->(l.map f).Nodup
 | [],_,_=>List.nodup_nil
 | x :: l,h,hi=>by
  rw [YD] at h; rw [yZ,YD]
  refine ⟨fun z=>?_,zgh h.2 fun a ha b hb=>hi a (yI _ ha) b (yI _ hb)⟩
  obtain ⟨y,hy,e⟩:=yT.mp z; rw [hi y (yI _ hy) x yR e] at hy; exact h.1 hy
theorem znl {α β:Type} (f:α->β) (lt:Nat->Nat->Bool) (d:α) (ps:List α):(srt lt d ps).map f=srt lt (f d) (ps.map f):=by
 unfold srt; rw [yD]; split
 ·rfl
 ·rw [yt]
  refine YC fun i _=>?_
  simp [List.getD,yL]
def zcF:Sp':=fun ds Q=>∃ ns p,ds=[.dit (ndD ns),plc p]/\NOk ns/\p ∈ keys ns/\Q (.own (.lst (((zbL ns p).map zbH).map D.str)))
def zbs:Nat->Sp'
 | 0=>fun _ _=>False
 | n+1=>fun ds Q=>∃ ns p,ds=[.dit (ndD ns),plc p]/\NOk ns/\p ∈ keys ns/\8<=p.length+n/\Q (.val (trD (zaR n ns p)))
instance {n:Nat}:MSp (zbs n):=⟨fun _ _ _ h q=>by
 cases n with
 | zero=>exact q
 | succ n =>
  obtain ⟨ns,p,a,b,c,d,q⟩:=q; exact ⟨ns,p,a,b,c,d,h _ q⟩⟩
theorem zgn {ns:Nd} (o:NW ns) (p:Pl):WS (zdM ns p):=by
 unfold zdM
 cases h:ns.lookup p with
 | none=>exact ⟨by simp,by simp⟩
 | some ws =>
  have:(p,ws) ∈ ns:=by
   clear o
   induction ns with
   | nil=>cases h
   | cons x r ih =>
    obtain ⟨a,b⟩:=x; rw [YL] at h
    by_cases e:p=a
    ·subst e
     simp at h
     subst h; exact yR
    ·rw [show (p == a)=false from beq_eq_false_iff_ne.mpr e] at h
     exact yI _ (ih h)
  exact o.wd _ this
theorem zsg {ns:Nd} (o:NW ns) {p:Pl} (hp:p ∈ keys ns):RowOk (p,zdM ns p):=by
 have hw:=zgn o p
 have wf:∀ x ∈ zdM ns p,1<=x.length/\x.length<=12/\∀ c ∈ x,c ∈ wsg:=fun x hx=>by
  have:=hw.2 x hx
  unfold zdC at this; rw [yX,yk,yY] at this
  exact ⟨this.1.1,this.1.2,fun c hc=>of_decide_eq_true (this.2 c hc)⟩
 exact ⟨o.ok.len p hp,yY.mpr (o.ok.lab p hp),yz hw.1 (by decide),fun x hx=>(wf x hx).2.1,fun x hx=>⟨fun z=>yM ((wf x hx).2.2 _ z) (by decide),fun z=>yM ((wf x hx).2.2 _ z) (by decide)⟩⟩
theorem zkF {ns:Nd} (o:NOk ns) (p:Pl):(zbL ns p).length<=60:=by
 have h1:=List.length_filter_le (fun q:Pl=>decide (q.length=p.length+1) && decide (q.dropLast=p)) (keys ns)
 have h2:(keys ns).length<=60:=by unfold keys; rw [yD]; exact o.many
 have h3:(zbL ns p).length=(zcB ns p).length:=zlb (ziH _) _ _
 unfold zcB at h3; omega
section
variable {P:Program} {w:World} {K:W.Frag} {mg:Str->Option Value} {base:Heap}
theorem zbb:FnScope ["_law_cells","_law_nodes_here","_law_made","_law_cell","_law_parent","_law_place"] ["_law_cells"] (zo zdQ):=sc0
theorem zhM (d:Df K mg "_law_nodes" zdQ ["_law_cells"]) (G_law_label:Fn P w K mg base 1 "_law_label" ["_law_cell"] zbE) (G_law_words:Fn P w K mg base 2 "_law_words" ["_law_cell"] zbD) (z_len:mg "len"=none):Fn P w K mg base 3 "_law_nodes" ["_law_cells"] zcn:=by
 refine d.ok zbb (fun ds Q h=>?_) (fun f cdv A outer s H E hr ds Q h=>⟨_,(zj (zeg 1 zbb.nd (znU (zbe hr) (zaX zi) (zaX zi)))
  (zj (zeg 2 zbb.nd (zcx (zc (zaX zi) zi)))
  (zj (zc5 (zch (pv' 0)) (zaQ 3 zbb.nd)
   (zj (zai 4 zbb.nd (zqH (za0 (i_A (zbe hr)) (pv' 2) (zB zdc (zB zcU (pv' 3) zn) (zaa zb2 z_len YH (zc (pv' 2) zi))))))
  (zj (zbl (zbc (zek (zdg hr)) (zaa zb2 z_len YH (zc (pv' 4) zi)) zn) (zl (zai 4 zbb.nd (zaX zi))) zaM)
  (zj (zai 5 zbb.nd (zB zaP (pv' 4) (zaX (zc (za1 G_law_label (hr.mono (by decide)) (zc (zB zcU (pv' 3) zn) zi)) zi))))
  (zj (zbl (zbc (zek (zdg hr)) (zB zdc (pv' 3) zn) zn) (zl (zai 5 zbb.nd (pv' 4))) zaM)
  (zj (zbl (zlw (zbc (zod (zbe hr)) (pv' 5) (pv' 1))) (zl (zeF 2 (pv' 5))) zaM)
  (zl (znQ (zbe hr) 1 (pv' 5) (za1 G_law_words (hr.mono (by decide)) (zc (zB zcU (pv' 3) zn) zi))))))))))
  (zl (zjA 1))))),?_⟩)
 ·obtain ⟨cs,rfl,_⟩:=h
  rfl
 obtain ⟨cs,rfl,hl,hq⟩:=h; simp [zaj,zab,zaf,zah,zw,zZ,tC',zaE,za9,tB',zaq,zav,zbp,zP,zaJ,zM,zbq,zad,zx,zal,zar,zbj,zbn,zbg,zag,zbh,zp,zat,zaG,zT,zS,zF,zz,zbf,zy,zas,zD,zau,zE,zO,zK,zN,zaL,zae,zbm,zU,zap,zW,zaw,xS,zax,zG,zaH,zay,zH,zt,zaA,zC,zaC,zaI,zan,zA,zao,zaF,zV,zX,zam,zaK,zu,zL,zq,zaD,zaE,zaB,zJ,zm,zaz,zr,zbE,zbD]; refine ⟨Imm.plc _,⟨[],rfl⟩,?_⟩
 refine zgk (fun i Γ=>∃ (ns:Nd) (mp:List Pl) (s3 s4 s5:Slot),Γ=[.val (.lst (cs.map .int)),.own (.dit (ndD ns)),.own (.lst (mp.map plc)),s3,s4,s5]/\NW ns/\ns.length<=1+i/\mp≠[]/\mp.length<=1+i/\∀ p ∈ mp,p ∈ keys ns)
  ⟨[([],[])],[[]],_,_,_,rfl,⟨⟨by simp [keys],by simp [keys],by simp [keys],by simp [keys],by simp [keys],by simp⟩,fun x hx=>by rw [yc.mp hx]; exact ⟨by decide,by simp⟩⟩,by simp,by simp,by simp,by simp [keys]⟩ ?_ ?_
 ·rintro i d Γ hd ⟨ns,mp,s3,s4,s5,rfl,o,hle,hmp,hml,hma⟩
  have hi:i<cs.length:=by simpa using (yF.mp hd).1
  rw [yL,yC hi] at hd; cases hd
  have hpos:0<mp.length:=List.length_pos_iff.mpr hmp
  have hp0:=md (i:=cs[i] / 3) (n:=mp.length) hpos
  obtain ⟨d,e1,m1⟩:=zfP (mp.map plc) hp0.1 (by rw [yD]; exact hp0.2)
  obtain ⟨p,mq,rfl⟩:=yT.mp m1; have hpk:=hma p mq; have hp8:=o.ok.len p hpk; simp [zaj,zab,zaf,zah,zw,zZ,tC',zaE,za9,tB',zaq,zav,zbp,zP,zaJ,zM,zbq,zad,zx,zal,zar,zbj,zbn,zbg,zag,zbh,zp,zat,zaG,zT,zS,zF,zz,zbf,zy,zas,zD,zau,zE,zO,zK,zN,zaL,zae,zbm,zU,zap,zW,zaw,xS,zax,zG,zaH,zay,zH,zt,zaA,zC,zaC,zaI,zan,zA,zao,zaF,zV,zX,zam,zaK,zu,zL,zq,zaD,zaE,zaB,zJ,zm,zaz,zr,zoZ,zbE,zbD]; refine ⟨hpos,plc p,e1,Imm.plc p,?_⟩
  have hnl:(ndD ns).length=ns.length:=by unfold ndD; rw [yD]
  have hsE:(ndD ns).length<sizeLine:=za4 (by omega)
  have hsM:mp.length<sizeLine:=za4 (by omega)
  have fl:∀ q ws:Pl,(putN ns q ws).length<=1+(i+1):=fun q ws=>by
   have:(putN ns q ws).length<=ns.length+1:=by
    unfold putN; split
    ·rw [yD]; omega
    ·simp
   omega
  have fk:∀ (q ws r:Pl),r ∈ keys ns\/r=q->r ∈ keys (putN ns q ws):=fun q ws r h=>by
   rw [zjM]
   rcases h with z | z
   ·split
    ·exact z
    ·simp [z]
   ·split
    ·rename_i y; rw [z]; exact y
    ·simp [z]
  have finA:∀ q ws:Pl,WS ws->q.length<=8->q.dropLast ∈ keys ns->(∀ l,l ∈ q->zY l=true)->∃ (ns':Nd) (mp2:List Pl),(zpF (ndD ns) (plc q) (plc ws)=ndD ns'/\List.map plc mp=List.map plc mp2)/\NW ns'/\ns'.length<=1+(i+1)/\¬ mp2=[]/\mp2.length<=1+(i+1)/\∀ r:Pl,r ∈ mp2->r ∈ keys ns':=fun q ws hw4 h1 h2 h3 =>
   ⟨putN ns q ws,mp,⟨zmv _ _ _,rfl⟩,zpc o hw4 (by omega) h1 h2 h3,fl q ws,hmp,by omega,fun r hr=>fk q ws r (.inl (hma r hr))⟩
  have finB:∀ q ws:Pl,WS ws->q.length<=8->q.dropLast ∈ keys ns->(∀ l,l ∈ q->zY l=true)->∃ (ns':Nd) (mp2:List Pl),(zpF (ndD ns) (plc q) (plc ws)=ndD ns'/\List.map plc mp ++ [plc q]=List.map plc mp2)/\NW ns'/\ns'.length<=1+(i+1)/\¬ mp2=[]/\mp2.length<=1+(i+1)/\∀ r:Pl,r ∈ mp2->r ∈ keys ns':=fun q ws hw4 h1 h2 h3 =>
   ⟨putN ns q ws,mp ++ [q],⟨zmv _ _ _,by simp⟩,zpc o hw4 (by omega) h1 h2 h3,fl q ws,by simp,by simp; omega,fun r hr=>fk q ws r (by
    rcases yU.mp hr with z | z
    ·exact .inl (hma r z)
    ·exact .inr (by simpa using z))⟩
  have hpu:=o.ok.up p hpk; have hpl:=o.ok.lab p hpk; simp
  by_cases h8:p.length=8
  ·refine .inr ⟨by omega,?_⟩
   have nil8:([]:Pl).length<8:=by decide
   have nilu:([]:Pl).dropLast ∈ keys ns:=o.ok.nil
   have nill:∀ l,l ∈ ([]:Pl)->zY l=true:=fun _ z=>(nomatch z)
   have niln:=o.ok.nil; intro l hlab
   by_cases h7:cs[i] % 7=6
   ·refine .inr ⟨h7,zcN _ _ ?_⟩
    cases (zcl (ndD ns) (plc ([]:Pl))).isSome <;> simp
    ·exact ⟨hsM,fun ws hws=>⟨⟨za8 ([]:Pl),zbJ ([]:Pl)⟩,hsE,finB ([]:Pl) ws hws (YZ nil8) nilu nill⟩⟩
    ·exact fun ws hws=>⟨⟨za8 ([]:Pl),zbJ ([]:Pl)⟩,hsE,finA ([]:Pl) ws hws (YZ nil8) nilu nill⟩
   ·have h1:(([l]:Pl):Pl).length<=8:=by simp
    have h2:(([l]:Pl):Pl).dropLast ∈ keys ns:=niln
    have h3:∀ x,x ∈ (([l]:Pl):Pl)->zY x=true:=fun x hx=>by rw [yc.mp hx]; exact hlab
    refine .inl ⟨h7,zcN _ _ ?_⟩
    cases (zcl (ndD ns) (plc ([l]:Pl))).isSome <;> simp
    ·exact ⟨hsM,fun ws hws=>⟨⟨za8 ([l]:Pl),zbJ ([l]:Pl)⟩,hsE,finB ([l]:Pl) ws hws h1 h2 h3⟩⟩
    ·exact fun ws hws=>⟨⟨za8 ([l]:Pl),zbJ ([l]:Pl)⟩,hsE,finA ([l]:Pl) ws hws h1 h2 h3⟩
  ·refine .inl ⟨by omega,?_⟩
   have p8:p.length<8:=by omega
   intro l hlab
   refine ⟨small (by omega),?_⟩
   by_cases h7:cs[i] % 7=6
   ·refine .inr ⟨h7,zcN _ _ ?_⟩
    cases (zcl (ndD ns) (plc p)).isSome <;> simp
    ·exact ⟨hsM,fun ws hws=>⟨⟨za8 p,zbJ p⟩,hsE,finB p ws hws (YZ p8) hpu hpl⟩⟩
    ·exact fun ws hws=>⟨⟨za8 p,zbJ p⟩,hsE,finA p ws hws (YZ p8) hpu hpl⟩
   ·have h1:((p ++ [l]):Pl).length<=8:=by simp; omega
    have h2:((p ++ [l]):Pl).dropLast ∈ keys ns:=by rw [List.dropLast_concat]; exact hpk
    have h3:∀ x,x ∈ ((p ++ [l]):Pl)->zY x=true:=fun x hx=>(yU.mp hx).elim (hpl x) fun z=>by rw [show x=l by simpa using z]; exact hlab
    refine .inl ⟨h7,zcN _ _ ?_⟩
    cases (zcl (ndD ns) (plc (p ++ [l]))).isSome <;> simp
    ·exact ⟨hsM,fun ws hws=>⟨⟨za8 (p ++ [l]),zbJ (p ++ [l])⟩,hsE,finB (p ++ [l]) ws hws h1 h2 h3⟩⟩
    ·exact fun ws hws=>⟨⟨za8 (p ++ [l]),zbJ (p ++ [l])⟩,hsE,finA (p ++ [l]) ws hws h1 h2 h3⟩
 ·rintro Γ ⟨ns,mp,s3,s4,s5,rfl,o,hle,hmp,hml,hma⟩
  simp [zaj,zab,zaf,zah,zw,zZ,tC',zaE,za9,tB',zaq,zav,zbp,zP,zaJ,zM,zbq,zad,zx,zal,zar,zbj,zbn,zbg,zag,zbh,zp,zat,zaG,zT,zS,zF,zz,zbf,zy,zas,zD,zau,zE,zO,zK,zN,zaL,zae,zbm,zU,zap,zW,zaw,xS,zax,zG,zaH,zay,zH,zt,zaA,zC,zaC,zaI,zan,zA,zao,zaF,zV,zX,zam,zaK,zu,zL,zq,zaD,zaE,zaB,zJ,zm,zaz,zr]
  exact hq ns ⟨o,by simpa using hle⟩
theorem zfa:FnScope ["_law_nodes_here","_law_place","_law_found"] ["_law_nodes_here","_law_place"] (zo zdu):=sc0
theorem ziL (d:Df K mg "_law_kids" zdu ["_law_nodes_here","_law_place"]) (G_law_key:Fn P w K mg base 1 "_law_key" ["_law_label_here"] zew) (z_len:mg "len"=none) (z_sorted:mg "sorted"=none):Fn P w K mg base 4 "_law_kids" ["_law_nodes_here","_law_place"] zcF:=by
 refine d.ok zfa (fun ds Q h=>?_) (fun f cdv A outer s H E hr ds Q h=>⟨_,(zj (zjz 2 zfa.nd (zjy (fsc:=zo zdu) (N:=["_law_nodes_here","_law_place","_law_found"]) (N':=["_law_other","_law_place"]) (src:=[none,some 1]) (by refine ⟨rfl,?_,?_,?_,rfl,rfl⟩ <;> decide +kernel) (znX (pv' 0)) (fun _ _ _ _ _ _=>(zaQ 0 (show (["_law_other","_law_place"]:List Str).Nodup by decide +kernel))) (fun _ _ _ _ _ _=>(znL (PW'.pt (ziF (zbc (zek (zdg hr)) (zaa zb2 z_len YH (zc (pv' 0) zi)) (zB zaP (zaa zb2 z_len YH (zc (pv' 1) zi)) zn)) (zgM (zbc (zek (zdg hr)) (zbz s_A (pv' 0) zcV (zb9 zfs)) (pv' 1))))))) (fun _ _ _ _ _ _=>(za0 (i_A (zbe hr)) (pv' 0) zfs))))
  (zl (znP (znS G_law_key (hr.mono (by decide)) z_sorted (zc (pv' 2) zi))))),?_⟩)
 ·obtain ⟨ns,p,rfl,_⟩:=h
  rfl
 obtain ⟨ns,p,rfl,o,hp,hq⟩:=h; simp [zaj,zab,zaf,zah,zw,zZ,tC',zaE,za9,tB',zaq,zav,zbp,zP,zaJ,zM,zbq,zad,zx,zal,zar,zbj,zbn,zbg,zag,zbh,zp,zat,zaG,zT,zS,zF,zz,zbf,zy,zas,zD,zau,zE,zO,zK,zN,zaL,zae,zbm,zU,zap,zW,zaw,xS,zax,zG,zaH,zay,zH,zt,zaA,zC,zaC,zaI,zan,zA,zao,zaF,zV,zX,zam,zaK,zu,zL,zq,zaD,zaE,zaB,zJ,zm,zaz,zr]
 have hnl:(ndD ns).length<=60:=by unfold ndD; rw [yD]; exact o.many
 have hkeys:List.map (fun x=>x.fst) (ndD ns)=(keys ns).map plc:=by unfold ndD keys; rw [yt,yt]; rfl
 refine ⟨small (by omega),?_⟩
 rw [hkeys]
 refine zcR (fun i acc Γ=>∃ s0,acc=((((keys ns).take i).filter fun q=>decide (q.length=p.length+1) && decide (q.dropLast=p)).map fun q=>D.str (zbH q))/\Γ=[s0,.val (plc p)]) ⟨.emp,rfl,rfl⟩ ?_ ?_
 ·rintro i d acc Γ hd ⟨s0,rfl,rfl⟩
  rw [yL] at hd
  cases hc:(keys ns)[i]? with
  | none=>rw [hc] at hd; cases hd
  | some q =>
   rw [hc] at hd; cases hd; have hq8:=o.len q (yb hc); have hp8:=o.len p hp; rw [Yh,hc]; simp [zaj,zab,zaf,zah,zw,zZ,tC',zaE,za9,tB',zaq,zav,zbp,zP,zaJ,zM,zbq,zad,zx,zal,zar,zbj,zbn,zbg,zag,zbh,zp,zat,zaG,zT,zS,zF,zz,zbf,zy,zas,zD,zau,zE,zO,zK,zN,zaL,zae,zbm,zU,zap,zW,zaw,xS,zax,zG,zaH,zay,zH,zt,zaA,zC,zaC,zaI,zan,zA,zao,zaF,zV,zX,zam,zaK,zu,zL,zq,zaD,zaE,zaB,zJ,zm,zaz,zr,List.filter_append,zh7]
   by_cases h1:q.length=p.length+1
   ·refine .inr ⟨by omega,?_⟩
    have hq0:q≠[]:=fun z=>by rw [z] at h1; simp at h1
    by_cases h2:q.dropLast=p
    ·exact .inr ⟨h2,_,zhh hq0,by simp [h1,h2]⟩
    ·exact .inl ⟨h2,fun _=>h2⟩
   ·exact .inl ⟨by omega,fun z=>yM z h1⟩
 ·rintro acc Γ ⟨s0,rfl,rfl⟩
  rw [show List.take (List.map plc (keys ns)).length (keys ns)=keys ns from yr (by rw [yD]; exact yG _)]
  rw [show List.filter (fun q:Pl=>decide (q.length=p.length+1) && decide (q.dropLast=p)) (keys ns)=zcB ns p from rfl]
  have hkl:(zcB ns p).length<=60:=by
   have h1:=List.length_filter_le (fun q:Pl=>decide (q.length=p.length+1) && decide (q.dropLast=p)) (keys ns)
   have h2:(keys ns).length<=60:=by unfold keys; rw [yD]; exact o.many
   unfold zcB; omega
  refine ⟨by rw [yD]; omega,(zcB ns p).map (fun q=>keyD (zbH q)),by simp,fun i x k h1 h2=>?_,ltP ((zcB ns p).map zvi),.inr ⟨(zcB ns p).map zvi,by rw [yt]; rfl,rfl⟩,?_⟩
  ·rw [yL] at h1 h2
   cases hc:(zcB ns p)[i]? with
   | none=>rw [hc] at h1; cases h1
   | some q =>
    rw [hc] at h1 h2; cases h1; cases h2; obtain ⟨m1,m2⟩:=zfy.mp (yb hc)
    exact ⟨zbH q,rfl,o.lab q m1 _ (by rw [m2,zeL]; simp),rfl⟩
  ·rw [zp3 (fun q=>D.str (zbH q)) [] (zcB ns p) (ziH _)]
   rw [yt] at hq; exact hq
theorem zce:FnScope ["_law_nodes_here","_law_place","_law_label_here","_law_kids_here"] ["_law_nodes_here","_law_place"] (zo zdt):=sc0
theorem ziK (d:Df K mg "_law_tree" zdt ["_law_nodes_here","_law_place"]) (G_law_kids:Fn P w K mg base 4 "_law_kids" ["_law_nodes_here","_law_place"] zcF) (z_tuple:mg "tuple"=none):∀ n:Nat,Fn P w K mg base (n+5) "_law_tree" ["_law_nodes_here","_law_place"] (zbs n):=by
 intro n
 induction n with
 | zero=>exact d.ok (k:=4) zce (fun ds Q h=>(show False from h).elim) (fun f cdv A outer s H E hr ds Q h=>(show False from h).elim)
 | succ n ih =>
 have G_law_tree:Fn P w K mg base (n+5) "_law_tree" ["_law_nodes_here","_law_place"] (zbs n):=ih
 refine d.ok (k:=n+5) zce (fun ds Q h=>?_) (fun f cdv A outer s H E hr ds Q h=>⟨_,(zj (zai 2 zce.nd (zR []))
  (zj (zbl (zbc (zqW (zdg hr)) (pv' 1) (zaX zi)) (zl (zai 2 zce.nd (za0 (i_A (zbe hr)) (pv' 1) zfs))) zaM)
  (zj (zjz 3 zce.nd (zjy (fsc:=zo zdt) (N:=["_law_nodes_here","_law_place","_law_label_here","_law_kids_here"]) (N':=["_law_kid","_law_nodes_here","_law_place"]) (src:=[none,some 0,some 1]) (by refine ⟨rfl,?_,?_,?_,rfl,rfl⟩ <;> decide +kernel) (zch (za1 G_law_kids (hr.mono (by omega)) (zc (pv' 0) (zc (pv' 1) zi)))) (fun _ _ _ _ _ _=>(zaQ 0 (show (["_law_kid","_law_nodes_here","_law_place"]:List Str).Nodup by decide +kernel))) (fun _ _ _ _ _ _=>zb7) (fun _ _ _ _ _ _=>(za1 G_law_tree (hr.mono (by omega)) (zc (pv' 1) (zc (zB zaP (pv' 2) (zaX (zc (pv' 0) zi))) zi))))))
  (zl (zQ (zaX (zc (pv' 2) (zc (za0 (i_A (zbe hr)) (pv' 0) (pv' 1)) (zc (zbS zhg z_tuple YV (zc (pv' 3) zi)) zi))))))))),?_⟩)
 ·obtain ⟨ns,p,rfl,_⟩:=h
  rfl
 obtain ⟨ns,p,rfl,o,hp,h8,hq⟩:=h; simp [zaj,zab,zaf,zah,zw,zZ,tC',zaE,za9,tB',zaq,zav,zbp,zP,zaJ,zM,zbq,zad,zx,zal,zar,zbj,zbn,zbg,zag,zbh,zp,zat,zaG,zT,zS,zF,zz,zbf,zy,zas,zD,zau,zE,zO,zK,zN,zaL,zae,zbm,zU,zap,zW,zaw,xS,zax,zG,zaH,zay,zH,zt,zaA,zC,zaC,zaI,zan,zA,zao,zaF,zV,zX,zam,zaK,zu,zL,zq,zaD,zaE,zaB,zJ,zm,zaz,zr,zcF]
 have hkl:(zbL ns p).length<=60:=zkF o p
 have hkc:∀ R:List D->Prop,R ((zbL ns p).map fun q=>trD (zaR (n-1) ns q))->zeY (zw 0) zbf (zz (zbs n) (zx (zZ 1) (zx (za9 zfp (zZ 2) (zal (zx (zZ 0) zad))) zad))) R (List.map (D.str ∘ zbH) (zbL ns p)) [] [Slot.emp,Slot.val (D.dit (ndD ns)),Slot.val (plc p)]:=by
  intro R hR
  refine zcR (fun i acc Γ=>∃ s0,acc=(((zbL ns p).take i).map fun q=>trD (zaR (n-1) ns q))/\Γ=[s0,.val (D.dit (ndD ns)),.val (plc p)]) ⟨.emp,rfl,rfl⟩ ?_ ?_
  ·rintro i d acc Γ hd ⟨s0,rfl,rfl⟩
   rw [yL] at hd
   cases hc:(zbL ns p)[i]? with
   | none=>rw [hc] at hd; cases hd
   | some q =>
    rw [hc] at hd; cases hd; have hm:=yb hc; have hql:=zd1 hm; have hqe:=(zbx.mp hm).2; have hp8:=o.len p hp
    cases n with
    | zero =>
     rw [zdd o (by omega)] at hm
     cases hm
    | succ n =>
     simp [zaj,zab,zaf,zah,zw,zZ,tC',zaE,za9,tB',zaq,zav,zbp,zP,zaJ,zM,zbq,zad,zx,zal,zar,zbj,zbn,zbg,zag,zbh,zp,zat,zaG,zT,zS,zF,zz,zbf,zy,zas,zD,zau,zE,zO,zK,zN,zaL,zae,zbm,zU,zap,zW,zaw,xS,zax,zG,zaH,zay,zH,zt,zaA,zC,zaC,zaI,zan,zA,zao,zaF,zV,zX,zam,zaK,zu,zL,zq,zaD,zaE,zaB,zJ,zm,zaz,zr,zbs]
     refine ⟨small (by omega),ns,q,⟨rfl,hqe.symm⟩,o,(zbx.mp hm).1,by omega,?_⟩
     rw [Yh,yL,hc]; rfl
  ·rintro acc Γ ⟨s0,rfl,rfl⟩
   rw [show List.take (List.map (D.str ∘ zbH) (zbL ns p)).length (zbL ns p)=zbL ns p from yr (by rw [yD]; exact yG _)]
   exact hR
 rw [znh o h8] at hq
 by_cases hp0:p=[]
 ·refine .inl ⟨hp0,ns,p,⟨rfl,rfl⟩,o,hp,small (by omega),hkc _ (zjv p (ndD ns) (zg9 hp) ?_)⟩
  subst hp0; exact hq
 ·exact .inr ⟨hp0,_,zhh hp0,ns,p,⟨rfl,rfl⟩,o,hp,small (by omega),hkc _ (zjv p (ndD ns) (zg9 hp) hq)⟩
end
def zbU (T:Cs):Sp':=fun ds Q=>∃ d,ds=[d]/\((∃ x,d=.str x/\TextOk x/\x.length<=90000/\¬ zb3 x)\/zfR d)/\Q (.val (.bl true))
def zbV (T:Cs):Sp':=fun ds Q=>∃ x,ds=[.str x]/\TextOk x/\x.length<=90000/\∀ b:Bool,(b=true↔zb3 x)->Q (.val (.bl b))
instance {T:Cs}:MSp (zbU T):=⟨fun _ _ _ h ⟨d,e,a,q⟩=>⟨d,e,a,h _ q⟩⟩
instance {T:Cs}:MSp (zbV T):=⟨fun _ _ _ h ⟨d,e,a,b,q⟩=>⟨d,e,a,b,fun b hb=>h _ (q b hb)⟩⟩
section
variable {P:Program} {w:World} {K:W.Frag} {mg:Str->Option Value} {base:Heap} {T:Cs}
theorem zbY:FnScope ["_law_text","_law_told"] ["_law_text"] (zo zcK):=sc0
theorem zf0 (d:Df K mg "_law_read_so" zcK ["_law_text"]) (cf:CF K T) (G_shown:Fn P w K mg base 3 "shown" ["tree"] zdp) (G_read:FnX P w K mg base 40 "read" ["text"] (zev T)) (z_isinstance:mg "isinstance"=none) (z_str:mg "str"=none) (m_NoText:mg "NoText"=some (.ref T.NoText)):Fn P w K mg base 41 "_law_read_so" ["_law_text"] (zbV T):=by
 refine d.ok zbY (fun ds Q h=>?_) (fun f cdv A outer s H E hr ds Q h=>⟨_,(zj (zai 1 zbY.nd zc9)
  (zj (znO (zd3 (zpO 1 zbY.nd (zpT G_shown (hr.mono (by decide)) (zrX G_read (hr.mono (by decide)) (zc (pv' 0) zi)))))
   (fun _=>(zl (zai 1 zbY.nd zc9))) m_NoText)
  (zl (zQ (zci (zaa (zdL K rfl) z_isinstance yi (zc (pv' 1) (zc (zei z_str Yv) zi))) (zcO (zda (zek (zdg hr)) (pv' 1) (pv' 0)))))))),?_⟩)
 ·obtain ⟨l,rfl,_⟩:=h
  rfl
 obtain ⟨x,rfl,ok,hx,q⟩:=h; simp [zaj,zab,zaf,zah,zw,zZ,tC',zaE,za9,tB',zaq,zav,zbp,zP,zaJ,zM,zbq,zad,zx,zal,zar,zbj,zbn,zbg,zag,zbh,zp,zat,zaG,zT,zS,zF,zz,zbf,zy,zas,zD,zau,zE,zO,zK,zN,zaL,zae,zbm,zU,zap,zW,zaw,xS,zax,zG,zaH,zay,zH,zt,zaA,zC,zaC,zaI,zan,zA,zao,zaF,zV,zX,zam,zaK,zu,zL,zq,zaD,zaE,zaB,zJ,zm,zaz,zr,zev,zdp]
 refine .inl ⟨ok,hx,fun t tok hl g e=>⟨t,rfl,tok,?_⟩,fun hn=>⟨cf.exn,q false ⟨fun z=>(nomatch z),fun z=>yM z hn⟩⟩⟩
 rw [YB e]
 exact q true ⟨fun _=>⟨t,hl,g,tok.len,tok.ok,e⟩,fun _=>rfl⟩
theorem zbX:FnScope ["_law_text","_law_told","e"] ["_law_text"] (zo zcJ):=sc0
theorem zfZ (d:Df K mg "_law_refused" zcJ ["_law_text"]) (cf:CF K T) (G_read:FnX P w K mg base 40 "read" ["text"] (zev T)) (z_ValueError:mg "ValueError"=none) (z_isinstance:mg "isinstance"=none) (m_MendError:mg "MendError"=some (.ref T.MendError)) (m_NoAct:mg "NoAct"=some (.ref T.NoAct)) (m_NoDay:mg "NoDay"=some (.ref T.NoDay)) (m_NoFit:mg "NoFit"=some (.ref T.NoFit)) (m_NoName:mg "NoName"=some (.ref T.NoName)) (m_NoPlace:mg "NoPlace"=some (.ref T.NoPlace)) (m_NoRow:mg "NoRow"=some (.ref T.NoRow)) (m_NoText:mg "NoText"=some (.ref T.NoText)) (m_Twice:mg "Twice"=some (.ref T.Twice)):Fn P w K mg base 41 "_law_refused" ["_law_text"] (zbU T):=by
 refine d.ok zbX (fun ds Q h=>?_) (fun f cdv A outer s H E hr ds Q h=>⟨_,(zj (zai 1 zbX.nd zc9)
  (zj (zqm 2 (zd3 (zm9 (zrX G_read (hr.mono (by decide)) (zc (pv' 0) zi))))
   (fun _=>(zl (zai 1 zbX.nd (pv' 2)))) m_MendError zbX.nd)
  (zj (zbl (PW'.pt (zjx (zbi (zbv (zaa (zdL K rfl) z_isinstance yi (zc (pv' 1) (zc (zdb m_NoText) zi))))) (zgL (zbi (zbv (zaa (zdL K rfl) z_isinstance yi (zc (pv' 1) (zc (zei z_ValueError ztE) zi)))))))) (zl (zQ zcy)) zaM)
  (zl (zQ (zqF (zaa (zrE K rfl) z_isinstance yi (zc (pv' 1) (zc (zaX (zc (zdb m_NoAct) (zc (zdb m_NoDay) (zc (zdb m_NoFit) (zc (zdb m_NoName) (zc (zdb m_NoPlace) (zc (zdb m_NoRow) (zc (zdb m_Twice) zi)))))))) zi))))))))),?_⟩)
 ·obtain ⟨l,rfl,_⟩:=h
  rfl
 obtain ⟨d,rfl,hb,q⟩:=h; simp [zaj,zab,zaf,zah,zw,zZ,tC',zaE,za9,tB',zaq,zav,zbp,zP,zaJ,zM,zbq,zad,zx,zal,zar,zbj,zbn,zbg,zag,zbh,zp,zat,zaG,zT,zS,zF,zz,zbf,zy,zas,zD,zau,zE,zO,zK,zN,zaL,zae,zbm,zU,zap,zW,zaw,xS,zax,zG,zaH,zay,zH,zt,zaA,zC,zaC,zaI,zan,zA,zao,zaF,zV,zX,zam,zaK,zu,zL,zq,zaD,zaE,zaB,zJ,zm,zaz,zr,zev]
 have key:7<=sizeLine/\zqf K [D.exc T.NoText [],D.tup [D.cls T.NoAct,D.cls T.NoDay,D.cls T.NoFit,D.cls T.NoName,D.cls T.NoPlace,D.cls T.NoRow,D.cls T.Twice]] fun d=>d=D.bl false/\Q (Res.val (D.bl true))\/d=D.bl true/\Q (Res.val (D.bl false)) :=
  ⟨small (by decide),_,_,_,_,false,rfl,rfl,.inr (.inr ⟨_,_,rfl,rfl,cf.xis⟩),cf.kA,.inl ⟨rfl,q⟩⟩
 rcases hb with ⟨x,rfl,ok,hx,hno⟩ | hn
 ·exact .inl ⟨x,rfl,ok,hx,fun t tok hl g e=>yM ⟨t,hl,g,tok.len,tok.ok,e⟩ hno,fun _=>⟨cf.exm,cf.xis,.inr ⟨cf.kN,cf.xis,.inr ⟨cf.kV,key⟩⟩⟩⟩
 ·exact .inr ⟨hn,cf.exm,cf.xis,.inr ⟨cf.kN,cf.xis,.inr ⟨cf.kV,key⟩⟩⟩
end
structure RowsOk (rows:List (List Nat)):Prop where
 ne:rows≠[]
 len:rows.length<=40
 no:∀ r ∈ rows,10 ∉ r
 short:∀ r ∈ rows,r.length<=200
 few:∀ r ∈ rows,(spl 32 r).length<=5
def zdq:Sp':=fun ds Q=>∃ (rows:List (List Nat)) (c:Int),ds=[.lst (rows.map .str),.int c]/\RowsOk rows/\∀ (i:Nat) (row s:List Nat),rows[i]?=some row->s ∈ ze8 row->Q (.val (.str (zmL (rows.take i) (rows.drop (i+1)) s)))
def zb5:Sp':=fun ds Q=>∃ (rows:List (List Nat)) (c:Int),ds=[.lst (rows.map .str),.int c]/\RowsOk rows/\∀ rows':List (List Nat),rows'.length<=40->(∀ r ∈ rows',r ∈ rows)->Q (.val (.lst (rows'.map .str)))
instance:MSp zdq:=⟨fun _ _ _ h ⟨a,b,e,x,q⟩=>⟨a,b,e,x,fun i r s h1 h2=>h _ (q i r s h1 h2)⟩⟩
instance:MSp zb5:=⟨fun _ _ _ h ⟨a,b,e,x,q⟩=>⟨a,b,e,x,fun r h1 h2=>h _ (q r h1 h2)⟩⟩
theorem zj0 {α:Type} (xs:List α) (k:Nat):zcW xs none (some (k:Int))=xs.take k:=by
 unfold zcW; rw [HT.sIx_nat,HT.sIx_none,List.drop_zero,List.take_eq_take_iff]; omega
theorem zmz {α:Type} (xs:List α) (k:Nat):zcW xs (some (k:Int)) none=xs.drop k:=by
 unfold zcW
 rw [HT.sIx_nat,HT.sIx_none,yr (by rw [YK]; omega)]
 by_cases h:k<=xs.length
 ·rw [Nat.min_eq_left h]
 ·rw [Nat.min_eq_right (by omega),List.drop_of_length_le (yG _),List.drop_of_length_le (by omega)]
theorem zrC {α:Type} (xs:List α) (i m:Nat) (h:i<=xs.length):zcW xs (some (i:Int)) (some ((i:Int)+(m:Int)))=(xs.drop i).take m:=by
 unfold zcW
 rw [show (i:Int)+(m:Int)=((i+m:Nat):Int) by omega,HT.sIx_nat,HT.sIx_nat,Nat.min_eq_left h,List.take_eq_take_iff,YK]
 omega
theorem zcb {a b:List (List Nat)} {Q:OD->Prop} (h:a.length+b.length<=1000) (q:Q (.lst ((a ++ b).map .str))):zkn (.lst (a.map .str)) (.lst (b.map .str)) Q :=
 ⟨_,_,rfl,rfl,by rw [yD,yD]; exact YZ (za4 h),by rw [<- YE]; exact q⟩
section
variable {P:Program} {w:World} {K:W.Frag} {mg:Str->Option Value} {base:Heap}
theorem zeb:FnScope ["_law_rows","_law_cell","_law_at"] ["_law_rows","_law_cell"] (zo zc2):=sc0
theorem zgT (d:Df K mg "_law_turned" zc2 ["_law_rows","_law_cell"]) (z_len:mg "len"=none) (z_list:mg "list"=none) (z_reversed:mg "reversed"=none):Fn P w K mg base 1 "_law_turned" ["_law_rows","_law_cell"] zb5:=by
 refine d.ok zeb (fun ds Q h=>?_) (fun f cdv A outer s H E hr ds Q h=>⟨_,(zj (zai 2 zeb.nd (zB zdc (zB zcU (pv' 1) zn) (zaa zb2 z_len YH (zc (pv' 0) zi))))
  (zj (zbl (zbc (zek (zdg hr)) (zB zdc (pv' 1) zn) zn) (zl (zQ (za5 (zdG zdH (zbz s_A (pv' 0) zcV (zb9 (pv' 2))) (zbz s_A (pv' 0) (zb9 (zB zaP (pv' 2) zn)) zcV))))) zaM)
  (zj (zbl (zbc (zek (zdg hr)) (zB zdc (pv' 1) zn) zn) (zl (zQ (za5 (zdG zdH (za5 (zdG zdH (zbz s_A (pv' 0) zcV (zb9 (pv' 2))) (za5 (znT rfl z_list z_reversed (zbz s_A (pv' 0) (zb9 (pv' 2)) (zb9 (zB zaP (pv' 2) zn))))))) (zbz s_A (pv' 0) (zb9 (zB zaP (pv' 2) zn)) zcV))))) zaM)
  (zl (zQ (za5 (zdG zdH (za5 (zdG zdH (zbz s_A (pv' 0) zcV (zb9 (pv' 2))) (zbz s_A (pv' 0) (zb9 (zB zaP (pv' 2) zn)) zcV))) (za5 (zcx (zc (za0 (i_A (zbe hr)) (pv' 0) (pv' 2)) zi)))))))))),?_⟩)
 ·obtain ⟨l,_,rfl,_⟩:=h
  rfl
 obtain ⟨rows,c,rfl,ok,q⟩:=h; simp [zaj,zab,zaf,zah,zw,zZ,tC',zaE,za9,tB',zaq,zav,zbp,zP,zaJ,zM,zbq,zad,zx,zal,zar,zbj,zbn,zbg,zag,zbh,zp,zat,zaG,zT,zS,zF,zz,zbf,zy,zas,zD,zau,zE,zO,zK,zN,zaL,zae,zbm,zU,zap,zW,zaw,xS,zax,zG,zaH,zay,zH,zt,zaA,zC,zaC,zaI,zan,zA,zao,zaF,zV,zX,zam,zaK,zu,zL,zq,zaD,zaE,zaB,zJ,zm,zaz,zr,zoZ]
 have hpos:0<rows.length:=List.length_pos_iff.mpr ok.ne
 have h40:=ok.len; have hp:=md (i:=c / 3) (n:=rows.length) hpos
 obtain ⟨k,hk⟩:∃ k:Nat,c / 3 % (rows.length:Int)=(k:Int):=⟨_,(Int.toNat_of_nonneg hp.1).symm⟩
 rw [hk] at hp ⊢
 have hkl:k<rows.length:=by omega
 have e1:zcW (List.map D.str rows) none (some (k:Int))=(rows.take k).map D.str:=by rw [zj0,List.map_take]
 have e2:zcW (List.map D.str rows) (some ((k:Int)+1)) none=(rows.drop (k+1)).map D.str:=by rw [show (k:Int)+1=((k+1:Nat):Int) by omega,zmz,List.map_drop]
 have e3:zcW (List.map D.str rows) (some ((k:Int)+2)) none=(rows.drop (k+2)).map D.str:=by rw [show (k:Int)+2=((k+2:Nat):Int) by omega,zmz,List.map_drop]
 have e4:(zcW (List.map D.str rows) (some (k:Int)) (some ((k:Int)+2))).reverse=((rows.drop k).take 2).reverse.map D.str:=by
  rw [show ((k:Int)+2)=(k:Int)+((2:Nat):Int) by omega,zrC _ _ _ (by rw [yD]; omega),List.map_reverse,List.map_take,List.map_drop]
 have e5:atI (List.map D.str rows) (k:Int)=some (.str rows[k]):=zdm (by rw [yL,yC hkl]; rfl)
 rw [e1,e2,e3,e4,e5]; refine ⟨hpos,?_⟩
 have l1:(rows.take k).length=k:=by rw [YQ]; omega
 have l2:(rows.drop (k+1)).length=rows.length-(k+1):=YK
 have l3:(rows.drop (k+2)).length=rows.length-(k+2):=YK
 have l4:((rows.drop k).take 2).reverse.length=min 2 (rows.length-k):=by rw [ym,YQ,YK]
 have m1:∀ r ∈ rows.take k,r ∈ rows:=fun r hr=>List.mem_of_mem_take hr
 have m2:∀ r ∈ rows.drop (k+1),r ∈ rows:=fun r hr=>JB hr
 have m3:∀ r ∈ rows.drop (k+2),r ∈ rows:=fun r hr=>JB hr
 have m4:∀ r ∈ ((rows.drop k).take 2).reverse,r ∈ rows:=fun r hr=>JB (List.mem_of_mem_take (List.mem_reverse.mp hr))
 by_cases z0:c % 3=0
 ·refine .inr ⟨z0,zcb (by omega) (q _ (by rw [yH]; omega) fun r hr=>?_)⟩
  rcases yU.mp hr with z | z
  ·exact m1 r z
  ·exact m2 r z
 ·refine .inl ⟨z0,?_⟩
  by_cases z1:c % 3=1
  ·refine .inr ⟨z1,zcb (by omega) ?_⟩
   refine zcb (by rw [yH]; omega) (q _ (by rw [yH,yH]; omega) fun r hr=>?_)
   rcases yU.mp hr with z | z
   ·rcases yU.mp z with z | z
    ·exact m1 r z
    ·exact m4 r z
   ·exact m3 r z
  ·refine .inl ⟨z1,zcb (by omega) ⟨_,rfl,?_⟩⟩
   refine zcb (b:=[rows[k]]) (by rw [yH,ya]; omega) (q _ (by rw [yH,yH,ya]; omega) fun r hr=>?_)
   rcases yU.mp hr with z | z
   ·rcases yU.mp z with z | z
    ·exact m1 r z
    ·exact m2 r z
   ·rw [yc.mp z]
    exact Ye hkl
theorem zcw:FnScope ["_law_rows","_law_cell","_law_at","_law_row","_law_some"] ["_law_rows","_law_cell"] (zo zfh):=sc0
theorem zkv (d:Df K mg "_law_bad" zfh ["_law_rows","_law_cell"]) (z_len:mg "len"=none):Fn P w K mg base 1 "_law_bad" ["_law_rows","_law_cell"] zdq:=by
 refine d.ok zcw (fun ds Q h=>?_) (fun f cdv A outer s H E hr ds Q h=>⟨_,(zj (zai 2 zcw.nd (zB zdc (zB zcU (pv' 1) zn) (zaa zb2 z_len YH (zc (pv' 0) zi))))
  (zj (zai 3 zcw.nd (za0 (i_A (zbe hr)) (pv' 0) (pv' 2)))
  (zj (zai 4 zcw.nd (za5 (zcx (zc (zB zaP (zR [32]) (pv' 3)) (zc (zB zaP (pv' 3) (zR [32])) (zc (zB zaP (pv' 3) (zR [32,32,98])) (zc (zB zaP (pv' 3) (zR [32,66])) (zc (zB zaP (pv' 3) (zR [32,97,45,98])) (zc (zB zaP (pv' 3) (zR [32,97,98,99,100,101,102,103,104,105,106,107,108,109])) (zc (zB zaP (zB zaP (pv' 3) (zR [10])) (pv' 3)) (zc (zR []) zi)))))))))))
  (zj (zai 4 zcw.nd (za5 (zdG zdH (pv' 4) (za5 (zcx (zc (zB zaP (zR [48,32]) (pv' 3)) (zc (zB zaP (pv' 3) (zR [10])) (zc (zB zaP (pv' 3) (zR [9])) (zc (zR [49,97,46,49,66]) (zc (zB zaP (pv' 3) (zR [10,49,46,49,46,49,46,49,46,49,46,49,46,49,46,49,46,49,46,49])) (zc (zR [46,46]) (zc (zB zaP (pv' 3) (zR [32,35])) (zc (zR [49,44,49]) zi)))))))))))))
  (zl (zQ (zcr zeo yh YN YM (zR [10]) (zc (za5 (zdG zdH (za5 (zdG zdH (zbz s_A (pv' 0) zcV (zb9 (pv' 2))) (za5 (zcx (zc (za0 (i_A (zbe hr)) (pv' 4) (zB zdc (pv' 1) zn)) zi))))) (zbz s_A (pv' 0) (zb9 (zB zaP (pv' 2) zn)) zcV))) zi)))))))),?_⟩)
 ·obtain ⟨l,_,rfl,_⟩:=h
  rfl
 obtain ⟨rows,c,rfl,ok,q⟩:=h; simp [zaj,zab,zaf,zah,zw,zZ,tC',zaE,za9,tB',zaq,zav,zbp,zP,zaJ,zM,zbq,zad,zx,zal,zar,zbj,zbn,zbg,zag,zbh,zp,zat,zaG,zT,zS,zF,zz,zbf,zy,zas,zD,zau,zE,zO,zK,zN,zaL,zae,zbm,zU,zap,zW,zaw,xS,zax,zG,zaH,zay,zH,zt,zaA,zC,zaC,zaI,zan,zA,zao,zaF,zV,zX,zam,zaK,zu,zL,zq,zaD,zaE,zaB,zJ,zm,zaz,zr,zoZ]
 have hpos:0<rows.length:=List.length_pos_iff.mpr ok.ne
 have h40:=ok.len; have hp:=md (i:=c / 16) (n:=rows.length) hpos
 obtain ⟨k,hk⟩:∃ k:Nat,c / 16 % (rows.length:Int)=(k:Int):=⟨_,(Int.toNat_of_nonneg hp.1).symm⟩
 rw [hk] at hp ⊢
 have hkl:k<rows.length:=by omega
 have e1:zcW (List.map D.str rows) none (some (k:Int))=(rows.take k).map D.str:=by rw [zj0,List.map_take]
 have e2:zcW (List.map D.str rows) (some ((k:Int)+1)) none=(rows.drop (k+1)).map D.str:=by rw [show (k:Int)+1=((k+1:Nat):Int) by omega,zmz,List.map_drop]
 have e5:atI (List.map D.str rows) (k:Int)=some (.str rows[k]):=zdm (by rw [yL,yC hkl]; rfl)
 have hsz:rows[k].length<=200:=ok.short _ (Ye hkl)
 have eat:rows[k]?=some rows[k]:=yC hkl
 have l1:(rows.take k).length=k:=by rw [YQ]; omega
 have l2:(rows.drop (k+1)).length=rows.length-(k+1):=YK
 have hsum:∀ L:List (List Nat),(∀ r ∈ L,r ∈ rows)->(L.map (·.length)).sum<=200 * L.length:=fun L hL=>M11.sum_le fun a ha=>ok.short a (hL a ha)
 have s1:=hsum (rows.take k) fun r hr=>List.mem_of_mem_take hr
 have s2:=hsum (rows.drop (k+1)) fun r hr=>JB hr
 rw [e1,e2,e5]; generalize hrow:rows[k]=row at hsz eat; refine ⟨hpos,_,rfl,?_⟩
 have hb:∀ n:Nat,n<=1000->n<=sizeLine:=fun n h=>YZ (za4 h)
 have fin:∀ s ∈ ze8 row,s.length<=500->zkn (.lst ((rows.take k).map D.str)) (.lst [.str s]) fun o=>zkn o.toD (.lst ((rows.drop (k+1)).map D.str)) fun o=>znE (.str [10]) [o.toD] fun d=>Q (.val d):=fun s hs hl=>by
  refine zcb (b:=[s]) (by rw [ya]; omega) (zcb (by rw [yH,ya]; omega) ?_)
  refine ⟨10,_,rfl,.inl rfl,?_,q k row s eat hs⟩; simp only [YE,List.sum_append,yH,yZ,List.map_nil,yg,Ym,List.sum_cons,List.sum_nil]; omega
 have hlen:∀ s ∈ ze8 row,s.length<=500:=fun s hs=>by
  simp only [ze8,yJ,yu,or_false] at hs
  rcases hs with h | h | h | h | h | h | h | h | h | h | h | h | h | h | h | h <;> subst h <;> simp <;> omega
 simp only [zef,yH,yg,Ym]
 refine ⟨hb _ (by omega),hb _ (by omega),hb _ (by omega),hb _ (by omega),hb _ (by omega),hb _ (by omega),hb _ (by omega),hb _ (by omega),hb _ (by omega),hb _ (by omega),hb _ (by omega),hb _ (by omega),hb _ (by omega),?_⟩
 refine ⟨_,_,rfl,rfl,small (by simp),?_⟩
 have hm:=md (i:=c) (n:=16) (by decide)
 obtain ⟨d,ed,md'⟩:=zfP ((ze8 row).map D.str) hm.1 (by rw [yD]; exact hm.2)
 obtain ⟨s,hs,rfl⟩:=yT.mp md'
 have goal:zjw (.lst ((ze8 row).map D.str)) (.int (c % 16)) fun d=>zkn (.lst ((rows.take k).map D.str)) (.lst [d]) fun o=>zkn o.toD (.lst ((rows.drop (k+1)).map D.str)) fun o=>znE (.str [10]) [o.toD] fun d=>Q (.val d):=by
  rw [znH]; exact ⟨_,ed,fin s hs (hlen s hs)⟩
 have el:∀ r:List Nat,r ++ [10] ++ r=r ++ 10 :: r:=fun r=>by simp
 rw [el]; exact goal
end
def Fit:Nat->Tr->Prop
 | 0,_=>False
 | n+1,t=>t.lab.length<=12/\WS t.wds/\t.kds.length<=60/\Ris (t.kds.map Tr.lab)/\∀ k ∈ t.kds,zY k.lab=true/\Fit n k
theorem zvh {l:List Nat} (h:zY l=true):l.length<=12:=by
 obtain ⟨m,n,hm,m1,m9,ml,l12,_⟩:=zfD h; exact l12
open Classical in
theorem zmb (ns:Nd) (n:Nat) (p:Pl):((zbL ns p).map (zaR n ns)).map Tr.lab=srt (ltP (((zcB ns p).map zbH).map zde)) [] ((zcB ns p).map zbH):=by
 rw [yt]
 have e:(Tr.lab ∘ zaR n ns)=zbH:=by funext q; exact zdo n ns q
 rw [e]; unfold zbL; rw [znl,yt]; rfl
theorem zgt {ns:Nd} (o:NW ns):∀ (m n:Nat) (p:Pl),p ∈ keys ns->8<=p.length+n->9<=p.length+m->Fit m (zaR n ns p)
 | 0,n,p,hp,_,h9=>by
  have:=o.ok.len p hp
  omega
 | m+1,n,p,hp,h8,h9=>by
  have hlab:(zaR n ns p).lab.length<=12:=by
   rw [zdo]
   cases hc:p.getLast? with
   | none=>unfold zbH; rw [hc]; exact yo _
   | some l =>
    unfold zbH; rw [hc]; exact zvh (o.ok.lab p hp l (List.mem_of_getLast? hc))
  have hw:WS (zaR n ns p).wds:=by cases n <;> exact zgn o p
  cases n with
  | zero=>exact ⟨hlab,hw,yo _,.nil,fun k hk=>(nomatch hk)⟩
  | succ n =>
   have hf:∀ q ∈ zcB ns p,q ∈ keys ns/\q=p ++ [zbH q]:=fun q hq=>zfy.mp hq
   have hkl:(zcB ns p).length<=60:=by
    have h1:=List.length_filter_le (fun q:Pl=>decide (q.length=p.length+1) && decide (q.dropLast=p)) (keys ns)
    have h2:(keys ns).length<=60:=by unfold keys; rw [yD]; exact o.ok.many
    unfold zcB; omega
   have hsl:(zbL ns p).length=(zcB ns p).length:=zlb (ziH _) _ _
   refine ⟨hlab,hw,?_,?_,fun k hk=>?_⟩
   ·show ((zbL ns p).map _).length<=_
    rw [yD]; omega
   ·show Ris (((zbL ns p).map (zaR n ns)).map Tr.lab)
    rw [zmb]
    refine zle ?_ fun l hl=>?_
    ·refine zgh (o.ok.nd.sublist List.filter_sublist) fun a ha b hb e=>?_
     rw [(hf a ha).2,(hf b hb).2,e]
    ·obtain ⟨q,hq,rfl⟩:=yT.mp hl
     exact o.ok.lab q (hf q hq).1 (zbH q) (by rw [(hf q hq).2,zeL]; simp)
   ·obtain ⟨q,hq,rfl⟩:=yT.mp hk
    have hm:=zbx.mp hq; have hl:=zd1 hq
    refine ⟨?_,zgt o m n q hm.1 (by omega) (by omega)⟩
    rw [zdo]
    exact o.ok.lab q hm.1 (zbH q) (by rw [hm.2,zeL]; simp)
theorem Fit.ds:∀ {n:Nat} {t:Tr},Fit n t->Ds t
 | n+1,.node l ws ks,h=>.mk h.2.2.2.1.nodup fun k hk=>Fit.ds (h.2.2.2.2 k hk).2
theorem zit {ns:Nd} (o:NW ns):∀ (n:Nat) (p:Pl),p ∈ keys ns->8<=p.length+n->∀ r ∈ zaU (zaR n ns p) p,RowOk r
 | n,p,hp,h8=>by
  intro r hr; rw [zfn o.ok h8] at hr
  rcases yJ.mp hr with rfl | hr
  ·exact zsg o hp
  ·obtain ⟨q,hq,hr⟩:=List.mem_flatMap.mp hr
   have hl:=zd1 hq
   cases n with
   | zero=>rw [zdd o.ok (by omega)] at hq; cases hq
   | succ n=>exact zit o n q (zbx.mp hq).1 (by omega) r hr
theorem zeZ {ns:Nd} (o:NW ns):TOk (zaR 9 ns []) :=
 ⟨(zgt o 9 9 [] o.ok.nil (by decide) (by decide)).ds,by rw [zgF,zgO]; exact znb o.ok 9 o.ok.nil,zit o 9 [] o.ok.nil (by decide)⟩
theorem Fit.gt:∀ {n:Nat} {t:Tr},Fit n t->GT n t
 | 0,_,h=>h.elim
 | n+1,t,h=>⟨h.2.1.2,h.2.2.2.1,fun k hk=>⟨(h.2.2.2.2 k hk).1,Fit.gt (h.2.2.2.2 k hk).2⟩⟩
theorem zjp {ns:Nd} (o:NW ns):∀ (n:Nat) (p:Pl),p ∈ keys ns->8<=p.length+n->∀ r ∈ zaU (zaR n ns p) p,r.2.length<=4
 | n,p,hp,h8=>by
  intro r hr; rw [zfn o.ok h8] at hr
  rcases yJ.mp hr with rfl | hr
  ·exact (zgn o p).1
  ·obtain ⟨q,hq,hr⟩:=List.mem_flatMap.mp hr
   have hl:=zd1 hq
   cases n with
   | zero=>rw [zdd o.ok (by omega)] at hq; cases hq
   | succ n=>exact zjp o n q (zbx.mp hq).1 (by omega) r hr
def zcf (ns:Nd):List (List Nat):=(zaU (zaR 9 ns []) []).map zfo
theorem znw {ns:Nd} (o:NW ns) (hl:ns.length<=31):RowsOk (zcf ns)/\(zcf ns).length<=31/\∃ zba,zcf ns=zfo ([],zdM ns []) :: zba:=by
 have hin:=zit o 9 [] o.ok.nil (by decide)
 have l31:(zcf ns).length<=31:=by
  unfold zcf; rw [yD,zgF,zgO]
  have:=M04.nodup_len (zdD 9 ns []) (keys ns) (zet o.ok 9 []) fun q hq=>(zdA 9 [] q o.ok.nil hq).1
  unfold keys at this; rw [yD] at this; omega
 have hc:∃ zba,zcf ns=zfo ([],zdM ns []) :: zba:=by
  unfold zcf
  rw [zfn o.ok (by decide)]
  exact ⟨_,rfl⟩
 refine ⟨⟨?_,by omega,fun r hr=>?_,fun r hr=>?_,fun r hr=>?_⟩,l31,hc⟩
 ·obtain ⟨zba,e⟩:=hc
  rw [e]; simp
 ·obtain ⟨x,hx,rfl⟩:=yT.mp hr
  exact zo8 (hin x hx)
 ·obtain ⟨x,hx,rfl⟩:=yT.mp hr
  exact zlj (hin x hx)
 ·obtain ⟨x,hx,rfl⟩:=yT.mp hr
  rw [zhy (hin x hx),yg]
  have:=zjp o 9 [] o.ok.nil (by decide) x hx
  omega
theorem zkk {ns:Nd} (o:NW ns):zb3 (zaT 10 (zcf ns)) :=
 ⟨zaR 9 ns [],by rw [zdo]; rfl,(zgt o 9 9 [] o.ok.nil (by decide) (by decide)).gt,(zeZ o).len,(zeZ o).ok,rfl⟩
theorem zgw (c:Nat):∀ l:List Nat,(spl c l).length=l.count c+1
 | []=>by simp [spl]
 | x :: l=>by
  have ih:=zgw c l; have hne:=spl_ne c l; rw [zd9,Yb]
  by_cases z:x=c
  ·rw [yS z,yg,ih]
   simp [z]
  ·rw [yQ z,yg,List.length_tail,ih]
   have:(x == c)=false:=by simp [z]
   rw [this]; simp
def zkS (s:List Nat):Prop:=s.length<=800/\(spl 32 s).length<=7
theorem zcg {rows:List (List Nat)} (ok:RowsOk rows) {r:List Nat} (hr:r ∈ rows):zkS r:=by
 have h1:=ok.short r hr; have h2:=ok.few r hr
 exact ⟨by omega,by omega⟩
theorem zdN {x:List Nat} {L:List (List Nat)} (e:spl 10 x=L) (hl:L.length<=60) (h:∀ s ∈ L,zkS s):TextOk x:=⟨by rw [e]; exact hl,fun s hs=>h s (by rw [<- e]; exact hs)⟩
theorem zjN {L:List (List Nat)} (hl:L.length<=60) (h:∀ s ∈ L,s.length<=800):(zaT 10 L).length<=90000:=by
 have h1:=M11.sum_join 10 L; have h2:=M11.sum_le (B:=800) h; omega
theorem zho {rows L:List (List Nat)} (ok:RowsOk rows) (hl:L.length<=60) (h:∀ s ∈ L,s ∈ rows):TextOk (zaT 10 L)/\(zaT 10 L).length<=90000:=by
 refine ⟨?_,zjN hl fun s hs=>(zcg ok (h s hs)).1⟩
 by_cases z:L=[]
 ·subst z
  exact zdN (L:=[[]]) (by simp [zaT,spl]) (by decide) fun s hs=>by rw [yc.mp hs]; exact ⟨by decide,by decide⟩
 ·exact zdN (zd8 z fun a ha=>ok.no a (h a ha)) hl fun s hs=>zcg ok (h s hs)
theorem zfK {rows:List (List Nat)} (ok:RowsOk rows):∀ L:List (List Nat),(∀ s ∈ L,s ∈ rows)->L.flatMap (spl 10)=L
 | [],_=>rfl
 | a :: L,h=>by rw [List.flatMap_cons,zfK ok L fun s hs=>h s (by simp [hs]),zcD (ok.no a (h a (by simp)))]; rfl
theorem zp4 {row s:List Nat} (hno:10 ∉ row) (hl:row.length<=200) (hf:(spl 32 row).length<=5) (hs:s ∈ ze8 row):(spl 10 s).length<=2/\s.length<=500/\∀ y ∈ spl 10 s,zkS y:=by
 have hc:row.count 10=0:=List.count_eq_zero.mpr hno
 rw [zgw] at hf
 have self:∀ s:List Nat,10 ∉ s->s.length<=500->s.count 32<=6->(spl 10 s).length<=2/\s.length<=500/\∀ y ∈ spl 10 s,zkS y:=fun s h1 h2 h3=>by
  rw [zcD h1]
  refine ⟨by simp,h2,fun y hy=>?_⟩
  rw [yc.mp hy]
  exact ⟨by omega,by rw [zgw]; omega⟩
 have two:∀ a b:List Nat,10 ∉ a->10 ∉ b->a.length<=200->b.length<=200->a.count 32<=6->b.count 32<=6->(spl 10 (a ++ 10 :: b)).length<=2/\(a ++ 10 :: b).length<=500/\∀ y ∈ spl 10 (a ++ 10 :: b),zkS y:=fun a b h1 h2 h3 h4 h5 h6=>by
  rw [zcE,zcD h1,zcD h2]
  refine ⟨by simp,by simp; omega,fun y hy=>?_⟩
  rcases yU.mp hy with z | z <;> rw [yc.mp z] <;> exact ⟨by omega,by rw [zgw]; omega⟩
 simp only [ze8,yJ,yu,or_false] at hs
 rcases hs with h | h | h | h | h | h | h | h | h | h | h | h | h | h | h | h <;> subst h
 ·exact self _ (by simp [hno]) (by simp; omega) (by simp [Yb]; omega)
 ·exact self _ (by simp [hno]) (by simp; omega) (by simp [Yj,Yb]; omega)
 ·exact self _ (by simp [hno]) (by simp; omega) (by simp [Yj,Yb]; omega)
 ·exact self _ (by simp [hno]) (by simp; omega) (by simp [Yj,Yb]; omega)
 ·exact self _ (by simp [hno]) (by simp; omega) (by simp [Yj,Yb]; omega)
 ·exact self _ (by simp [hno]) (by simp; omega) (by simp [Yj,Yb]; omega)
 ·exact two _ _ hno hno hl hl (by omega) (by omega)
 ·exact self _ (by simp) (by simp) (by simp)
 ·exact self _ (by simp [hno]) (by simp; omega) (by simp [Yj,Yb]; omega)
 ·exact two _ [] hno (by simp) hl (by simp) (by omega) (by simp)
 ·exact self _ (by simp [hno]) (by simp; omega) (by simp [Yj,Yb]; omega)
 ·exact self _ (by decide) (by decide) (by decide)
 ·exact two _ _ hno (by decide) hl (by decide) (by omega) (by decide)
 ·exact self _ (by decide) (by decide) (by decide)
 ·exact self _ (by simp [hno]) (by simp; omega) (by simp [Yj,Yb]; omega)
 ·exact self _ (by decide) (by decide) (by decide)
theorem ztF {rows:List (List Nat)} (ok:RowsOk rows) {i:Nat} {row s:List Nat} (hi:rows[i]?=some row) (hs:s ∈ ze8 row) :
  TextOk (zmL (rows.take i) (rows.drop (i+1)) s)/\(zmL (rows.take i) (rows.drop (i+1)) s).length<=90000/\¬ zb3 (zmL (rows.take i) (rows.drop (i+1)) s):=by
 have hr:=yb hi; obtain ⟨h1,h2,h3⟩:=zp4 (ok.no row hr) (ok.short row hr) (ok.few row hr) hs
 have hA:∀ s ∈ rows.take i,s ∈ rows:=fun s hs=>List.mem_of_mem_take hs
 have hB:∀ s ∈ rows.drop (i+1),s ∈ rows:=fun s hs=>JB hs
 have h40:=ok.len
 have l1:(rows.take i).length<=rows.length:=by rw [YQ]; omega
 have l2:(rows.take i).length+(rows.drop (i+1)).length<=rows.length:=by rw [YQ,YK]; omega
 refine ⟨zdN (L:=rows.take i ++ spl 10 s ++ rows.drop (i+1)) ?_ (by rw [yH,yH]; omega) fun y hy=>?_,?_,ztG (ok.no row hr) hs⟩
 ·unfold zmL
  rw [ze6 10 (by simp),List.flatMap_append,List.flatMap_append,zfK ok _ hA,zfK ok _ hB]
  simp
 ·rcases yU.mp hy with z | z
  ·rcases yU.mp z with z | z
   ·exact zcg ok (hA y z)
   ·exact h3 y z
  ·exact zcg ok (hB y z)
 ·unfold zmL
  refine zjN (by rw [yH,yH,ya]; omega) fun y hy=>?_
  rcases yU.mp hy with z | z
  ·rcases yU.mp z with z | z
   ·exact (zcg ok (hA y z)).1
   ·rw [yc.mp z]; omega
  ·exact (zcg ok (hB y z)).1
theorem znd {rows zba:List (List Nat)} {r0:List Nat} (ok:RowsOk rows) (e:rows=r0 :: zba):TextOk (zaT 10 (zba ++ [r0]) ++ 10 :: r0)/\(zaT 10 (zba ++ [r0]) ++ 10 :: r0).length<=90000/\¬ zb3 (zaT 10 (zba ++ [r0]) ++ 10 :: r0):=by
 have hm:∀ s ∈ zba ++ [r0],s ∈ rows:=fun s hs=>by
  rw [e]
  rcases yU.mp hs with z | z
  ·exact yI _ z
  ·rw [yc.mp z]; exact yR
 have h0:r0 ∈ rows:=by rw [e]; exact yR
 have h40:=ok.len
 have hl:zba.length+1=rows.length:=by rw [e]; rfl
 have es:spl 10 (zaT 10 (zba ++ [r0]) ++ 10 :: r0)=zba ++ r0 :: [] ++ r0 :: []:=by
  rw [zcE,zd8 (by simp) fun a ha=>ok.no a (hm a ha),zcD (ok.no r0 h0)]
 refine ⟨zdN es (by simp; omega) fun y hy=>?_,?_,zjG (A:=zba) (B:=[]) (C:=[]) (s:=r0) es⟩
 ·refine zcg ok ?_
  rcases yU.mp hy with z | z
  ·exact hm y z
  ·rw [yc.mp z]; exact h0
 ·have h1:=M11.sum_join 10 (zba ++ [r0])
  have h2:=M11.sum_le (B:=200) (L:=zba ++ [r0]) fun a ha=>ok.short a (hm a ha)
  have h3:=ok.short r0 h0; rw [yH,yg]; rw [yH,ya] at h1 h2; omega
def chT:Nat->Tr
 | 0=>.node [51,98] [] []
 | n+1=>.node [51,98] [] [chT n]
def zi7 (n:Nat):List Nat:=zaT 46 (List.replicate (n+1) [51,98])
def zhd:List (List Nat):=[46] :: (List.range 9).map zi7
theorem zpG:∀ n,zY (chT n).lab=true/\GT (n+1) (chT n)
 | 0=>⟨by decide,by simp [chT,Tr.wds],by simp [chT,Tr.kds,Ris],by simp [chT,Tr.kds]⟩
 | n+1=>⟨by show zY [51,98]=true; decide,by simp [chT,Tr.wds],by simp [chT,Tr.kds,Ris],fun k hk=>by
   have:k=chT n:=by simpa [chT,Tr.kds] using hk
   rw [this]; exact zpG n⟩
theorem zkM:zb3 (zaT 10 (zhd.take 9)):=by
 have g:GT 9 (.node [] [] [chT 7]):=⟨by simp [Tr.wds],by simp [Tr.kds,Ris],fun k hk=>by
  have:k=chT 7:=by simpa [Tr.kds] using hk
  rw [this]; exact zpG 7⟩
 refine ⟨.node [] [] [chT 7],rfl,g,by decide +kernel,fun r hr=>?_,by decide +kernel⟩
 obtain ⟨g1,g2,g3⟩:=zg6 g (p:=[]) rfl r hr
 have hw:r.2=[]:=by
  have:∀ r ∈ zaU (.node [] [] [chT 7]) [],r.2=[]:=by decide +kernel
  exact this r hr
 rw [Ym] at g1
 exact ⟨by omega,g2,by rw [hw]; decide,by rw [hw]; simp,by rw [hw]; simp⟩
theorem zoQ:¬ zb3 (zaT 10 zhd):=fun o=>by
 have:=(ziQ o).1 (zi7 8) (by decide +kernel)
 exact yM this.len (by decide +kernel)
theorem zfr (L:List (List Nat)) (h:(L.all fun s=>decide (s.length<=800) && decide ((spl 32 s).length<=7))=true):∀ s ∈ L,zkS s:=fun s hs=>by
 have:=yY.mp h s hs
 rw [yX,yk,yk] at this; exact this
theorem zhc:TextOk (zaT 10 (zhd.take 9))/\TextOk (zaT 10 zhd)/\TextOk [] :=
 ⟨zdN rfl (by decide +kernel) (zfr _ (by decide +kernel)),zdN rfl (by decide +kernel) (zfr _ (by decide +kernel)),zdN rfl (by decide +kernel) (zfr _ (by decide +kernel))⟩
theorem zs5:¬ zb3 []:=zs4 (s:=[]) (by decide) zlZ
def zo6 (T:Cs):Sp':=ziq
theorem zni (a b:D) (Q:Res->Prop):zbs 10 [a,b] Q↔∃ ns p,(a=.dit (ndD ns)/\b=plc p)/\NOk ns/\p ∈ keys ns/\8<=p.length+9/\Q (.val (trD (zaR 9 ns p))):=by
 constructor
 ·rintro ⟨ns,p,h,r⟩
  cases h; exact ⟨ns,p,⟨rfl,rfl⟩,r⟩
 ·rintro ⟨ns,p,⟨rfl,rfl⟩,r⟩
  exact ⟨ns,p,rfl,r⟩
section
variable {P:Program} {w:World} {K:W.Frag} {mg:Str->Option Value} {base:Heap} {T:Cs}
theorem zfW:FnScope ["_law_script","_law_k"] ["_law_script","_law_k"] (zo zcL):=sc0
theorem zf1 (d:Df K mg "_law_cell_at" zcL ["_law_script","_law_k"]) (z_len:mg "len"=none):Fn P w K mg base 1 "_law_cell_at" ["_law_script","_law_k"] zbW:=by
 refine d.ok zfW (fun ds Q h=>?_) (fun f cdv A outer s H E hr ds Q h=>⟨_,(zj (zbl (zbc zvY (pv' 1) (zaa zb2 z_len YH (zc (pv' 0) zi))) (zl (zQ (za0 (i_A (zbe hr)) (pv' 0) (pv' 1)))) zaM)
  (zl (zQ zn))),?_⟩)
 ·obtain ⟨ns,k,rfl,_⟩:=h
  rfl
 obtain ⟨ns,k,rfl,h0,q⟩:=h; simp [zaj,zab,zaf,zah,zw,zZ,tC',zaE,za9,tB',zaq,zav,zbp,zP,zaJ,zM,zbq,zad,zx,zal,zar,zbj,zbn,zbg,zag,zbh,zp,zat,zaG,zT,zS,zF,zz,zbf,zy,zas,zD,zau,zE,zO,zK,zN,zaL,zae,zbm,zU,zap,zW,zaw,xS,zax,zG,zaH,zay,zH,zt,zaA,zC,zaC,zaI,zan,zA,zao,zaF,zV,zX,zam,zaK,zu,zL,zq,zaD,zaE,zaB,zJ,zm,zaz,zr]
 by_cases e:(ns.length:Int)<=k
 ·exact .inl ⟨e,q 0⟩
 ·obtain ⟨d,e1,m1⟩:=zfP (ns.map D.int) h0 (by simp; omega)
  obtain ⟨c,_,rfl⟩:=yT.mp m1
  exact .inr ⟨by omega,_,e1,q c⟩
theorem zec:FnScope ["_law_script","_law_tree_here","_law_text","_law_rows","_law_k","_law_cell","_law_other","_law_thing","_law_chain"] ["_law_script"] (zo zfi):=sc0
theorem zsW (d:Df K mg "law" zfi ["_law_script"]) (cf:CF K T) (G_shown:Fn P w K mg base 3 "shown" ["tree"] zdp) (G_law_cell_at:Fn P w K mg base 1 "_law_cell_at" ["_law_script","_law_k"] zbW) (G_law_nodes:Fn P w K mg base 3 "_law_nodes" ["_law_cells"] zcn) (G_law_tree:Fn P w K mg base 15 "_law_tree" ["_law_nodes_here","_law_place"] (zbs 10)) (G_law_refused:Fn P w K mg base 41 "_law_refused" ["_law_text"] (zbU T)) (G_law_read_so:Fn P w K mg base 41 "_law_read_so" ["_law_text"] (zbV T)) (G_law_bad:Fn P w K mg base 1 "_law_bad" ["_law_rows","_law_cell"] zdq) (G_law_turned:Fn P w K mg base 1 "_law_turned" ["_law_rows","_law_cell"] zb5) (z_len:mg "len"=none) (z_range:mg "range"=none):Fn P w K mg base 42 "law" ["_law_script"] (zo6 T):=by
 refine d.ok zec (fun ds Q h=>?_) (fun f cdv A outer s H E hr ds Q h=>⟨_,(zj (zai 1 zec.nd (za1 G_law_tree (hr.mono (by decide)) (zc (za1 G_law_nodes (hr.mono (by decide)) (zc (zbz s_A (pv' 0) (zb9 zn) (zb9 zn)) zi)) (zc (zaX zi) zi))))
  (zj (zai 2 zec.nd (za1 G_shown (hr.mono (by decide)) (zc (pv' 1) zi)))
  (zj (zai 3 zec.nd (zcr zg1 yh YY PySem.F.type_str_split (pv' 2) (zc (zR [10]) zi)))
  (zj (zbl (zbi (zbv (za1 G_law_read_so (hr.mono (by decide)) (zc (pv' 2) zi)))) (zl (zQ zcy)) zaM)
  (zj (zc5 (zkq z_range (zc zn (zc (zB zaP (zaa zb2 z_len YH (zc (zbz s_A (pv' 0) (zb9 zn) (zb9 zn)) zi)) zn) (zc zn zi)))) (zaQ 4 zec.nd)
   (zj (zai 5 zec.nd (zB zaP (zB zdc (za1 G_law_cell_at (hr.mono (by decide)) (zc (pv' 0) (zc (pv' 4) zi))) (zB zu8 zn zn)) (zB zjF zn (pv' 4))))
  (zj (zbl (zbi (zbv (za1 G_law_refused (hr.mono (by decide)) (zc (za1 G_law_bad (hr.mono (by decide)) (zc (pv' 3) (zc (pv' 5) zi))) zi)))) (zl (zQ zcy)) zaM)
  (zj (zai 6 zec.nd (zcr zeo yh YN YM (zR [10]) (zc (za1 G_law_turned (hr.mono (by decide)) (zc (pv' 3) (zc (pv' 5) zi))) zi)))
  (zl (zbl (PW'.pt (ziF (zbi (zbv (za1 G_law_read_so (hr.mono (by decide)) (zc (pv' 6) zi)))) (zgM (zbi (zbv (za1 G_law_refused (hr.mono (by decide)) (zc (pv' 6) zi))))))) (zl (zQ zcy)) zaM))))))
  (zj (zc5 (zch (za5 (zcx (zc zc9 (zc zn (zc (za5 (zcx (zc (zR [46]) zi))) (zc (zaX (zc (zR []) (zc (zaX zi) (zc (zaX zi) zi)))) (zc zcy (zc (zR []) (zc (zB zaP (zB zaP (zcr zeo yh YN YM (zR [10]) (zc (za5 (zdG zdH (zbz s_A (pv' 3) (zb9 zn) zcV) (zbz s_A (pv' 3) zcV (zb9 zn)))) zi)) (zR [10])) (za0 (i_A (zbe hr)) (pv' 3) zn)) zi)))))))))) (zaQ 7 zec.nd)
   (zl (zbl (zbi (zbv (za1 G_law_refused (hr.mono (by decide)) (zc (pv' 7) zi)))) (zl (zQ zcy)) zaM)))
  (zj (zai 8 zec.nd (za5 (zdG zdH (za5 (zcx (zc (zR [46]) zi))) (za5 (zc6 (fsc:=zo zfi) (N:=["_law_script","_law_tree_here","_law_text","_law_rows","_law_k","_law_cell","_law_other","_law_thing","_law_chain"]) (N':=["_law_k"]) (src:=[none]) (by refine ⟨rfl,?_,?_,?_,rfl,rfl⟩ <;> decide +kernel) (zeG z_range (zc zn zi)) (fun _ _ _ _ _ _=>(zaQ 0 (show (["_law_k"]:List Str).Nodup by decide +kernel))) (fun _ _ _ _ _ _=>zb7) (fun _ _ _ _ _ _=>(zcr zeo yh YN YM (zR [46]) (zc (za5 (zqr (zcx (zc (zR [51,98]) zi)) (zB zaP (pv' 0) zn))) zi))))))))
  (zj (zbl (PW'.pt (zjx (zbi (zbv (za1 G_law_read_so (hr.mono (by decide)) (zc (zcr zeo yh YN YM (zR [10]) (zc (zbz s_A (pv' 8) zcV (zb9 zn)) zi)) zi)))) (zgL (zbi (zbv (za1 G_law_refused (hr.mono (by decide)) (zc (zcr zeo yh YN YM (zR [10]) (zc (pv' 8) zi)) zi))))))) (zl (zQ zcy)) zaM)
  (zl (zQ (za1 G_law_read_so (hr.mono (by decide)) (zc (pv' 2) zi)))))))))))),?_⟩)
 ·obtain ⟨ns,rfl,_⟩:=h
  rfl
 obtain ⟨cs,rfl,hl,hq⟩:=h; simp [zaj,zab,zaf,zah,zw,zZ,tC',zaE,za9,tB',zaq,zav,zbp,zP,zaJ,zM,zbq,zad,zx,zal,zar,zbj,zbn,zbg,zag,zbh,zp,zat,zaG,zT,zS,zF,zz,zbf,zy,zas,zD,zau,zE,zO,zK,zN,zaL,zae,zbm,zU,zap,zW,zaw,xS,zax,zG,zaH,zay,zH,zt,zaA,zC,zaC,zaI,zan,zA,zao,zaF,zV,zX,zam,zaK,zu,zL,zq,zaD,zaE,zaB,zJ,zm,zaz,zr,zcn,zni]
 have ec:zcW (List.map D.int cs) (some 1) (some 31)=(zcW cs (some 1) (some 31)).map D.int:=by
  unfold zcW; rw [List.map_take,List.map_drop,yD]
 have c30:(zcW cs (some 1) (some 31)).length<=30:=by
  unfold zcW; rw [YQ,YK]
  have e1:HT.sIx cs.length 0 (some 1)=min 1 cs.length:=by unfold HT.sIx; simp
  have e2:HT.sIx cs.length cs.length (some 31)=min 31 cs.length:=by unfold HT.sIx; simp
  rw [e1,e2]; omega
 rw [ec]
 refine ⟨_,rfl,by omega,fun ns o hns=>⟨ns,[],⟨rfl,rfl⟩,o.ok,o.ok.nil,?_⟩⟩
 obtain ⟨ok,l31,zba,er⟩:=znw o (by omega)
 obtain ⟨tx,txl⟩:=zho ok (by omega) (L:=zcf ns) (fun s hs=>hs)
 have hot:=zkk o; refine ⟨zaR 9 ns [],rfl,zeZ o,?_⟩
 show tyD "str" (.str (zaT 10 (zcf ns)))/\zo9 (.str (zaT 10 (zcf ns))) _ _
 refine ⟨rfl,_,10,rfl,rfl,zex (by omega),?_⟩
 rw [show spl 10 (zaT 10 (zcf ns))=zcf ns from zdO (zeZ o).ok]
 refine ⟨_,rfl,tx,txl,fun b hb=>.inr ⟨by rw [hb.mpr hot]; rfl,⟨by rw [yD]; omega,by rw [yD]; omega⟩,?_⟩⟩
 refine zgk (fun i Γ=>∃ s4 s5 s6,Γ=[.val (.lst (cs.map .int)),.val (trD (zaR 9 ns [])),.val (.str (zaT 10 (zcf ns))),.val (.lst ((zcf ns).map .str)),s4,s5,s6,.emp,.emp]) ⟨_,_,_,rfl⟩ ?_ ?_
 ·rintro i d Γ hd ⟨s4,s5,s6,rfl⟩
  obtain ⟨k,rfl,hk⟩:∃ k:Int,d=.int k/\0<=k:=by
   obtain ⟨k,_,rfl⟩:=yT.mp (yb hd)
   exact ⟨_,rfl,by omega⟩
  simp [zaj,zab,zaf,zah,zw,zZ,tC',zaE,za9,tB',zaq,zav,zbp,zP,zaJ,zM,zbq,zad,zx,zal,zar,zbj,zbn,zbg,zag,zbh,zp,zat,zaG,zT,zS,zF,zz,zbf,zy,zas,zD,zau,zE,zO,zK,zN,zaL,zae,zbm,zU,zap,zW,zaw,xS,zax,zG,zaH,zay,zH,zt,zaA,zC,zaC,zaI,zan,zA,zao,zaF,zV,zX,zam,zaK,zu,zL,zq,zaD,zaE,zaB,zJ,zm,zaz,zr]
  refine ⟨cs,k,rfl,hk,fun c=>⟨by simp [zvK],?_⟩⟩
  refine ⟨c,1000000000,rfl,rfl,(show (0:Int)<1000000000 by decide),.inl ⟨by decide,by decide⟩,?_⟩
  show zfp (.int (c % 1000000000)) (.int (5 * k)) _
  rw [zlu]
  refine ⟨zcf ns,_,rfl,ok,fun j row s hj hs=>?_⟩
  obtain ⟨b1,b2,b3⟩:=ztF ok hj hs; refine ⟨_,rfl,.inl ⟨_,rfl,b1,b2,b3⟩,.inr ⟨rfl,?_⟩⟩
  refine ⟨zcf ns,_,rfl,ok,fun rows' l40 hm=>?_⟩
  obtain ⟨t1,t2⟩:=zho ok (by omega) hm
  refine ⟨10,rows',rfl,.inl rfl,?_,?_⟩
  ·have h2:=M11.sum_le (B:=200) (L:=rows') fun a ha=>ok.short a (hm a ha)
   omega
  refine ⟨_,rfl,t1,t2,fun b hb=>?_⟩
  cases b with
  | false=>exact .inl ⟨rfl,_,rfl,.inl ⟨_,rfl,t1,t2,fun z=>by cases hb.mpr z⟩,.inr rfl⟩
  | true=>exact .inr rfl
 ·rintro Γ ⟨s4,s5,s6,rfl⟩
  simp [zaj,zab,zaf,zah,zw,zZ,tC',zaE,za9,tB',zaq,zav,zbp,zP,zaJ,zM,zbq,zad,zx,zal,zar,zbj,zbn,zbg,zag,zbh,zp,zat,zaG,zT,zS,zF,zz,zbf,zy,zas,zD,zau,zE,zO,zK,zN,zaL,zae,zbm,zU,zap,zW,zaw,xS,zax,zG,zaH,zay,zH,zt,zaA,zC,zaC,zaI,zan,zA,zao,zaF,zV,zX,zam,zaK,zu,zL,zq,zaD,zaE,zaB,zJ,zm,zaz,zr]
  have h0:zfo ([],zdM ns []) ∈ zcf ns:=by rw [er]; exact yR
  have hr0:=ok.short _ h0; generalize zfo ([],zdM ns [])=r0 at er h0 hr0; obtain ⟨w1,w2,w3⟩:=znd ok er
  have e1:zcW (List.map D.str (zcf ns)) (some 1) none=zba.map D.str:=by
   rw [zvv,er]; rfl
  have e2:zcW (List.map D.str (zcf ns)) none (some 1)=[r0].map D.str:=by
   rw [show (1:Int)=((1:Nat):Int) from rfl,zj0,er]
   rfl
  have e3:atI (List.map D.str (zcf ns)) 0=some (.str r0):=by rw [er]; exact zvF _ _
  have hrl:zba.length<=30:=by
   have:=l31
   rw [er,yg] at this; omega
  have hrm:∀ a ∈ zba ++ [r0],a.length<=200:=fun a ha=>ok.short a (by
   rw [er]
   rcases yU.mp ha with z | z
   ·exact yI _ z
   ·rw [yc.mp z]; exact yR)
  have hs:=M11.sum_le (B:=200) hrm; have hj:=M11.sum_join 10 (zba ++ [r0]); rw [yH,ya] at hs hj; rw [e1,e2,e3]
  refine zcb (by rw [ya]; omega) ?_
  refine ⟨10,zba ++ [r0],rfl,.inl rfl,by rw [yH,ya]; omega,?_⟩
  refine (zef _ _).mpr ⟨zex (by rw [ya]; omega),_,rfl,?_⟩
  refine (zef _ _).mpr ⟨zex (by rw [yH,ya]; omega),small (by decide),?_⟩
  rw [Yk]
  have hR:∀ d ∈ [D.non,D.int 1,D.lst [D.str [46]],D.tup [D.str [],plc [],plc []],D.bl true,D.str [],D.str (zaT 10 (zba ++ [r0]) ++ ([10] ++ r0))],(∃ x,d=.str x/\TextOk x/\x.length<=90000/\¬ zb3 x)\/zfR d:=fun d hd=>by
   simp only [yJ,yu,or_false] at hd
   rcases hd with rfl | rfl | rfl | rfl | rfl | rfl | rfl
   ·exact .inr ⟨"NoneType",rfl,by simp⟩
   ·exact .inr ⟨"int",rfl,by simp⟩
   ·exact .inr ⟨"list",rfl,by simp⟩
   ·exact .inr ⟨"tuple",rfl,by simp⟩
   ·exact .inr ⟨"bool",rfl,by simp⟩
   ·exact .inl ⟨[],rfl,zhc.2.2,by decide,zs5⟩
   ·exact .inl ⟨_,rfl,w1,w2,w3⟩
  refine zgk (fun i Γ=>∃ s4 s5 s6 s7,Γ=[.val (.lst (cs.map .int)),.val (trD (zaR 9 ns [])),.val (.str (zaT 10 (zcf ns))),.val (.lst ((zcf ns).map .str)),s4,s5,s6,s7,.emp]) ⟨_,_,_,_,rfl⟩ ?_ ?_
  ·rintro i d Γ hd ⟨s4,s5,s6,s7,rfl⟩
   simp [zaj,zab,zaf,zah,zw,zZ,tC',zaE,za9,tB',zaq,zav,zbp,zP,zaJ,zM,zbq,zad,zx,zal,zar,zbj,zbn,zbg,zag,zbh,zp,zat,zaG,zT,zS,zF,zz,zbf,zy,zas,zD,zau,zE,zO,zK,zN,zaL,zae,zbm,zU,zap,zW,zaw,xS,zax,zG,zaH,zay,zH,zt,zaA,zC,zaC,zaI,zan,zA,zao,zaF,zV,zX,zam,zaK,zu,zL,zq,zaD,zaE,zaB,zJ,zm,zaz,zr]
   exact ⟨d,rfl,hR d (yb hd),by simp⟩
  ·rintro Γ ⟨s4,s5,s6,s7,rfl⟩
   simp [zaj,zab,zaf,zah,zw,zZ,tC',zaE,za9,tB',zaq,zav,zbp,zP,zaJ,zM,zbq,zad,zx,zal,zar,zbj,zbn,zbg,zag,zbh,zp,zat,zaG,zT,zS,zF,zz,zbf,zy,zas,zD,zau,zE,zO,zK,zN,zaL,zae,zbm,zU,zap,zW,zaw,xS,zax,zG,zaH,zay,zH,zt,zaA,zC,zaC,zaI,zan,zA,zao,zaF,zV,zX,zam,zaK,zu,zL,zq,zaD,zaE,zaB,zJ,zm,zaz,zr]
   have hch:∀ n:Nat,List.map D.str (List.map zi7 (List.range (n+1)))=List.map D.str (List.map zi7 (List.range n)) ++ [.str (zi7 n)]:=fun n=>by rw [List.range_succ,YE,YE]; rfl
   refine ⟨by have:=sizeLine_eq; omega,zcR (fun i acc Γ=>∃ s0,acc=((List.range i).map zi7).map D.str/\Γ=[s0]) ⟨.emp,rfl,rfl⟩ ?_ ?_⟩
   ·rintro i d acc Γ hd ⟨s0,rfl,rfl⟩
    have hi:i<9:=by simpa using (yF.mp hd).1
    rw [yL,List.getElem?_range hi] at hd; cases hd; rw [hch]; simp [zaj,zab,zaf,zah,zw,zZ,tC',zaE,za9,tB',zaq,zav,zbp,zP,zaJ,zM,zbq,zad,zx,zal,zar,zbj,zbn,zbg,zag,zbh,zp,zat,zaG,zT,zS,zF,zz,zbf,zy,zas,zD,zau,zE,zO,zK,zN,zaL,zae,zbm,zU,zap,zW,zaw,xS,zax,zG,zaH,zay,zH,zt,zaA,zC,zaC,zaI,zan,zA,zao,zaF,zV,zX,zam,zaK,zu,zL,zq,zaD,zaE,zaB,zJ,zm,zaz,zr]
    refine ⟨by omega,by omega,small (by omega),?_⟩
    refine ⟨46,List.replicate (i+1) [51,98],rfl,.inl ?_,?_,?_⟩
    ·rw [List.map_replicate]
    ·simp
     omega
    ·rfl
   ·rintro acc Γ ⟨s0,rfl,rfl⟩
    have hlen:(List.map (fun k:Nat=>D.int (k:Int)) (List.range 9)).length=9:=by simp
    rw [hlen]
    refine zcb (a:=[[46]]) (b:=(List.range 9).map zi7) (by decide) ?_
    show zju (.lst (zhd.map D.str)) none (some 9) _
    refine (znB _ _ _).mpr ?_
    have e9:zcW (zhd.map D.str) none (some 9)=(zhd.take 9).map D.str:=by rw [show (9:Int)=((9:Nat):Int) from rfl,zj0,List.map_take]
    rw [e9]
    refine ⟨10,zhd.take 9,rfl,.inl rfl,by decide +kernel,?_⟩
    refine ⟨_,rfl,zhc.1,by decide +kernel,fun b hb=>.inr ⟨by rw [hb.mpr zkM]; rfl,?_⟩⟩
    refine ⟨10,zhd,rfl,.inl rfl,by decide +kernel,?_⟩
    refine ⟨_,rfl,.inl ⟨_,rfl,zhc.2.1,by decide +kernel,zoQ⟩,.inr ⟨rfl,?_⟩⟩
    refine ⟨_,rfl,tx,txl,fun b hb=>?_⟩
    rw [hb.mpr hot]; exact hq
end
end K13
namespace PL
open PySem L2
theorem ar1 {A B C D E F:Sort _} {p:A->B->C->D->E->F->List Value->Prop} (h:∀ a b c d e f x0,p a b c d e f [x0]):∀ a b c d e f us,us.length=1->p a b c d e f us:=fun a b c d e f us hl=>match us,hl with | [x0],_=>h a b c d e f x0
theorem ar2 {A B C D E F:Sort _} {p:A->B->C->D->E->F->List Value->Prop} (h:∀ a b c d e f x0 x1,p a b c d e f [x0,x1]):∀ a b c d e f us,us.length=2->p a b c d e f us:=fun a b c d e f us hl=>match us,hl with | [x0,x1],_=>h a b c d e f x0 x1
def Dn (K:W.Frag) (x:Str) (st:Stmt):Prop:=∃ f fd,Fun K x x st f fd/\W.nsIn K mainGlobals x=some (some (.ref f))
section
variable {K:W.Frag} {x:Str} {st:Stmt}
theorem Dn.mk {f:Addr} {oc:Value} {od an:Option Addr} {osl:Array (Option Value)} {kV doc pm cdv ct:Value} (a:W.nsIn K mainGlobals x=some (some (.ref f))) (l:K.lookup f=some ⟨oc,od,.func (W.fnOf x x (zdj st) (zbT st) (zo st) .none kV doc pm an cdv ct),osl⟩) (c:W.codeIn K cdv x=true) (k:W.keepIn K (.ref f)=true):Dn K x st:=⟨f,_,zpA l c k,a⟩
theorem Dn.df {h:Heap} {mg:Str->Option Value} (D:Dn K x st) (X:K.In h) (G:h.Ns mainGlobals mg) (ps:List Str) (hb:∀ (kV doc pm:Value) (an:Option Addr) (cdv ct:Value) (us:List Value),us.length=ps.length->bindArgs (W.fnOf x x (zdj st) (zbT st) (zo st) .none kV doc pm an cdv ct) ⟨us,[]⟩=pure (ps.zip us)):Df K mg x st ps:=by
 obtain ⟨f,fd,F,a⟩:=D; exact ⟨f,fd,F,F.binds hb,W.mg_of X G a⟩
end
end PL
namespace K13
open PySem L2 Lb PL MT M04 MS M70 M11 M12
section
variable {P:Program} {w:World} {K:W.Frag} {mg:Str->Option Value} {base:Heap}
end
theorem all_mk {l:W.OpenLaw} {w:World} {K:W.Frag} {h:Heap} {mg:Str->Option Value} {fa f37  :Addr} (X:K.In h) (G:h.Ns mainGlobals mg) (hfa:mg "law"=some (.ref fa))
  {C_MendError C_NoPlace C_NoText C_NoFit C_NoName C_Twice C_NoDay C_NoAct C_NoRow N_MendError N_NoText:Addr}
  {nm_MendError qn_MendError:Str} {bs_MendError bm_MendError sb_MendError:List Value} {hd_MendError ab_MendError:Bool} {sn_MendError:List Str} {co_MendError:Option Bool} {dd_MendError:Option Addr} {ka_MendError kb_MendError kc_MendError kd_MendError ke_MendError:Option Value} {ni_MendError:String} {cn_MendError:Value} {dn_MendError:Option Addr} {es_MendError:Array DictEntry} {ep_MendError:Nat} {sk_MendError:Array (Option Value)}
  {nm_NoText qn_NoText:Str} {bs_NoText bm_NoText sb_NoText:List Value} {hd_NoText ab_NoText:Bool} {sn_NoText:List Str} {co_NoText:Option Bool} {dd_NoText:Option Addr} {ka_NoText kb_NoText kc_NoText kd_NoText ke_NoText:Option Value} {ni_NoText:String} {cn_NoText:Value} {dn_NoText:Option Addr} {es_NoText:Array DictEntry} {ep_NoText:Nat} {sk_NoText:Array (Option Value)}
  {od37 an37:Option Addr} {sl37:Array (Option Value)} {oc37 kV37 dc37 pm37 cd37 ct37:Value}
  {x1:Str} {t1:Tok} {x2:Int} {t2:Tok} {x3:Int} {t3:Tok} {x4:Int} {t4:Tok} {x5:Int} {t5:Tok} {x6:Str} {t6:Tok} {x7:Str} {t7:Tok}
  (D1:Dn K "figures_of" zc4)
  (D2:Dn K "has_only" zdv)
  (D3:Dn K "is_triple" zdT)
  (D4:Dn K "kid_with" zeC)
  (D5:Dn K "places" zgD)
  (D6:Dn K "place_text" zc1)
  (D7:Dn K "tree_of_rows" zcs)
  (D8:Dn K "labels_in" zdS)
  (D9:Dn K "_law_cell_at" zcL)
  (D10:Dn K "_law_label" zdR)
  (D11:Dn K "_law_word" zeB)
  (D12:Dn K "_law_key" zfg)
  (D13:Dn K "_law_bad" zfh)
  (D14:Dn K "_law_turned" zc2)
  (D15:Dn K "is_word" zfj)
  (D16:Dn K "label_rank" zc3)
  (D17:Dn K "is_label_number" zbR)
  (D18:Dn K "node_at" zff)
  (D19:Dn K "row_text" zeA)
  (D20:Dn K "row_parts" zdP)
  (D21:Dn K "_law_words" zcI)
  (D22:Dn K "is_label" zeD)
  (D23:Dn K "label_before" zct)
  (D24:Dn K "are_words" zcM)
  (D25:Dn K "shown" zgC)
  (D26:Dn K "_law_nodes" zdQ)
  (D27:Dn K "are_rising" zcq)
  (D28:Dn K "_law_kids" zdu)
  (D29:Dn K "_law_tree" zdt)
  (D30:Dn K "is_node" zfl)
  (D31:Dn K "has_good_parts" zb1)
  (D32:Dn K "are_kids" zdw)
  (D33:Dn K "is_tree" zfk)
  (D34:Dn K "read" zjl)
  (D35:Dn K "_law_refused" zcJ)
  (D36:Dn K "_law_read_so" zcK)
  (a37:W.nsIn K mainGlobals "law"=some (some (.ref f37)))
  (l37:K.lookup f37=some ⟨oc37,od37,.func (W.fnOf "law" "law" (zdj zfi) (zbT zfi) (zo zfi) .none kV37 dc37 pm37 an37 cd37 ct37),sl37⟩)
  (c37:W.codeIn K cd37 "law"=true)
  (k37:W.keepIn K (.ref f37)=true)
  (z1:W.nsIn K mainGlobals "ValueError"=some none)
  (z2:W.nsIn K mainGlobals "all"=some none)
  (z3:W.nsIn K mainGlobals "int"=some none)
  (z4:W.nsIn K mainGlobals "isinstance"=some none)
  (z5:W.nsIn K mainGlobals "len"=some none)
  (z6:W.nsIn K mainGlobals "list"=some none)
  (z7:W.nsIn K mainGlobals "range"=some none)
  (z8:W.nsIn K mainGlobals "reversed"=some none)
  (z9:W.nsIn K mainGlobals "sorted"=some none)
  (z10:W.nsIn K mainGlobals "str"=some none)
  (z11:W.nsIn K mainGlobals "tuple"=some none)
  (z12:W.nsIn K mainGlobals "zip"=some none)
  (g1:W.nsIn K mainGlobals "FIGURES"=some (some (.str x1 t1)))
  (e1:x1=st zrR)
  (g2:W.nsIn K mainGlobals "LONGEST_WORD"=some (some (.int x2 t2)))
  (e2:x2=12)
  (g3:W.nsIn K mainGlobals "MOST_DEEP"=some (some (.int x3 t3)))
  (e3:x3=9)
  (g4:W.nsIn K mainGlobals "MOST_FIGURES"=some (some (.int x4 t4)))
  (e4:x4=9)
  (g5:W.nsIn K mainGlobals "MOST_LETTERS"=some (some (.int x5 t5)))
  (e5:x5=3)
  (g6:W.nsIn K mainGlobals "SMALL_LETTERS"=some (some (.str x6 t6)))
  (e6:x6=st zs8)
  (g7:W.nsIn K mainGlobals "WORD_SIGNS"=some (some (.str x7 t7)))
  (e7:x7=st wsg)
  (aC_MendError:W.nsIn K mainGlobals "MendError"=some (some (.ref C_MendError)))
  (hdC_MendError:W.hasDictIn K C_MendError=true)
  (ty_MendError:W.typeIn K (.ref C_MendError)=some (.type "type"))
  (aC_NoPlace:W.nsIn K mainGlobals "NoPlace"=some (some (.ref C_NoPlace)))
  (hdC_NoPlace:W.hasDictIn K C_NoPlace=true)
  (ty_NoPlace:W.typeIn K (.ref C_NoPlace)=some (.type "type"))
  (aC_NoText:W.nsIn K mainGlobals "NoText"=some (some (.ref C_NoText)))
  (hdC_NoText:W.hasDictIn K C_NoText=true)
  (ty_NoText:W.typeIn K (.ref C_NoText)=some (.type "type"))
  (aC_NoFit:W.nsIn K mainGlobals "NoFit"=some (some (.ref C_NoFit)))
  (hdC_NoFit:W.hasDictIn K C_NoFit=true)
  (ty_NoFit:W.typeIn K (.ref C_NoFit)=some (.type "type"))
  (aC_NoName:W.nsIn K mainGlobals "NoName"=some (some (.ref C_NoName)))
  (hdC_NoName:W.hasDictIn K C_NoName=true)
  (ty_NoName:W.typeIn K (.ref C_NoName)=some (.type "type"))
  (aC_Twice:W.nsIn K mainGlobals "Twice"=some (some (.ref C_Twice)))
  (hdC_Twice:W.hasDictIn K C_Twice=true)
  (ty_Twice:W.typeIn K (.ref C_Twice)=some (.type "type"))
  (aC_NoDay:W.nsIn K mainGlobals "NoDay"=some (some (.ref C_NoDay)))
  (hdC_NoDay:W.hasDictIn K C_NoDay=true)
  (ty_NoDay:W.typeIn K (.ref C_NoDay)=some (.type "type"))
  (aC_NoAct:W.nsIn K mainGlobals "NoAct"=some (some (.ref C_NoAct)))
  (hdC_NoAct:W.hasDictIn K C_NoAct=true)
  (ty_NoAct:W.typeIn K (.ref C_NoAct)=some (.type "type"))
  (aC_NoRow:W.nsIn K mainGlobals "NoRow"=some (some (.ref C_NoRow)))
  (hdC_NoRow:W.hasDictIn K C_NoRow=true)
  (ty_NoRow:W.typeIn K (.ref C_NoRow)=some (.type "type"))
  (bC_MendError:K.lookup C_MendError=some (excClassObj nm_MendError qn_MendError C_MendError N_MendError bs_MendError bm_MendError hd_MendError sn_MendError sb_MendError ab_MendError co_MendError dd_MendError ka_MendError kb_MendError kc_MendError kd_MendError ke_MendError ni_MendError))
  (lN_MendError:K.lookup N_MendError=some ⟨cn_MendError,dn_MendError,.dict es_MendError ep_MendError,sk_MendError⟩)
  (sB_MendError:skB es_MendError=true)
  (kC_MendError:W.keepIn K (.ref C_MendError)=true)
  (bC_NoText:K.lookup C_NoText=some (excClassObj nm_NoText qn_NoText C_NoText N_NoText bs_NoText bm_NoText hd_NoText sn_NoText sb_NoText ab_NoText co_NoText dd_NoText ka_NoText kb_NoText kc_NoText kd_NoText ke_NoText ni_NoText))
  (lN_NoText:K.lookup N_NoText=some ⟨cn_NoText,dn_NoText,.dict es_NoText ep_NoText,sk_NoText⟩)
  (sB_NoText:skB es_NoText=true)
  (kC_NoText:W.keepIn K (.ref C_NoText)=true)
  (iB:W.nsIn K N_MendError "__init__"=some none)
  (iN:W.nsIn K N_NoText "__init__"=some none)
  (hn:W.specialIn K (.builtin "object.__class__") "__get__"=some (some (.builtin "getset_descriptor.__get__")))
  (htk:W.takesIn K (.builtin "object.__class__")=some true)
  (eb_NoText:bm_NoText=.ref C_MendError :: vbm)
  (en_NoText:ni_NoText="ValueError.__new__")
  (ga_NoText:W.findIn K (.ref C_NoText) "__getattribute__"=some (some (.builtin "BaseException.__getattribute__")))
  (gr_NoText:W.findIn K (.ref C_NoText) "__getattr__"=some none)
  (mb_NoText:W.mroIn K C_NoText (.type "BaseException")=some true)
  (ha_NoText:W.findIn K (.ref C_NoText) "__class__"=some (some (.builtin "object.__class__")))
  (hm_NoText:W.mroIn K C_NoText (.type "object")=some true)
  (mM:W.mroIn K C_NoText (.ref C_MendError)=some true)
  (mN:W.mroIn K C_NoText (.ref C_NoText)=some true)
  (mbM:W.mroIn K C_MendError (.type "BaseException")=some true)
  (mV:W.mroIn K C_NoText (.type "ValueError")=some true)
  (q_NoAct:W.mroIn K C_NoText (.ref C_NoAct)=some false)
  (r_NoAct:(Value.ref C_NoText == Value.ref C_NoAct)=false)
  (q_NoDay:W.mroIn K C_NoText (.ref C_NoDay)=some false)
  (r_NoDay:(Value.ref C_NoText == Value.ref C_NoDay)=false)
  (q_NoFit:W.mroIn K C_NoText (.ref C_NoFit)=some false)
  (r_NoFit:(Value.ref C_NoText == Value.ref C_NoFit)=false)
  (q_NoName:W.mroIn K C_NoText (.ref C_NoName)=some false)
  (r_NoName:(Value.ref C_NoText == Value.ref C_NoName)=false)
  (q_NoPlace:W.mroIn K C_NoText (.ref C_NoPlace)=some false)
  (r_NoPlace:(Value.ref C_NoText == Value.ref C_NoPlace)=false)
  (q_NoRow:W.mroIn K C_NoText (.ref C_NoRow)=some false)
  (r_NoRow:(Value.ref C_NoText == Value.ref C_NoRow)=false)
  (q_Twice:W.mroIn K C_NoText (.ref C_Twice)=some false)
  (r_Twice:(Value.ref C_NoText == Value.ref C_Twice)=false)
  :
  ∃ fd:FuncData,(∀ (s:Shared) (v:Value),BindsTo s fd ⟨[v],[]⟩ [("_law_script",v)])/\∀ base:Heap,K.In base->base.Ns mainGlobals mg->FnOk l.prog w K mg base CX0 42 fa fd ["_law_script"] (zno K ziq):=by
 subst e1; subst e2; subst e3; subst e4; subst e5; subst e6; subst e7
 have d1:=D1.df X G ["label"] <| ar1 fun _ _ _ _ _ _ _=>rfl
 have d2:=D2.df X G ["text","signs"] <| ar2 fun _ _ _ _ _ _ _ _=>rfl
 have d3:=D3.df X G ["thing"] <| ar1 fun _ _ _ _ _ _ _=>rfl
 have d4:=D4.df X G ["node","label"] <| ar2 fun _ _ _ _ _ _ _ _=>rfl
 have d5:=D5.df X G ["tree"] <| ar1 fun _ _ _ _ _ _ _=>rfl
 have d6:=D6.df X G ["place"] <| ar1 fun _ _ _ _ _ _ _=>rfl
 have d7:=D7.df X G ["rows"] <| ar1 fun _ _ _ _ _ _ _=>rfl
 have d8:=D8.df X G ["text"] <| ar1 fun _ _ _ _ _ _ _=>rfl
 have d9:=D9.df X G ["_law_script","_law_k"] <| ar2 fun _ _ _ _ _ _ _ _=>rfl
 have d10:=D10.df X G ["_law_cell"] <| ar1 fun _ _ _ _ _ _ _=>rfl
 have d11:=D11.df X G ["_law_cell"] <| ar1 fun _ _ _ _ _ _ _=>rfl
 have d12:=D12.df X G ["_law_label_here"] <| ar1 fun _ _ _ _ _ _ _=>rfl
 have d13:=D13.df X G ["_law_rows","_law_cell"] <| ar2 fun _ _ _ _ _ _ _ _=>rfl
 have d14:=D14.df X G ["_law_rows","_law_cell"] <| ar2 fun _ _ _ _ _ _ _ _=>rfl
 have d15:=D15.df X G ["thing"] <| ar1 fun _ _ _ _ _ _ _=>rfl
 have d16:=D16.df X G ["label"] <| ar1 fun _ _ _ _ _ _ _=>rfl
 have d17:=D17.df X G ["text"] <| ar1 fun _ _ _ _ _ _ _=>rfl
 have d18:=D18.df X G ["tree","place"] <| ar2 fun _ _ _ _ _ _ _ _=>rfl
 have d19:=D19.df X G ["place","words"] <| ar2 fun _ _ _ _ _ _ _ _=>rfl
 have d20:=D20.df X G ["row"] <| ar1 fun _ _ _ _ _ _ _=>rfl
 have d21:=D21.df X G ["_law_cell"] <| ar1 fun _ _ _ _ _ _ _=>rfl
 have d22:=D22.df X G ["thing"] <| ar1 fun _ _ _ _ _ _ _=>rfl
 have d23:=D23.df X G ["one","other"] <| ar2 fun _ _ _ _ _ _ _ _=>rfl
 have d24:=D24.df X G ["thing"] <| ar1 fun _ _ _ _ _ _ _=>rfl
 have d25:=D25.df X G ["tree"] <| ar1 fun _ _ _ _ _ _ _=>rfl
 have d26:=D26.df X G ["_law_cells"] <| ar1 fun _ _ _ _ _ _ _=>rfl
 have d27:=D27.df X G ["labels"] <| ar1 fun _ _ _ _ _ _ _=>rfl
 have d28:=D28.df X G ["_law_nodes_here","_law_place"] <| ar2 fun _ _ _ _ _ _ _ _=>rfl
 have d29:=D29.df X G ["_law_nodes_here","_law_place"] <| ar2 fun _ _ _ _ _ _ _ _=>rfl
 have d30:=D30.df X G ["thing","levels"] <| ar2 fun _ _ _ _ _ _ _ _=>rfl
 have d31:=D31.df X G ["node","levels"] <| ar2 fun _ _ _ _ _ _ _ _=>rfl
 have d32:=D32.df X G ["thing","levels"] <| ar2 fun _ _ _ _ _ _ _ _=>rfl
 have d33:=D33.df X G ["thing"] <| ar1 fun _ _ _ _ _ _ _=>rfl
 have d34:=D34.df X G ["text"] <| ar1 fun _ _ _ _ _ _ _=>rfl
 have d35:=D35.df X G ["_law_text"] <| ar1 fun _ _ _ _ _ _ _=>rfl
 have d36:=D36.df X G ["_law_text"] <| ar1 fun _ _ _ _ _ _ _=>rfl
 have F37:=zpA (st:=zfi) l37 c37 k37; have m37:=W.mg_of X G a37
 have b37:=F37.binds (ps:=["_law_script"]) <| ar1 fun _ _ _ _ _ _ _=>rfl
 have d37:Df K mg "law" zfi ["_law_script"]:=⟨f37,_,F37,b37,m37⟩
 have z_ValueError:=W.mg_none_of X G z1; have z_all:=W.mg_none_of X G z2; have z_int:=W.mg_none_of X G z3; have z_isinstance:=W.mg_none_of X G z4; have z_len:=W.mg_none_of X G z5; have z_list:=W.mg_none_of X G z6; have z_range:=W.mg_none_of X G z7; have z_reversed:=W.mg_none_of X G z8; have z_sorted:=W.mg_none_of X G z9; have z_str:=W.mg_none_of X G z10; have z_tuple:=W.mg_none_of X G z11; have z_zip:=W.mg_none_of X G z12; have g_FIGURES:=W.mg_of X G g1; have g_LONGEST_WORD:=W.mg_of X G g2; have g_MOST_DEEP:=W.mg_of X G g3; have g_MOST_FIGURES:=W.mg_of X G g4; have g_MOST_LETTERS:=W.mg_of X G g5; have g_SMALL_LETTERS:=W.mg_of X G g6; have g_WORD_SIGNS:=W.mg_of X G g7
 subst eb_NoText en_NoText
 have m_MendError:=W.mg_of X G aC_MendError; have m_NoPlace:=W.mg_of X G aC_NoPlace; have m_NoText:=W.mg_of X G aC_NoText; have m_NoFit:=W.mg_of X G aC_NoFit; have m_NoName:=W.mg_of X G aC_NoName; have m_Twice:=W.mg_of X G aC_Twice; have m_NoDay:=W.mg_of X G aC_NoDay; have m_NoAct:=W.mg_of X G aC_NoAct; have m_NoRow:=W.mg_of X G aC_NoRow; have xcl_NoText:=zrZ bC_NoText bC_MendError lN_MendError sB_MendError iB kC_NoText
 have xno_NoText:XNo K N_NoText:=⟨fun h X=>⟨_,zlV lN_NoText sB_NoText X,zpi lN_NoText iN⟩⟩
 have xget_NoText:X1.XGet K C_NoText:=⟨ga_NoText,gr_NoText,mb_NoText⟩
 have xis_NoText:X1.XIs K C_NoText:=⟨xget_NoText,zj1 hdC_NoText,ha_NoText,hn,htk,hm_NoText⟩
 have Z_NoText:Xc0 K mg "NoText" C_NoText:=⟨N_NoText,_,xcl_NoText,xno_NoText,m_NoText⟩
 have cf:CF K ⟨C_MendError,C_NoPlace,C_NoText,C_NoFit,C_NoName,C_Twice,C_NoDay,C_NoAct,C_NoRow⟩:=⟨xis_NoText,zpB hdC_MendError ty_MendError mbM mM,zpB hdC_NoText ty_NoText mb_NoText mN,zor,zte rfl mV,zck (zd0 hdC_NoAct ty_NoAct q_NoAct (.inr r_NoAct)) (zck (zd0 hdC_NoDay ty_NoDay q_NoDay (.inr r_NoDay)) (zck (zd0 hdC_NoFit ty_NoFit q_NoFit (.inr r_NoFit)) (zck (zd0 hdC_NoName ty_NoName q_NoName (.inr r_NoName)) (zck (zd0 hdC_NoPlace ty_NoPlace q_NoPlace (.inr r_NoPlace)) (zck (zd0 hdC_NoRow ty_NoRow q_NoRow (.inr r_NoRow)) (zck (zd0 hdC_Twice ty_Twice q_Twice (.inr r_Twice)) (rfl)))))))⟩
 have e:=hfa.symm.trans m37; cases e
 refine ⟨W.fnOf "law" "law" (zdj zfi) (zbT zfi) (zo zfi) .none kV37 dc37 pm37 an37 cd37 ct37,fun s v=>.of_eq rfl,fun base _ _=>?_⟩
 have G_figures_of:Fn l.prog w K mg base 1 "figures_of" ["label"] zbw:=zgV d1 g_SMALL_LETTERS
 have G_has_only:Fn l.prog w K mg base 1 "has_only" ["text","signs"] zbP:=ziO d2 z_all
 have G_is_triple:Fn l.prog w K mg base 1 "is_triple" ["thing"] zcp:=zhP d3 z_isinstance z_len z_tuple
 have G_kid_with:Fn l.prog w K mg base 1 "kid_with" ["node","label"] zbO:=ziM d4 
 have G_places:Fn l.prog w K mg base 1 "places" ["tree"] zea:=zlQ d5 z_len z_reversed
 have G_place_text:Fn l.prog w K mg base 1 "place_text" ["place"] zb4:=zgR d6 
 have G_tree_of_rows:Fn l.prog w K mg base 1 "tree_of_rows" ["rows"] zbr:=zfu d7 z_reversed z_tuple
 have G_labels_in:Fn l.prog w K mg base 1 "labels_in" ["text"] zco:=zhO d8 z_tuple
 have G_law_cell_at:Fn l.prog w K mg base 1 "_law_cell_at" ["_law_script","_law_k"] zbW:=zf1 d9 z_len
 have G_law_label:Fn l.prog w K mg base 1 "_law_label" ["_law_cell"] zbE:=zhN d10 z_str
 have G_law_word:Fn l.prog w K mg base 1 "_law_word" ["_law_cell"] zbN:=ziJ d11 z_range
 have G_law_key:Fn l.prog w K mg base 1 "_law_key" ["_law_label_here"] zew:=zku d12 z_int z_len
 have G_law_bad:Fn l.prog w K mg base 1 "_law_bad" ["_law_rows","_law_cell"] zdq:=zkv d13 z_len
 have G_law_turned:Fn l.prog w K mg base 1 "_law_turned" ["_law_rows","_law_cell"] zb5:=zgT d14 z_len z_list z_reversed
 have G_is_word:Fn l.prog w K mg base 2 "is_word" ["thing"] zcv:=zkw d15 G_has_only z_isinstance z_len z_str g_LONGEST_WORD g_WORD_SIGNS
 have G_label_rank:Fn l.prog w K mg base 2 "label_rank" ["label"] zcG:=zgU d16 G_figures_of z_int z_len
 have G_is_label_number:Fn l.prog w K mg base 2 "is_label_number" ["text"] zbk:=zej d17 G_has_only z_len g_FIGURES g_MOST_FIGURES
 have G_node_at:Fn l.prog w K mg base 2 "node_at" ["tree","place"] zcu:=zkt d18 G_kid_with
 have G_row_text:Fn l.prog w K mg base 2 "row_text" ["place","words"] zcc:=ziI d19 G_place_text
 have G_row_parts:Fn l.prog w K mg base 2 "row_parts" ["row"] zcm:=zhK d20 G_labels_in z_tuple
 have G_law_words:Fn l.prog w K mg base 2 "_law_words" ["_law_cell"] zbD:=zhL d21 G_law_word z_range z_tuple
 have G_is_label:Fn l.prog w K mg base 3 "is_label" ["thing"] zcH:=ziN d22 G_figures_of G_is_label_number z_isinstance z_len z_str g_MOST_LETTERS
 have G_label_before:Fn l.prog w K mg base 3 "label_before" ["one","other"] zbt:=zfv d23 G_label_rank
 have G_are_words:Fn l.prog w K mg base 3 "are_words" ["thing"] zcY:=zhQ d24 G_is_word z_all z_isinstance z_tuple
 have G_shown:Fn l.prog w K mg base 3 "shown" ["tree"] zdp:=zn7 d25 G_node_at G_places G_row_text
 have G_law_nodes:Fn l.prog w K mg base 3 "_law_nodes" ["_law_cells"] zcn:=zhM d26 G_law_label G_law_words z_len
 have G_are_rising:Fn l.prog w K mg base 4 "are_rising" ["labels"] zb6:=zgX d27 G_label_before z_all z_zip
 have G_law_kids:Fn l.prog w K mg base 4 "_law_kids" ["_law_nodes_here","_law_place"] zcF:=ziL d28 G_law_key z_len z_sorted
 have G_law_tree:Fn l.prog w K mg base 15 "_law_tree" ["_law_nodes_here","_law_place"] (zbs 10):=ziK d29 G_law_kids z_tuple 10
 have S_are_kids:=ziP (P:=l.prog) (w:=w) (base:=base) d32 G_are_rising z_isinstance z_tuple; have S_has_good_parts:=zeI (P:=l.prog) (w:=w) (base:=base) d31 G_are_words S_are_kids; have G_has_good_parts:=S_has_good_parts 10 (zky d30 G_is_label G_is_triple S_has_good_parts 10)
 have G_is_tree:Fn l.prog w K mg base 39 "is_tree" ["thing"] zdr:=zkx d33 G_is_triple G_has_good_parts z_isinstance z_str g_MOST_DEEP
 have G_read:FnX l.prog w K mg base 40 "read" ["text"] (zev ⟨C_MendError,C_NoPlace,C_NoText,C_NoFit,C_NoName,C_Twice,C_NoDay,C_NoAct,C_NoRow⟩):=zqU d34 cf G_is_tree G_shown G_row_parts G_tree_of_rows z_isinstance z_str m_NoText Z_NoText
 have G_law_refused:Fn l.prog w K mg base 41 "_law_refused" ["_law_text"] (zbU ⟨C_MendError,C_NoPlace,C_NoText,C_NoFit,C_NoName,C_Twice,C_NoDay,C_NoAct,C_NoRow⟩):=zfZ d35 cf G_read z_ValueError z_isinstance m_MendError m_NoAct m_NoDay m_NoFit m_NoName m_NoPlace m_NoRow m_NoText m_Twice
 have G_law_read_so:Fn l.prog w K mg base 41 "_law_read_so" ["_law_text"] (zbV ⟨C_MendError,C_NoPlace,C_NoText,C_NoFit,C_NoName,C_Twice,C_NoDay,C_NoAct,C_NoRow⟩):=zf0 d36 cf G_shown G_read z_isinstance z_str m_NoText
 have G_law:Fn l.prog w K mg base 42 "law" ["_law_script"] (zo6 ⟨C_MendError,C_NoPlace,C_NoText,C_NoFit,C_NoName,C_Twice,C_NoDay,C_NoAct,C_NoRow⟩):=zsW (T:=⟨C_MendError,C_NoPlace,C_NoText,C_NoFit,C_NoName,C_Twice,C_NoDay,C_NoAct,C_NoRow⟩) d37 cf G_shown G_law_cell_at G_law_nodes G_law_tree G_law_refused G_law_read_so G_law_bad G_law_turned z_len z_range
 exact zta m37 l37 base G_law
end K13
namespace PySem.W.Fast
def tw12889547969169645784:=yy
def tw18273593652491740923:=yy
def tw4185775383310415672:=yy
def tw15078610181779424125:=yy
def tw14235731696297859329:=yy
def tw16998254467156901724:=yy
def tw9900786789150975232:=yy
def tw13125859820127310998:=yy
def tw11836856157817326247:=yy
def tw5038730209847968319:=yy
def tw12081813190828193369:=yy
def tw16666835590366220575:=yy
def tw7867913524471074160:=yy
def tw1481422934212155351:=yy
def tw11879267630022494118:=yy
def tw723732001721254254:=yy
def tw17872081545486656879:=yy
def tw6823409503620177245:=yy
def tw9371156464412012985:=yy
def tw12416769048520317096:=yy
def tw15642319521971296621:=yy
def tw8845384685084970753:=yy
def tw409244178257614233:=yy
def tw16674031766381516019:=yy
def tw11094945947284343817:=yy
def tw14886156991784834435:=yy
def tw14896789471808020467:=yy
def tw9834418592178341623:=yy
def tw6240694951212981292:=yy
def tw6242878769422678135:=yy
def tw518571952070431342:=yy
def tw3011516113275795920:=yy
def tw3932527326294475511:=yy
def tw8910977756112422465:=yy
def tw5930955360392314761:=yy
def tw6644749835803549351:=yy
def tw14835697429538713349:=yy
def tw2126161947786102286:=yy
def tw5065061587247582192:=yy
def tw17315748178632534446:=yy
def tw10977036863375628269:=yy
def tw18121390573560781357:=yy
def tw11327748827823845061:=yy
def tw13198713105998551213:=yy
def tw4146207040592872217:=yy
def tw17593539952508006399:=yy
def tw14132253880910549548:=yy
def tw9532707934903208795:=yy
def tw4385456741261999588:=yy
def tw17599244692667958354:=yy
def tw5208540685057358184:=yy
def tw18281514526499946265:=yy
def tw4310649163926936261:=yy
def tw10835597189416705100:=yy
def tw9656942011259761070:=yy
def tw8553411735519626547:=yy
def tw13925059813564728458:=yy
def tw11970456272446997368:=yy
def tw15051106018318688665:=yy
def tw12832361951026384332:=yy
def tw1750090859415304612:=yy
def tw10533083815661295276:=yy
def tw11516143052243916494:=yy
def tw765787321787246954:=yy
def tw6348675792609982629:=yy
def tw6455113232186317152:=yy
def tw17278455846056192463:=yy
def tw14424059372923480198:=yy
def tw2457713277914401290:=yy
def tw3901719876219555863:=yy
def tw2828203238691702118:=yy
def tw16828263429096401203:=yy
def tw7122327082883024392:=yy
def tw16919449835502498325:=yy
def tw10177988200093721445:=yy
def tw14428175526887241433:=yy
def tw11883592674307756336:=yy
def tw4061427033912491234:=yy
def tw12374052453703857933:=yy
def tw14547831430515404725:=yy
def tw15389066877967157450:=yy
def tw2541819719923587450:=yy
def tw18412771488181314864:=yy
def tw14900054836091456179:=yy
def tw755428883589338548:=yy
def tw11254496106908463307:=yy
def tw13811277504663436893:=yy
def tw732864957503425072:=yy
def tw6934057856266536403:=yy
def tw9334773767834140445:=yy
def tw13702693169806936563:=yy
def tw12625035164384362043:=yy
def tw16908356859625966969:=yy
def tw4475523076195686451:=yy
def tw6190032855226416504:=yy
def tw95385025557680368:=yy
def tw17610134374813792652:=yy
def tw15168152354122824098:=yy
def tw11979475396248856666:=yy
def tw4243284829191519984:=yy
def tw14625509358274663356:=yy
def tw1357310694778761767:=yy
def tw7682615211067291576:=yy
def tw14191398131950506152:=yy
def tw7917890445150563077:=yy
def tw12456654793434593270:=yy
def tw10186148309781129868:=yy
def tw13748710727083179374:=yy
def tw2948856310299088667:=yy
def tw12406416041501584793:=yy
def tw11006647167230894418:=yy
def tw2184837944483560016:=yy
def tw9249460131132167797:=yy
def tw5817034146318999379:=yy
def tw9266036717064030938:=yy
def tw8176484204252215330:=yy
def tw2508627808436069817:=yy
def tw11331091843678595144:=yy
def tw6188011203394140388:=yy
def tw15689722882229085746:=yy
def tw6031416901900513495:=yy
def tw10898605258767436452:=yy
def tw4156401859951878107:=yy
def tw10104186260736574784:=yy
def tw4141470688533654687:=yy
def tw10601001661188782435:=yy
def tw715448004621114527:=yy
def tw15411213702446330501:=yy
def tw9006657666371974921:=yy
def tw11893984419910688165:=yy
def tw4085931649719922172:=yy
def tw11722652487584688603:=yy
def tw15143871708702076637:=yy
def tw9998326864457536750:=yy
def tw13571347188999363440:=yy
def tw17505682432515766451:=yy
def tw18263480981753855548:=yy
def tw15731367429439921022:=yy
def tw6368334268275124992:=yy
def tw9573162146059583460:=yy
def tw3767310192438066818:=yy
def tw3903338792198719900:=yy
def tw12657518919374505568:=yy
def tw18062442423618965300:=yy
def tw7401675351070670472:=yy
def tw11761862749592944775:=yy
def tw16142468667954040650:=yy
def tw18028977179671454972:=yy
def tw4731037136215680508:=yy
def tw6346253366983421300:=yy
def tw12461491315573042119:=yy
def tw2873362108027600062:=yy
def tw5000510033241788549:=yy
def tw9246840323830989472:=yy
def tw6704961508256780649:=yy
def tw5835673838675937645:=yy
def tw12375954449660567485:=yy
def tw16340192459054681900:=yy
def tw12694457490772788037:=yy
def tw1490179185014649253:=yy
def tw18114769626063442508:=yy
def tw2406083800483365855:=yy
def tw2880805691798042215:=yy
def tw18084353838862163491:=yy
def tw14906937962674438978:=yy
def tw14137633801389642963:=yy
def tw419037237488011981:=yy
def tw700232511846460874:=yy
def tw7664976576457936801:=yy
def tw15284097168529733611:=yy
def tw12589924274164192870:=yy
def tw11047441445391175118:=yy
def tw4701155142764428586:=yy
def tw2906064392824133840:=yy
def tw7960739049818893610:=yy
def tw5436073911120009452:=yy
def tw16692940454179354980:=yy
def tw17751362403949309155:=yy
def tw5627144311344226201:=yy
def tw14086074777284128537:=yy
def tw2058906406332114555:=yy
def tw3580318030127186402:=yy
def tw3734036178820575088:=yy
def tw1195848295191794180:=yy
def tw14162464772626191915:=yy
def tw7512509198693702731:=yy
def tw17135712916771855194:=yy
def tw14281371762908096904:=yy
def tw7260002168935913835:=yy
def tw9599174227714279764:=yy
def tw16209409989897379752:=yy
def tw6240054015233902213:=yy
def tw6850450439350384146:=yy
def tw18194380959806903452:=yy
def tw249345656328224153:=yy
def tw783105210033522812:=yy
def tw9897086245885472432:=yy
def tw17503564691932959245:=yy
def tw3094769440809389908:=yy
def tw7087572428826876764:=yy
def tw3079689158074633175:=yy
def tw14234020254666596979:=yy
def tw2497434588093004002:=yy
def tw10999800252688884709:=yy
def tw4054575665757460602:=yy
def tw15603818547819439803:=yy
def tw5287291505596174768:=yy
def tw10434022409755814257:=yy
def tw15713372002277246546:=yy
def tw10529626843405600495:=yy
def tw1854863660815935602:=yy
def tw5602795005405854079:=yy
def tw11992531311939799340:=yy
def tw1763985672591050435:=yy
def tw12892827404133762827:=yy
def tw9713719739074021797:=yy
def tw14698738739454936900:=yy
def tw5256765916820324651:=yy
def tw17564988251846470774:=yy
def tw5312333725300760525:=yy
def tw16725741971499062342:=yy
def tw11520972576435849849:=yy
def tw14654938890525385775:=yy
def tw594882254855275534:=yy
def tw10908850610837144485:=yy
def tw11143975111624069274:=yy
def tw9297377825479363661:=yy
def tw678270498774724067:=yy
def tw1038969437004880814:=yy
def tw16176473552810440660:=yy
def tw12739976532092901280:=yy
def tw14095075138453767768:=yy
def tw12230593186846147759:=yy
def tw15033055899810228330:=yy
def tw9348313182750799559:=yy
def tw10747876801470001267:=yy
def tw282040354309773043:=yy
def tw7431610510754682545:=yy
def tw10417259844667376778:=yy
def tw8372027737766617533:=yy
def tw7026914134278540780:=yy
def tw830173017480985195:=yy
def tw3036342781317522296:=yy
def tw14805026526928174101:=yy
def tw8986675163550123201:=yy
def tw4968940161959498748:=yy
def tw14306914877827010727:=yy
def tw14139483841845873112:=yy
def tw13551390823589305105:=yy
def tw18057018200263998338:=yy
def tw2918780717858440742:=yy
def tw6939116496790398211:=yy
def tw11587212454443714188:=yy
def tw12540590708524525198:=yy
def tw6130230737882634108:=yy
def tw16385765814605793507:=yy
def tw1413465079594668996:=yy
def tw11999048423571692013:=yy
def tw17991916093558490265:=yy
def tw13084483728137550659:=yy
def tw7652454779641830288:=yy
def tw11699505956127044822:=yy
def tw8010716561249884281:=yy
def tw12692822582416979329:=yy
def tw12312386530705772148:=yy
def tw6094687791532278560:=yy
def tw5612240572821647442:=yy
def tw12799640587671472051:=yy
def tw16897506852649246677:=yy
def tw9522865356831419739:=yy
def tw2955904466480256039:=yy
def tw1350871606030194185:=yy
def tw13449144456310448845:=yy
def tw2961481374217608639:=yy
def tw5015817859172866590:=yy
def tw5803898330444960221:=yy
def tw4189388247241240882:=yy
def tw18436356563031698574:=yy
def tw4727229354887204965:=yy
def tw13481099834956437492:=yy
def tw9593680667217066173:=yy
def tw6812273649158988809:=yy
def tw8571728130434345188:=yy
def tw15718651755961041037:=yy
def tw12337344853039631348:=yy
def tw18232149885218257140:=yy
def tw11675797273328507907:=yy
def tw4414283136996953551:=yy
def tw17716182068816367254:=yy
def tw9439585823458524096:=yy
def tw10725305402556138365:=yy
def tw2665712676777022415:=yy
def tw2900005700198414037:=yy
def tw7460767598628016124:=yy
def tw3040700999785877522:=yy
def tw18057618860688694882:=yy
def tw10310375864949676878:=yy
def tw12736796263776635955:=yy
def tw9179578273530672245:=yy
def tw11255017244803040454:=yy
def tw17139718284952037381:=yy
def tw9255428388167798877:=yy
def tw613910070351728896:=yy
def tw7993363507440626462:=yy
def tw4186052801780344506:=yy
def tw10316270430142317311:=yy
def tw11502966956624954436:=yy
def tw1526311445314963415:=yy
def tw4763404210136994023:=yy
def tw5448873770997902869:=yy
def tw18320462955914402309:=yy
def tw9469290860953178392:=yy
def tw4448973419322111533:=yy
def tw8101198571948387972:=yy
def tw7563595733928488441:=yy
def tw9493303692455689817:=yy
def tw11214037501637295153:=yy
def tw10920556492241178356:=yy
def tw17249338684487523968:=yy
def tw8668619124239016731:=yy
def tw11538211964760211818:=yy
def tw1840590061669166870:=yy
def tw2087856497198592509:=yy
def tw4231471588073895760:=yy
def tw12552521102369175747:=yy
def tw3789524325212465705:=yy
def tw12441313845698763227:=yy
def tw7312887122698795152:=yy
def tw836844340706028785:=yy
def tw11003213913243837031:=yy
def tw3911231380852149266:=yy
def tw16309841265628718250:=yy
def tw10049817874473667045:=yy
def tw15299585965023647880:=yy
def tw6112083307271443765:=yy
def tw7348485214338324039:=yy
def tw3858161378818738979:=yy
def tw11807382243112246037:=yy
def tw10946386713226458320:=yy
def tw15792189002046455923:=yy
def tw13045003440226136060:=yy
def tw6782231737326021533:=yy
def tw4411097949192482262:=yy
def tw4796922117322574320:=yy
def tw6393172293091649374:=yy
def tw15894303684091725870:=yy
def tw5432836158694207670:=yy
def tw1086449945821814975:=yy
def tw9094340810326927025:=yy
def tw12908342677618630102:=yy
def tw16086705737097859518:=yy
def tw16378398271867834053:=yy
def tw1052233212016719035:=yy
def tw2679898781488419771:=yy
def tw16314668701794727685:=yy
def tw3758580834067807760:=yy
def tw4744082476961804766:=yy
def tw13290529764923967480:=yy
def tw4353293818495659338:=yy
def tw5405104600581539282:=yy
def tw10210653278235957140:=yy
def tw6474125067253342372:=yy
def tw18374709075204175391:=yy
def tw1601601319129566680:=yy
def tw2002486266217435664:=yy
def tw6652580623990627648:=yy
def tw12332880349228099657:=yy
def tw7244880020667918210:=yy
def tw15765907828345419791:=yy
def tw13929413254717887260:=yy
def tw5029281220760915325:=yy
def tw17489005060599730356:=yy
def tw762859294313230894:=yy
def tw3951771689663886151:=yy
def tw2511934475953851879:=yy
end PySem.W.Fast
open PySem PySem.W PyProof.Rows
set_option maxRecDepth 100000 in
set_option maxHeartbeats 0 in
theorem PySem.Challenge.cw_codemend_k13_texts_spoilt_holds : PySem.Challenge.rw_codemend_k13_texts_spoilt.Holds := by
 w_on; o_law; k_head; (case hw=>w_witness2)
 k_fill
 refine PL.walk_law (l:=PySem.Challenge.rw_codemend_k13_texts_spoilt) (k:=42) (x:="_law_script") rfl rfl ⟨rfl,by decide,by decide⟩ (fun w h Y=>PySem.W.kIn_of Y) ?F
 case F =>
  intro w mg fa h KX G hmg
  refine' K13.all_mk KX G hmg ?q0 ?q1 ?q2 ?q3 ?q4 ?q5 ?q6 ?q7 ?q8 ?q9 ?qa ?qb ?qc ?qd ?qe ?qf ?qg ?qh ?qi ?qj ?qk ?ql ?qm ?qn ?qo ?qp ?qq ?qr ?qs ?qt ?qu ?qv ?qw ?qx ?qy ?qz ?q10 ?q11 ?q12 ?q13 ?q14 ?q15 ?q16 ?q17 ?q18 ?q19 ?q1a ?q1b ?q1c ?q1d ?q1e ?q1f ?q1g ?q1h ?q1i ?q1j ?q1k ?q1l ?q1m ?q1n ?q1o ?q1p ?q1q ?q1r ?q1s ?q1t ?q1u ?q1v ?q1w ?q1x ?q1y ?q1z ?q20 ?q21 ?q22 ?q23 ?q24 ?q25 ?q26 ?q27 ?q28 ?q29 ?q2a ?q2b ?q2c ?q2d ?q2e ?q2f ?q2g ?q2h ?q2i ?q2j ?q2k ?q2l ?q2m ?q2n ?q2o ?q2p ?q2q ?q2r ?q2s ?q2t ?q2u ?q2v ?q2w ?q2x ?q2y ?q2z ?q30 ?q31 ?q32 ?q33 ?q34 ?q35 ?q36 ?q37 ?q38 ?q39 ?q3a ?q3b ?q3c ?q3d ?q3e ?q3f ?q3g ?q3h ?q3i ?q3j ?q3k ?q3l
  (case q0|q1|q2|q3|q4|q5|q6|q7|q8|q9|qa|qb|qc|qd|qe|qf|qg|qh|qi|qj|qk|ql|qm|qn|qo|qp|qq|qr|qs|qt|qu|qv|qw|qx|qy|qz=>apply PL.Dn.mk<;>k_is)
  (case q10|q11|q12|q13|q14|q15|q16|q17|q18|q19|q1a|q1b|q1c|q1d|q1e|q1f|q1g=>k_is)
  (case q1h=>decide +kernel)
  (case q1i=>k_is)
  (case q1j=>decide +kernel)
  (case q1k=>k_is)
  (case q1l=>decide +kernel)
  (case q1m=>k_is)
  (case q1n=>decide +kernel)
  (case q1o=>k_is)
  (case q1p=>decide +kernel)
  (case q1q=>k_is)
  (case q1r=>decide +kernel)
  (case q1s=>k_is)
  (case q1t=>decide +kernel)
  (case q1u|q1v|q1w|q1x|q1y|q1z|q20|q21|q22|q23|q24|q25|q26|q27|q28|q29|q2a|q2b|q2c|q2d|q2e|q2f|q2g|q2h|q2i|q2j|q2k|q2l|q2m=>k_is)
  (case q2n=>rfl)
  (case q2o|q2p|q2q=>k_is)
  (case q2r=>rfl)
  (case q2s|q2t|q2u|q2v|q2w=>k_is)
  (case q2x|q2y=>rfl)
  (case q2z|q30|q31|q32|q33|q34|q35|q36|q37|q38=>k_is)
  (case q39=>rfl)
  (case q3a=>k_is)
  (case q3b=>rfl)
  (case q3c=>k_is)
  (case q3d=>rfl)
  (case q3e=>k_is)
  (case q3f=>rfl)
  (case q3g=>k_is)
  (case q3h=>rfl)
  (case q3i=>k_is)
  (case q3j=>rfl)
  (case q3k=>k_is)
  (case q3l=>rfl)
